/-
  veil.Code, veil.Check.
  veilref.Image.Grants.
-/
import Derived.Test.YtlafngfoejngaaaQe
import Derived.Test.YtlafngfoejngaaaQA
namespace Go.Proofs.Ytlafngfoejngaaa
namespace Mc
open Go.RowKit
attribute [local go_sem ↓] Go.wp_at_zero Go.wp_at_succ

theorem Tbs.up {w w' : World} {g m : Nat} {ts : Nat → TabN} (h : Tbs w w.heap.size g m ts) (hb : Below w.heap.size w w') : Tbs w' w'.heap.size g m ts := by
  refine ⟨fun j hj => ?_, Nat.lt_of_lt_of_le h.lt hb.size⟩
  obtain ⟨gv, nv, h1, h2⟩ := h.at_ j hj
  exact ⟨gv, nv, fun k v hv => (Fr.ofBelow hb).cell (h1 k v hv) (by simp), h2.fr (Fr.ofBelow hb) (NoRows.nil _) hb.size⟩
/-- The code and the data of an image. -/
def imO (x : ByteArray) : List OpI := codeOf 32 (bt x 2) (layP (imF x) (bt x 3) (imT x) (bt x 3))
def imD (x : ByteArray) : List Nat := layD (imF x) (bt x 3) (imT x) (bt x 3)
/-- The verdict of an image, and the trace. -/
def imV (x s : ByteArray) : Bool := trueF (imF x) (ruleT (bt x 3) (imT x) (btsN s))
def imTr (x : ByteArray) : List Nat := codeT 32 (bt x 2) (layP (imF x) (bt x 3) (imT x) (bt x 3))
/-- What Check answers. -/
def ChA (w w' : World) (x s : ByteArray) (e : Ending) : Prop :=
  (ImOk x ∧ s.size ≤ bt x 2 ∧ ∃ tv, e = .returned (.tuple #[.bool (imV x s), tv, .int .i64 0]) ∧ NR w' w.heap.size tv (imTr x)) ∨
  (ImOk x ∧ bt x 2 < s.size ∧ e = .returned (.tuple #[.bool false, .slice none 0 0, .int .i64 1])) ∨
  (¬ ImOk x ∧ e = .returned (.tuple #[.bool false, .slice none 0 0, .int .i64 7]))
end Mc
end Go.Proofs.Ytlafngfoejngaaa
namespace Go.Proofs.Ytlafngfoejngaaa
namespace Mc
open Go.RowKit
attribute [local go_sem ↓] Go.wp_at_zero Go.wp_at_succ

theorem ruleT_succ (k : Nat) (ts : Nat → TabN) (bs : List Nat) : ruleT (k + 1) ts bs = ruleT k ts bs ++ [(ts k).gr ((ts k).run bs)] := by unfold ruleT; rw [map_snoc]
theorem ruleT_len (k : Nat) (ts : Nat → TabN) (bs : List Nat) : (ruleT k ts bs).length = k := by unfold ruleT; simp
theorem btsN_lt (s : ByteArray) : ∀ b ∈ btsN s, b < 256 := fun b hb => by
  obtain ⟨k, _, rfl⟩ := List.mem_map.1 hb
  exact bt_le s k
theorem run_take_succ (t : TabN) (s : ByteArray) {i : Nat} (hi : i < s.size) : t.run ((btsN s).take (i + 1)) = t.nx (t.run ((btsN s).take i)) (t.cl (bt s i)) := by
  have hg : (btsN s)[i]? = some (bt s i) := by unfold btsN; rw [List.getElem?_map, List.getElem?_range hi]; rfl
  rw [List.take_add_one, hg]
  exact t.run_snoc _ _
theorem run_take_all (t : TabN) (s : ByteArray) : t.run ((btsN s).take s.size) = t.run (btsN s) := by rw [List.take_of_length_le (by rw [btsN_len]; exact Nat.le_refl _)]

theorem orb (tr : List Bool) (k : Nat) (hk : tr.length = k) (h4 : k < 4) : bits BinOp.or IntKind.i64 ((sumG 0 tr : Nat) : Int) (wrap64 (2 ^ k)) = ((sumG 0 (tr ++ [true]) : Nat) : Int) := by
  have e1 : wrap64 ((2 : Int) ^ k) = ((2 ^ k : Nat) : Int) := by
    have e0 : ((2 ^ k : Nat) : Int) = (2 : Int) ^ k := by rw [Int.natCast_pow]; rfl
    have h1 : 2 ^ k ≤ 2 ^ 4 := Nat.pow_le_pow_right (by decide) (by omega)
    rw [← e0]
    generalize 2 ^ k = y at *
    unfold wrap64; omega
  have hm := sumG_le tr (by omega)
  have hp : 2 ^ k ≤ 2 ^ 4 := Nat.pow_le_pow_right (by decide) (by omega)
  rw [e1, or_nat _ _ (by omega) (by omega), ← hk, sumG_or, sumG_snoc, if_pos rfl, Nat.zero_add]

end Mc
end Go.Proofs.Ytlafngfoejngaaa
