/-
  Rows of bytes; texts out of bytes.
-/
import Derived.Test.YtlafngfoejngaaaQe
import Derived.Test.YtlafngfoejngaaaJa
import Derived.Laws.IdiomStrings
namespace Go.Proofs.Ytlafngfoejngaaa
namespace Mc
open Go.RowKit

def vcs (xs : List Nat) : List Value := xs.map fun (n : Nat) => Value.int .u8 (n : Int)
def VR (w : World) (B : Nat) (v : Value) (xs : List Nat) : Prop := w.ownsRow B 5 1 v xs.length (vcs xs)
theorem VR.of {w : World} {B : Nat} {v : Value} {xs : List Nat} {y : Nat} (h : w.ownsRow B 5 1 v (xs.length + 1) (vcs xs ++ [.int .u8 (y : Int)])) : VR w B v (xs ++ [y]) := by
  unfold VR vcs
  rw [List.length_append, List.map_append]; exact h
theorem VR.at {w : World} {B g cap : Nat} {xs : List Nat} (h : VR w B (.slice (some ⟨g, 0, none⟩) xs.length cap) xs) {k : Nat} (hk : k < xs.length) : w.cell? ⟨g, k, none⟩ = some (.int .u8 ((xs.getD k 0 : Nat) : Int)) := by
  have h' : w.ownsRow B 5 1 (.slice (some ⟨g, 0, none⟩) xs.length cap) xs.length (vcs xs) := h
  have := h'.cells (g := g) rfl k (.int .u8 ((xs.getD k 0 : Nat) : Int)) (by unfold vcs; rw [List.getElem?_map, List.getElem?_eq_getElem hk, List.getD_eq_getElem?_getD, List.getElem?_eq_getElem hk]; rfl)
  rwa [add0] at this
/-- A text out of its bytes. -/
def mkV (xs : List Nat) : ByteArray := ⟨(xs.map UInt8.ofNat).toArray⟩
theorem mkV_size (xs : List Nat) : (mkV xs).size = xs.length := by show ((xs.map UInt8.ofNat).toArray).size = _; simp
theorem mkV_bt {xs : List Nat} (h : ∀ x ∈ xs, x < 256) (k : Nat) : bt (mkV xs) k = xs.getD k 0 := by
  unfold bt
  by_cases hk : k < (mkV xs).size
  · rw [dif_pos hk]
    have hk2 : k < xs.length := by rwa [mkV_size] at hk
    have e : (mkV xs)[k]'hk = (xs.map UInt8.ofNat)[k]'(by rw [List.length_map]; exact hk2) := rfl
    rw [e, List.getElem_map, UInt8.toNat_ofNat', List.getD_eq_getElem?_getD, List.getElem?_eq_getElem hk2]
    exact Nat.mod_eq_of_lt (by have := h _ (List.getElem_mem hk2); omega)
  · rw [dif_neg hk, List.getD_eq_getElem?_getD, List.getElem?_eq_none (by rw [mkV_size] at hk; omega)]; rfl
theorem conv_mv {w : World} {B g cap : Nat} {xs : List Nat} (h : VR w B (.slice (some ⟨g, 0, none⟩) xs.length cap) xs) (hx : ∀ x ∈ xs, x < 256) :
    (convert 71 9 (.slice (some ⟨g, 0, none⟩) xs.length cap)).run Try.prog w = .ok (.string (mkV xs)) w := by
  have hl : (xs.map UInt8.ofNat).length = xs.length := List.length_map _
  have := run_convert_bytes_back (P := Try.prog) w 71 9 5 ⟨g, 0, none⟩ cap (xs.map UInt8.ofNat) Try.underlying71 Try.underlying5 Try.underlying9 (by
    intro j hj
    rw [hl] at hj
    have e : (xs.map UInt8.ofNat)[j] = UInt8.ofNat xs[j] := List.getElem_map _
    rw [e, UInt8.toNat_ofNat', Nat.mod_eq_of_lt (by have := hx _ (List.getElem_mem hj); omega)]
    have := h.at hj
    rw [List.getD_eq_getElem?_getD, List.getElem?_eq_getElem hj] at this
    rw [add0]
    exact this)
  rw [hl] at this
  exact this
theorem infoV : (Try.prog.info? 5).map (fun i => (i.zero, i.size, i.bytes)) = some (some (.int .u8 0), 1, 1) := by kernel_rfl
/-- A byte is appended to a row. -/
theorem appV {ops : Array Oper} {rest : List Oper} {o : Oper} {a : Act} {W : World} {Q : Exit → Act → World → Prop} (hgd : o.guard = none) (s x : Operand)
    (ho : o.op = .call { callee := .builtin .append, args := #[s, x], argTypes := #[71, 71] }) (B : Nat) (v : Value) (xs : List Nat) (hs : a.eval s = v) (hown : VR W B v xs) (g0 : Nat) (y : Nat)
    (hx : a.eval x = .slice (some ⟨g0, 0, none⟩) 1 1) (hc : W.cell? ⟨g0, 0, none⟩ = some (.int .u8 (y : Int))) (hlen : xs.length ≤ 3000000) (hB : B ≤ W.heap.size) (H : Nat) (hH : W.heap.size = H)
    (h : ∀ g cap w', w'.ownsRow B 5 1 (.slice (some ⟨g, 0, none⟩) (xs.length + 1) cap) (xs.length + 1) (vcs xs ++ [.int .u8 (y : Int)]) → W.grownBy w' v.ownBlock → (v.ownBlock = some g ∨ g = H) → g < w'.heap.size → wpList Try.prog ops Q rest (a.put o.dst (.slice (some ⟨g, 0, none⟩) (xs.length + 1) cap)) w') : wpList Try.prog ops Q (o :: rest) a W := by
  obtain ⟨i, i0, i1, i2, i3⟩ := info_of infoV
  exact wpList_append_lies W hgd s x 71 ho B 5 i (.int .u8 0) 1 1 Try.underlying71 i0 i1 i2 i3 rfl (by decide) v xs.length (vcs xs) hs hown ⟨g0, 0, none⟩ 1 1 [.int .u8 (y : Int)] hx rfl (one_cells hc) (by intro u hu; simp at hu; subst hu; rfl) (by decide) (by unfold maxLen; omega) (by omega) hB H hH h

theorem mkV_inj {a b : List Nat} (ha : Byt a) (hb : Byt b) (h : mkV a = mkV b) : a = b := by
  have hl : a.length = b.length := by rw [← mkV_size a, ← mkV_size b, h]
  apply List.ext_getElem? 
  intro k
  by_cases hk : k < a.length
  · have h1 := mkV_bt ha k
    have h2 := mkV_bt hb k
    rw [h, h2, List.getD_eq_getElem?_getD, List.getD_eq_getElem?_getD, List.getElem?_eq_getElem hk, List.getElem?_eq_getElem (hl ▸ hk)] at h1
    rw [List.getElem?_eq_getElem hk, List.getElem?_eq_getElem (hl ▸ hk)]
    exact congrArg some h1.symm
  · rw [List.getElem?_eq_none (by omega), List.getElem?_eq_none (by omega)]
theorem mkV_toList (xs : List Nat) : (mkV xs).toList = xs.map UInt8.ofNat := by
  rw [ByteArray.toList_eq]; rfl
theorem mkV_app (a b : List Nat) : mkV (a ++ b) = mkV a ++ mkV b := by
  apply ByteArray.ext
  show ((a ++ b).map UInt8.ofNat).toArray = (mkV a ++ mkV b).data
  rw [ByteArray.data_append]
  show _ = (a.map UInt8.ofNat).toArray ++ (b.map UInt8.ofNat).toArray
  simp
theorem btsN_mkV {a : List Nat} (ha : Byt a) : btsN (mkV a) = a := by
  apply List.ext_getElem?
  intro k
  unfold btsN
  rw [List.getElem?_map, mkV_size]
  by_cases hk : k < a.length
  · rw [List.getElem?_range hk, Option.map_some, mkV_bt ha, List.getD_eq_getElem?_getD, List.getElem?_eq_getElem hk]; rfl
  · rw [List.getElem?_eq_none (by simp; omega), List.getElem?_eq_none (by omega)]; rfl
theorem btsN_byt (s : ByteArray) : Byt (btsN s) := fun b hb => by
  obtain ⟨k, _, rfl⟩ := List.mem_map.1 hb
  exact bt_le s k

end Mc
end Go.Proofs.Ytlafngfoejngaaa
