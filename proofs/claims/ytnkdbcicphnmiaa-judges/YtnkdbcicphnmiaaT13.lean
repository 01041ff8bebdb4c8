/-
  veilkeep's small tables: what they are; their cells.
  veilkeep.at, veilkeep.tab.
-/
import Derived.Test.YtnkdbcicphnmiaaQf
namespace Go.Proofs.Ytnkdbcicphnmiaa
namespace Mc
open Go.RowKit

/-- The i-th byte of raw, over and over. -/
def atR (raw : ByteArray) (i : Nat) : Nat := if raw.size = 0 then 0 else bt raw (i % raw.size)
theorem atR_lt (raw : ByteArray) (i : Nat) : atR raw i < 256 := by unfold atR; split; decide; exact bt_le _ _
/-- The small table out of raw, from a byte on. -/
def kS (raw : ByteArray) (f : Nat) : Nat := 1 + atR raw f % 4
def kCl (raw : ByteArray) (f : Nat) : Nat := 1 + atR raw (f + 1) % 3
def kT (raw : ByteArray) (f : Nat) : TabN := ⟨kS raw f, kCl raw f, fun b => atR raw (f + 2 + b / 16 + b % 3) % kCl raw f, fun i => (((atR raw (f + 3 + i) / 4 % 2 : Nat) : Int) == 1), fun i k => atR raw (f + 4 + 3 * i + k) / 3 % kS raw f⟩
theorem kS_le (raw : ByteArray) (f : Nat) : 1 ≤ kS raw f ∧ kS raw f ≤ 4 := by unfold kS; omega
theorem kCl_le (raw : ByteArray) (f : Nat) : 1 ≤ kCl raw f ∧ kCl raw f ≤ 3 := by unfold kCl; omega
theorem kT_ok (raw : ByteArray) (f : Nat) : (kT raw f).Ok := by
  have h1 := kS_le raw f
  have h2 := kCl_le raw f
  exact ⟨h1.1, h2.1, by show kS raw f ≤ 24; omega, by show kCl raw f ≤ 24; omega, fun b _ => Nat.mod_lt _ h2.1, fun q c _ _ => Nat.mod_lt _ h1.1⟩

/-- A row of 274 cells. -/
def arr (p : Nat → Value) : Array Value := ((List.range 274).map p).toArray
theorem arr_size (p : Nat → Value) : (arr p).size = 274 := by unfold arr; simp
theorem arr_get (p : Nat → Value) {k : Nat} (hk : k < 274) : (arr p)[k]? = some (p k) := by
  unfold arr; rw [List.getElem?_toArray, List.getElem?_map, List.getElem?_range hk]; rfl
theorem arr_set {p p' : Nat → Value} {k : Nat} {v : Value} (hk : k < 274) (h : ∀ j, j < 274 → p' j = if j = k then v else p j) : (arr p).setIfInBounds k v = arr p' := by
  apply Array.ext_getElem?
  intro j
  rw [Array.getElem?_setIfInBounds]
  by_cases hj : j < 274
  · rw [arr_get _ hj, arr_get _ hj, h j hj]
    by_cases e : k = j
    · subst e; rw [if_pos rfl, if_pos rfl, if_pos (by rw [arr_size]; exact hk)]
    · rw [if_neg e, if_neg (fun e2 => e e2.symm)]
  · rw [if_neg (by omega), Array.getElem?_eq_none (by rw [arr_size]; omega), Array.getElem?_eq_none (by rw [arr_size]; omega)]
/-- The cells of a small table: numbers of states and classes, the classes of bytes, what is granted, what is next. -/
def kV (S C : Nat) (cl : Nat → Nat) (gr : Nat → Bool) (nx : Nat → Nat) (k : Nat) : Value :=
  if k = 0 then .int .i64 (S : Int) else if k = 1 then .int .i64 (C : Int) else if k < 258 then .int .i64 ((cl (k - 2) : Nat) : Int) else if k < 262 then .bool (gr (k - 258)) else .int .i64 ((nx (k - 262) : Nat) : Int)
theorem kV_one (S C : Nat) (cl : Nat → Nat) (gr : Nat → Bool) (nx : Nat → Nat) : (arr (kV S C cl gr nx)).all (·.oneCell') = true := by
  unfold arr
  rw [List.all_toArray, List.all_map, List.all_eq_true]
  intro k _
  show (kV S C cl gr nx k).oneCell' = true
  unfold kV
  split <;> (try rfl)
  split <;> (try rfl)
  split <;> (try rfl)
  split <;> rfl
def zcK : Array Value := arr (kV 0 0 (fun _ => 0) (fun _ => false) (fun _ => 0))
theorem zcK_size : zcK.size = 274 := arr_size _
theorem zcK_ne : zcK ≠ #[] := fun e => by have := zcK_size; rw [e] at this; simp at this
theorem zvK (w : World) : (zeroValue 46).run Try.prog w = .ok (.agg zcK) w := by kernel_rfl
theorem infoK : (Try.prog.info? 46).map (·.size) = some 274 := by kernel_rfl
section
variable {S C : Nat} {cl : Nat → Nat} {gr : Nat → Bool} {nx : Nat → Nat}
theorem kV_0 : (arr (kV S C cl gr nx))[0]? = some (.int .i64 (S : Int)) := arr_get _ (by decide)
theorem kV_1 : (arr (kV S C cl gr nx))[1]? = some (.int .i64 (C : Int)) := arr_get _ (by decide)
theorem kV_cl {b : Nat} (h : b < 256) : (arr (kV S C cl gr nx))[2 + b]? = some (.int .i64 ((cl b : Nat) : Int)) := by
  rw [arr_get _ (by omega)]; unfold kV; rw [if_neg (by omega), if_neg (by omega), if_pos (by omega), show 2 + b - 2 = b by omega]
theorem kV_gr {i : Nat} (h : i < 4) : (arr (kV S C cl gr nx))[258 + i]? = some (.bool (gr i)) := by
  rw [arr_get _ (by omega)]; unfold kV; rw [if_neg (by omega), if_neg (by omega), if_neg (by omega), if_pos (by omega), show 258 + i - 258 = i by omega]
theorem kV_nx {j : Nat} (h : j < 12) : (arr (kV S C cl gr nx))[262 + j]? = some (.int .i64 ((nx j : Nat) : Int)) := by
  rw [arr_get _ (by omega)]; unfold kV; rw [if_neg (by omega), if_neg (by omega), if_neg (by omega), if_neg (by omega), show 262 + j - 262 = j by omega]
theorem kV_set0 (x : Nat) : (arr (kV S C cl gr nx)).setIfInBounds 0 (.int .i64 (x : Int)) = arr (kV x C cl gr nx) := arr_set (by decide) fun j _ => by
  unfold kV; by_cases e : j = 0
  · rw [if_pos e, if_pos e]
  · rw [if_neg e, if_neg e, if_neg e]
theorem kV_set1 (x : Nat) : (arr (kV S C cl gr nx)).setIfInBounds 1 (.int .i64 (x : Int)) = arr (kV S x cl gr nx) := arr_set (by decide) fun j _ => by
  unfold kV; by_cases e : j = 1
  · subst e; rfl
  · rw [if_neg e, if_neg e, if_neg e]
theorem kV_setC {b : Nat} (h : b < 256) (x : Nat) : (arr (kV S C cl gr nx)).setIfInBounds (2 + b) (.int .i64 ((x : Nat) : Int)) = arr (kV S C (fun c => if c = b then x else cl c) gr nx) := arr_set (by omega) fun j _ => by
  unfold kV; by_cases e : j = 2 + b
  · rw [if_pos e, if_neg (by omega), if_neg (by omega), if_pos (by omega)]; dsimp only; rw [if_pos (by omega)]
  · rw [if_neg e]
    split; rfl
    split; rfl
    split
    · dsimp only; rw [if_neg (by omega)]
    · rfl
theorem kV_setG {i : Nat} (h : i < 4) (x : Bool) : (arr (kV S C cl gr nx)).setIfInBounds (258 + i) (.bool x) = arr (kV S C cl (fun c => if c = i then x else gr c) nx) := arr_set (by omega) fun j _ => by
  unfold kV; by_cases e : j = 258 + i
  · rw [if_pos e, if_neg (by omega), if_neg (by omega), if_neg (by omega), if_pos (by omega)]; dsimp only; rw [if_pos (by omega)]
  · rw [if_neg e]
    split; rfl
    split; rfl
    split; rfl
    split
    · dsimp only; rw [if_neg (by omega)]
    · rfl
theorem kV_setN {i : Nat} (h : i < 12) (x : Nat) : (arr (kV S C cl gr nx)).setIfInBounds (262 + i) (.int .i64 ((x : Nat) : Int)) = arr (kV S C cl gr (fun c => if c = i then x else nx c)) := arr_set (by omega) fun j hj => by
  unfold kV; by_cases e : j = 262 + i
  · rw [if_pos e, if_neg (by omega), if_neg (by omega), if_neg (by omega), if_neg (by omega)]; dsimp only; rw [if_pos (by omega)]
  · rw [if_neg e]
    split; rfl
    split; rfl
    split; rfl
    split; rfl
    · dsimp only; rw [if_neg (by omega)]
end
theorem kV_congr {S C : Nat} {cl cl' : Nat → Nat} {gr gr' : Nat → Bool} {nx nx' : Nat → Nat} (h1 : ∀ b, b < 256 → cl b = cl' b) (h2 : ∀ b, b < 4 → gr b = gr' b) (h3 : ∀ b, b < 12 → nx b = nx' b) : arr (kV S C cl gr nx) = arr (kV S C cl' gr' nx') := by
  apply Array.ext_getElem?
  intro j
  by_cases hj : j < 274
  · rw [arr_get _ hj, arr_get _ hj]
    unfold kV
    split; rfl
    split; rfl
    split
    · rw [h1 _ (by omega)]
    split
    · rw [h2 _ (by omega)]
    · rw [h3 _ (by omega)]
  · rw [Array.getElem?_eq_none (by rw [arr_size]; omega), Array.getElem?_eq_none (by rw [arr_size]; omega)]
/-- The cells of a table. -/
def kCells (t : TabN) : Array Value := arr (kV t.S t.C t.cl t.gr (fun j => t.nx (j / 3) (j % 3)))

end Mc
end Go.Proofs.Ytnkdbcicphnmiaa
namespace Go.Proofs.Ytnkdbcicphnmiaa
namespace Mc
open Go.RowKit

section
attribute [local go_sem ↓] Go.wp_at_zero Go.wp_at_succ
set_option maxRecDepth 20000 in
theorem kat_any (w : World) (raw : ByteArray) (i : Nat) (hr : raw.size ≤ 9223372036854775807) (hi : i ≤ 100000) : Calls Try.prog 78 #[.string raw, .int .i64 (i : Int)] w fun e w' => e = .returned (.int .i64 ((atR raw i : Nat) : Int)) ∧ w' = w := by
  have hrI : (raw.size : Int) ≤ 9223372036854775807 := by omega
  have hiI : (i : Int) ≤ 100000 := by omega
  unfold atR
  by_cases h0 : raw.size = 0
  · rw [if_pos h0]
    have h0I : (raw.size : Int) = 0 := by omega
    have h0b : ((raw.size : Int) == 0) = true := by rw [h0I]; rfl
    clear h0 hr hi
    go_enter Try.func78, Try.ntmps78
    go_wp2_with fail
    go_ret
    exact ⟨rfl, rfl⟩
  · rw [if_neg h0]
    have h0b : ((raw.size : Int) == 0) = false := beq_eq_false_iff_ne.2 (by omega)
    have h0I : ¬ (raw.size : Int) = 0 := by omega
    have hm : i % raw.size < raw.size := Nat.mod_lt _ (by omega)
    have e1 : (i : Int) % (raw.size : Int) = ((i % raw.size : Nat) : Int) := by rw [Int.natCast_emod]
    have e2 : (i : Int).tmod (raw.size : Int) = ((i % raw.size : Nat) : Int) := by rw [Int.tmod_eq_emod_of_nonneg (by omega), e1]
    have l1 : ((i % raw.size : Nat) : Int) < (raw.size : Int) := by omega
    have n1 : (((i % raw.size : Nat) : Int)).toNat = i % raw.size := by omega
    have g1 : (0 : Int) ≤ ((i % raw.size : Nat) : Int) := by omega
    have b1 := bt_at raw (i % raw.size)
    have b2 : ((bt raw (i % raw.size) : Nat) : Int) < 256 := by have := bt_le raw (i % raw.size); omega
    have w1 := wrap_i64 (i % raw.size) (by have := Nat.mod_le i raw.size; omega)
    clear h0 hr hi
    generalize i % raw.size = j at *
    go_enter Try.func78, Try.ntmps78
    go_wp2_with fail
    go_ret
    exact ⟨rfl, rfl⟩
end

end Mc
end Go.Proofs.Ytnkdbcicphnmiaa
