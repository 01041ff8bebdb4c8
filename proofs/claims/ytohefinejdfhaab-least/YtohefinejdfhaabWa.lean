/-
  Sets of spots as numbers: move, has, onePart; rows of numbers.
-/
import Derived.Test.YtohefinejdfhaabRead
import Derived.Test.YtohefinejdfhaabLL
import Derived.Laws.BitsAllLaws
namespace Go.Proofs.Ytohefinejdfhaab
open Go.RowKit

def top : Nat := 1152921504606846976
theorem ofInt_i64 (a : Nat) (ha : a < top) : (BitVec.ofInt 64 (a : Int)).toNat = a := by
  unfold top at ha
  rw [BitVec.ofInt_natCast, BitVec.toNat_ofNat]; exact Nat.mod_eq_of_lt (by omega)
theorem wrap_i64 (a : Nat) (ha : a < top) : IntKind.i64.wrap (a : Int) = (a : Int) := by
  unfold top at ha
  unfold IntKind.wrap
  simp only [IntKind.bits, IntKind.signed]
  have h1 : (a : Int) % (2 ^ 64 : Int) = a := Int.emod_eq_of_lt (by omega) (by omega)
  simp only [h1]
  rw [if_neg (by simp; omega)]
theorem i64_and_nat (a b : Nat) (ha : a < top) (hb : b < top) : bits .and .i64 (a : Int) (b : Int) = ((a &&& b : Nat) : Int) := by
  have hx : a &&& b < top := Nat.lt_of_le_of_lt Nat.and_le_left ha
  show IntKind.i64.wrap ((BitVec.ofInt 64 (a : Int) &&& BitVec.ofInt 64 (b : Int)).toNat : Int) = _
  rw [BitVec.toNat_and, ofInt_i64 a ha, ofInt_i64 b hb, wrap_i64 _ hx]
theorem i64_or_nat (a b : Nat) (ha : a < top) (hb : b < top) : bits .or .i64 (a : Int) (b : Int) = ((a ||| b : Nat) : Int) := by
  have hx : a ||| b < top := Nat.or_lt_two_pow (n := 60) ha hb
  show IntKind.i64.wrap ((BitVec.ofInt 64 (a : Int) ||| BitVec.ofInt 64 (b : Int)).toNat : Int) = _
  rw [BitVec.toNat_or, ofInt_i64 a ha, ofInt_i64 b hb, wrap_i64 _ hx]

theorem wrap64_nat (a : Nat) (ha : a < top) : wrap64 (a : Int) = (a : Int) := by unfold top at ha; unfold wrap64; omega
theorem cast_move (x k : Nat) : ((x * 2 ^ k : Nat) : Int) = (x : Int) * 2 ^ k := by simp

set_option maxHeartbeats 400000 in
theorem move_any (x k : Nat) (w : World) (hk : k ≤ 60) (hx : x * 2 ^ k < top) :
    Calls Try.prog 59 #[.int .i64 (x : Int), .int .i64 (k : Int)] w fun e w' => e = .returned (.int .i64 ((x * 2 ^ k : Nat) : Int)) ∧ w' = w := by
  have HW := hide (wrap64_nat _ hx)
  have hk' : (k : Int) ≤ 60 := by omega
  clear hx
  go_enter Try.func59, Try.ntmps59
  go_wp2
  go_ret
  exact ⟨ret_int (by rw [← unhide HW, cast_move]), rfl⟩

theorem pow_top {k : Nat} (hk : k < 60) : 2 ^ k < top := Nat.pow_lt_pow_right (a := 2) (m := k) (n := 60) (by omega) hk
theorem bit_and (x k : Nat) : ((2 ^ k &&& x : Nat) : Int) ≠ 0 ↔ x.testBit k = true := by
  have h : 2 ^ k &&& x ≠ 0 ↔ x.testBit k = true := by
    rw [and_ne_zero]
    constructor
    · rintro ⟨i, h1, h2⟩; rw [bit_two] at h1; subst h1; exact h2
    · intro h; exact ⟨k, (bit_two k k).2 rfl, h⟩
  rw [← h]; omega

set_option maxHeartbeats 400000 in
theorem has_any (x k : Nat) (w : World) (hk : k < 60) (hx : x < top) :
    Calls Try.prog 96 #[.int .i64 (x : Int), .int .i64 (k : Int)] w fun e w' => e = .returned (.bool (x.testBit k)) ∧ w' = w := by
  have hm := move_any 1 k w (Nat.le_of_lt hk) (by rw [Nat.one_mul]; exact pow_top hk)
  rw [Nat.one_mul] at hm
  have HM := hide hm
  have e1 := i64_and_nat (2 ^ k) x (pow_top hk) hx
  have HB := hide (bit_and x k)
  clear hm hk hx
  generalize 2 ^ k = b at *
  go_enter Try.func96, Try.ntmps96
  go_wp2_with (go_at_call 59; refine (unhide HM).mono ?_; rintro e w' ⟨rfl, rfl⟩)
  go_ret
  exact ⟨ret_bool (by rw [Bool.eq_iff_iff, ← unhide HB]; simp), rfl⟩

def natCells (xs : List Nat) : List Value := xs.map fun n : Nat => .int .i64 (n : Int)

/-- A row of numbers in memory, and a slice of it. -/
def NRow (w : World) (B : Nat) (v : Value) (xs : List Nat) : Prop := w.ownsRow B 3 1 v xs.length (natCells xs)
def ZRow (w : World) (B : Nat) (v : Value) (zs : List Int) : Prop := w.ownsRow B 3 1 v zs.length (intCells zs)
def setOf (fs : List (Nat → Bool)) (z : Int) : Nat → Bool := if 0 ≤ z then (fs[z.toNat]?).getD (fun _ => false) else fun _ => false

/-- A part in memory. -/
def PartAt (w : World) (v : Value) (fs : List (Nat → Bool)) (p : Part) : Prop :=
  ∃ nv sv zs, v = .agg #[.bool p.empty, .int .i64 (p.first : Int), .int .i64 (p.last : Int), nv, sv] ∧ NRow w 0 nv p.next ∧ ZRow w 0 sv zs ∧ zs.map (setOf fs) = p.sets

theorem own_below {w w' : World} {B e z : Nat} {v : Value} {n : Nat} {xs : List Value} (h : w.ownsRow B e z v n xs) (hb : Below w.heap.size w w') : w'.ownsRow B e z v n xs :=
  h.kept (grownBy_of_below hb none) (by cases v.ownBlock <;> simp)
theorem NRow.below {w w' : World} {B : Nat} {v : Value} {xs : List Nat} (h : NRow w B v xs) (hb : Below w.heap.size w w') : NRow w' B v xs := own_below h hb
theorem ZRow.below {w w' : World} {B : Nat} {v : Value} {xs : List Int} (h : ZRow w B v xs) (hb : Below w.heap.size w w') : ZRow w' B v xs := own_below h hb
theorem PartAt.below {w w' : World} {v : Value} {fs : List (Nat → Bool)} {p : Part} (h : PartAt w v fs p) (hb : Below w.heap.size w w') : PartAt w' v fs p := by
  obtain ⟨nv, sv, zs, h1, h2, h3, h4⟩ := h
  exact ⟨nv, sv, zs, h1, h2.below hb, h3.below hb, h4⟩
theorem NRow.zero {w : World} {B : Nat} {v : Value} {xs : List Nat} (h : NRow w B v xs) : NRow w 0 v xs := ownsRow_less h (Nat.zero_le _)
theorem ZRow.zero {w : World} {B : Nat} {v : Value} {xs : List Int} (h : ZRow w B v xs) : ZRow w 0 v xs := ownsRow_less h (Nat.zero_le _)
theorem NRow.form {w : World} {B : Nat} {v : Value} {xs : List Nat} (h : NRow w B v xs) : (∃ a c, v = .slice a xs.length c) := by
  rcases h.2 with ⟨rfl, h0⟩ | ⟨g, cap, cur, rfl, _⟩
  · exact ⟨none, 0, by rw [h0]⟩
  · exact ⟨_, _, rfl⟩
theorem ZRow.form {w : World} {B : Nat} {v : Value} {xs : List Int} (h : ZRow w B v xs) : (∃ a c, v = .slice a xs.length c) := by
  rcases h.2 with ⟨rfl, h0⟩ | ⟨g, cap, cur, rfl, _⟩
  · exact ⟨none, 0, by rw [h0]⟩
  · exact ⟨_, _, rfl⟩
theorem NRow.at {w : World} {B : Nat} {v : Value} {xs : List Nat} (h : NRow w B v xs) {k : Nat} (hk : k < xs.length) : ∃ g cap, v = .slice (some ⟨g, 0, none⟩) xs.length cap ∧ w.cell? ⟨g, k, none⟩ = some (.int .i64 ((xs.getD k 0 : Nat) : Int)) := by
  obtain ⟨m, hm⟩ : ∃ m, xs.length = m + 1 := ⟨xs.length - 1, by omega⟩
  have h' : w.ownsRow B 3 1 v xs.length (natCells xs) := h
  obtain ⟨g, cap, rfl⟩ : ∃ g cap, v = .slice (some ⟨g, 0, none⟩) xs.length cap := by
    rw [hm] at h' ⊢; exact own_form h'
  refine ⟨g, cap, rfl, ?_⟩
  have := h'.cells (g := g) rfl k (.int .i64 ((xs.getD k 0 : Nat) : Int)) (by simp [natCells, hk])
  have hadd : (⟨g, 0, none⟩ : Addr).add k = ⟨g, k, none⟩ := by unfold Addr.add; split <;> simp_all
  rwa [hadd] at this
theorem ZRow.at {w : World} {B : Nat} {v : Value} {xs : List Int} (h : ZRow w B v xs) {k : Nat} (hk : k < xs.length) : ∃ g cap, v = .slice (some ⟨g, 0, none⟩) xs.length cap ∧ w.cell? ⟨g, k, none⟩ = some (.int .i64 (xs.getD k 0)) := by
  obtain ⟨m, hm⟩ : ∃ m, xs.length = m + 1 := ⟨xs.length - 1, by omega⟩
  have h' : w.ownsRow B 3 1 v xs.length (intCells xs) := h
  obtain ⟨g, cap, rfl⟩ : ∃ g cap, v = .slice (some ⟨g, 0, none⟩) xs.length cap := by
    rw [hm] at h' ⊢; exact own_form h'
  refine ⟨g, cap, rfl, ?_⟩
  have := h'.cells (g := g) rfl k (.int .i64 (xs.getD k 0)) (by simp [intCells, hk])
  have hadd : (⟨g, 0, none⟩ : Addr).add k = ⟨g, k, none⟩ := by unfold Addr.add; split <;> simp_all
  rwa [hadd] at this

end Go.Proofs.Ytohefinejdfhaab
