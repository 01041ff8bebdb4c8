/-
  What stands before what; few tuples of small tables. (Mathematics.)
  Plans have few tuples; veilkeep.before; what Witness and Differ answer of plans.
  veilkeep.First, veilkeep.Told.
-/
import Derived.Test.YtnkdbcicphnmiaaT19
import Derived.Test.YtnkdbcicphnmiaaT14
import Derived.Test.YtnkdbcicphnmiaaJm
import Derived.Test.YtnkdbcicphnmiaaT15
namespace Go.Proofs.Ytnkdbcicphnmiaa
namespace Mc
open Go.RowKit

theorem nvf_lt : ∀ (xs ys : List Nat) (n m : Nat), xs.length = ys.length → Byt xs → n < m → xs.foldl (fun n b => n * 256 + b + 1) n < ys.foldl (fun n b => n * 256 + b + 1) m
  | [], [], n, m, _, _, h => h
  | [], _ :: _, _, _, hl, _, _ => by simp at hl
  | _ :: _, [], _, _, hl, _, _ => by simp at hl
  | x :: xs, y :: ys, n, m, hl, hb, h => by
    have hx := hb x (by simp)
    exact nvf_lt xs ys _ _ (by simpa using hl) (fun b hb' => hb b (by simp [hb'])) (by show n * 256 + x + 1 < m * 256 + y + 1; omega)
theorem less_nvf : ∀ (xs ys : List UInt8) (n : Nat), xs.length = ys.length → Op.bytesLess xs ys = decide ((xs.map UInt8.toNat).foldl (fun n b => n * 256 + b + 1) n < (ys.map UInt8.toNat).foldl (fun n b => n * 256 + b + 1) n)
  | [], [], n, _ => by simp [Op.bytesLess]
  | [], _ :: _, _, hl => by simp at hl
  | _ :: _, [], _, hl => by simp at hl
  | x :: xs, y :: ys, n, hl => by
    have hl' : xs.length = ys.length := by simpa using hl
    have hbx : Byt (xs.map UInt8.toNat) := fun b hb => by obtain ⟨u, _, rfl⟩ := List.mem_map.1 hb; exact u.toNat_lt
    have hby : Byt (ys.map UInt8.toNat) := fun b hb => by obtain ⟨u, _, rfl⟩ := List.mem_map.1 hb; exact u.toNat_lt
    have hll : (xs.map UInt8.toNat).length = (ys.map UInt8.toNat).length := by simpa using hl'
    rw [Op.bytesLess, List.map_cons, List.map_cons, List.foldl_cons, List.foldl_cons]
    by_cases h1 : x.toNat < y.toNat
    · have := nvf_lt _ _ (n * 256 + x.toNat + 1) (n * 256 + y.toNat + 1) hll hbx (by omega)
      rw [decide_eq_true this, show decide (x < y) = true from decide_eq_true h1]; rfl
    · have h1' : decide (x < y) = false := decide_eq_false h1
      rw [h1', Bool.false_or]
      by_cases h2 : x = y
      · subst h2
        rw [beq_self_eq_true, Bool.true_and, less_nvf xs ys _ hl']
      · rw [show (x == y) = false from beq_eq_false_iff_ne.2 h2, Bool.false_and]
        have h3 : y.toNat < x.toNat := by
          have : x.toNat ≠ y.toNat := fun e => h2 (UInt8.toNat.inj e)
          omega
        have := nvf_lt _ _ (n * 256 + y.toNat + 1) (n * 256 + x.toNat + 1) hll.symm hby (by omega)
        exact (decide_eq_false (by omega)).symm
theorem btsN_list (s : ByteArray) : btsN s = s.toList.map UInt8.toNat := by
  apply List.ext_getElem?
  intro k
  unfold btsN
  rw [ByteArray.toList_eq, List.getElem?_map, List.getElem?_map]
  by_cases hk : k < s.size
  · have hk' : k < s.data.toList.length := hk
    rw [List.getElem?_range hk, List.getElem?_eq_getElem hk', Option.map_some, Option.map_some]
    exact congrArg some (bt_at s k hk).symm
  · rw [List.getElem?_eq_none (by simp; omega), List.getElem?_eq_none (by show s.data.toList.length ≤ k; rw [Array.length_toList]; exact Nat.le_of_not_lt hk)]; rfl
/-- Which stands before. -/
def befN (a b : List Nat) : Bool := decide (nv a < nv b)
theorem befN_short {a b : ByteArray} (h : a.size < b.size) : befN (btsN a) (btsN b) = true := decide_eq_true (nv_len _ _ (btsN_byt a) (btsN_byt b) (by rw [btsN_len, btsN_len]; exact h))
theorem befN_long {a b : ByteArray} (h : b.size < a.size) : befN (btsN a) (btsN b) = false := decide_eq_false (by have := nv_len _ _ (btsN_byt b) (btsN_byt a) (by rw [btsN_len, btsN_len]; exact h); omega)
theorem befN_same {a b : ByteArray} (h : a.size = b.size) : befN (btsN a) (btsN b) = Op.bytesLess a.toList b.toList := by
  rw [less_nvf a.toList b.toList 0 (by rw [ByteArray.toList_eq, ByteArray.toList_eq, Array.length_toList, Array.length_toList]; exact h)]
  unfold befN nv
  rw [btsN_list, btsN_list]

end Mc
end Go.Proofs.Ytnkdbcicphnmiaa
namespace Go.Proofs.Ytnkdbcicphnmiaa
namespace Mc
open Go.RowKit

theorem few_small {m : Nat} {ts : Nat → TabN} (hm : m ≤ 4) (hok : ∀ i, i < m → (ts i).Ok) (h4 : ∀ i, i < m → (ts i).S ≤ 4) : ¬ Many (stT m ts) := by
  have hlt : ∀ v, Byt v → ∀ i, (stT m ts v).getD i 0 < 4 := fun v hv i => by
    by_cases hi : i < m
    · have := stT_lt hok hv hi; have := h4 i hi; omega
    · rw [List.getD_eq_getElem?_getD, List.getElem?_eq_none (by rw [stT_len]; omega)]; decide
  refine not_many (fun σ => σ.getD 0 0 + 4 * σ.getD 1 0 + 16 * σ.getD 2 0 + 64 * σ.getD 3 0) (fun v hv => ?_) (fun u v hu hv e => ?_)
  · have h0 := hlt v hv 0
    have h1 := hlt v hv 1
    have h2 := hlt v hv 2
    have h3 := hlt v hv 3
    show _ < 256
    omega
  · have a0 := hlt v hv 0
    have a1 := hlt v hv 1
    have a2 := hlt v hv 2
    have a3 := hlt v hv 3
    have b0 := hlt u hu 0
    have b1 := hlt u hu 1
    have b2 := hlt u hu 2
    have b3 := hlt u hu 3
    have e' : (stT m ts u).getD 0 0 + 4 * (stT m ts u).getD 1 0 + 16 * (stT m ts u).getD 2 0 + 64 * (stT m ts u).getD 3 0 = (stT m ts v).getD 0 0 + 4 * (stT m ts v).getD 1 0 + 16 * (stT m ts v).getD 2 0 + 64 * (stT m ts v).getD 3 0 := e
    have key : ∀ i, i < 4 → (stT m ts u).getD i 0 = (stT m ts v).getD i 0 := fun i hi => by
      have : i = 0 ∨ i = 1 ∨ i = 2 ∨ i = 3 := by omega
      rcases this with rfl | rfl | rfl | rfl <;> omega
    have hu' : ∀ i, i < m → (ts i).run u = (ts i).run v := fun i hi => by
      have := key i (by omega)
      unfold stT at this
      rwa [rmap_getD _ hi, rmap_getD _ hi] at this
    unfold stT
    apply List.map_congr_left
    intro i hi
    exact hu' i (List.mem_range.1 hi)
section
variable {N k : Nat} {A B : TabN}
theorem planX_small (hN : N ≤ 16) (hk : k < 10) (hA : KOk A) (hB : KOk B) : ∀ i, i < 2 → (imT (planX N k A B) i).S ≤ 4 := fun i hi => by
  obtain ⟨h0, h1, h2, h3, h4⟩ := planX_head (A := A) (B := B) hN hk
  have hstA := planX_A (N := N) (k := k) (B := B) hA
  have hstB := planX_B (N := N) (k := k) (A := A) hB
  have p1 : tpos (planX N k A B) (5 + (formS k).size) 1 = 5 + (formS k).size + (kBy A).length := by
    show 5 + (formS k).size + tsz (planX N k A B) (5 + (formS k).size) = _
    rw [hstA.tsz]
  match i, hi with
  | 0, _ =>
    unfold imT
    rw [h4]
    show bt (planX N k A B) (5 + (formS k).size) ≤ 4
    rw [hstA.S]; exact hA.s4
  | 1, _ =>
    unfold imT
    rw [h4, p1]
    show bt (planX N k A B) (5 + (formS k).size + (kBy A).length) ≤ 4
    rw [hstB.S]; exact hB.s4
  | n + 2, hi => omega
theorem planX_tru (hN : N ≤ 16) (hk : k < 10) (hA : KOk A) (hB : KOk B) {v : List Nat} (hv : Byt v) : truX (planX N k A B) v = holdsB k (A.gr (A.run v)) (B.gr (B.run v)) := by
  have h := planX_says hN hk hA hB (mkV v)
  rw [btsN_mkV hv] at h
  rw [← h]
  unfold imV truX tru
  rw [btsN_mkV hv]
theorem planX_few (hN : N ≤ 16) (hk : k < 10) (hA : KOk A) (hB : KOk B) : ¬ Many (stT (bt (planX N k A B) 3) (imT (planX N k A B))) := by
  have h3 := (planX_head (N := N) (k := k) (A := A) (B := B) hN hk).2.2.2.1
  have hok := imT_ok (planX_ok hN hk hA hB)
  rw [h3] at hok ⊢
  exact few_small (by decide) hok (planX_small hN hk hA hB)
theorem planX_len (hA : KOk A) (hB : KOk B) (hk : k < 10) : (planX N k A B).size ≤ 9223372036854775807 := by
  rw [planX_size, kBy_len, kBy_len]
  have f1 := (form_size hk).2
  have a1 : A.S * A.C ≤ 4 * 3 := Nat.mul_le_mul hA.s4 hA.c3
  have b1 : B.S * B.C ≤ 4 * 3 := Nat.mul_le_mul hB.s4 hB.c3
  have a2 := hA.s4
  have b2 := hB.s4
  omega
variable {N' k' : Nat} {A' B' : TabN}
theorem planX_few2 (hN : N ≤ 16) (hk : k < 10) (hA : KOk A) (hB : KOk B) (hN' : N' ≤ 16) (hk' : k' < 10) (hA' : KOk A') (hB' : KOk B') : ¬ Many (stT (bt (planX N k A B) 3 + bt (planX N' k' A' B') 3) (joinT (bt (planX N k A B) 3) (imT (planX N k A B)) (imT (planX N' k' A' B')))) := by
  have h3 := (planX_head (N := N) (k := k) (A := A) (B := B) hN hk).2.2.2.1
  have h3' := (planX_head (N := N') (k := k') (A := A') (B := B') hN' hk').2.2.2.1
  have hok := imT_ok (planX_ok hN hk hA hB)
  have hok' := imT_ok (planX_ok hN' hk' hA' hB')
  have hs := planX_small hN hk hA hB
  have hs' := planX_small hN' hk' hA' hB'
  rw [h3] at hok ⊢
  rw [h3'] at hok' ⊢
  refine few_small (by decide) (joinT_ok hok hok') fun i hi => ?_
  unfold joinT
  split
  · exact hs i (by assumption)
  · exact hs' _ (by omega)
end
/-- What a plan's image says. -/
def pSay (k : Nat) (A B : TabN) (v : List Nat) : Bool := holdsB k (A.gr (A.run v)) (B.gr (B.run v))
section
variable {N k : Nat} {A B : TabN}
theorem plan_wit (hN : N ≤ 16) (hk : k < 10) (hA : KOk A) (hB : KOk B) (W : World) : Calls Try.prog 15 #[.string (planX N k A B)] W fun e w' => Below W.heap.size W w' ∧ ((∃ u, Byt u ∧ u.length ≤ N ∧ pSay k A B u = true ∧ (∀ v, Byt v → pSay k A B v = true → nv u ≤ nv v) ∧ e = .returned (.tuple #[.string (mkV u), .bool true, .int .i64 0])) ∨ ((∀ v, Byt v → v.length ≤ N → pSay k A B v = false) ∧ e = .returned (.tuple #[.string ⟨#[]⟩, .bool false, .int .i64 0]))) := by
  have h2 := (planX_head (N := N) (k := k) (A := A) (B := B) hN hk).2.2.1
  have ht := fun {v : List Nat} (hv : Byt v) => planX_tru hN hk hA hB hv
  refine (VWitness_any W _ (planX_len hA hB hk)).mono fun e w' h => ⟨h.1, ?_⟩
  rcases h.2 with ⟨-, h⟩ | h
  · rcases h with h | ⟨-, u, hu, hl, hp, hmin, he⟩ | ⟨-, hno, he⟩
    · exact absurd h.1 (planX_few hN hk hA hB)
    · rw [h2] at hl
      exact .inl ⟨u, hu, hl, (ht hu).symm.trans hp, fun v hv hpv => hmin v hv ((ht hv).trans hpv), he⟩
    · rw [h2] at hno
      exact .inr ⟨fun v hv hl => (ht hv).symm.trans (hno v hv hl), he⟩
  · exact absurd (planX_ok hN hk hA hB) h.1
variable {N' k' : Nat} {A' B' : TabN}
theorem plan_dif (hN : N ≤ 16) (hk : k < 10) (hA : KOk A) (hB : KOk B) (hN' : N' ≤ 16) (hk' : k' < 10) (hA' : KOk A') (hB' : KOk B') (W : World) : Calls Try.prog 18 #[.string (planX N k A B), .string (planX N' k' A' B')] W fun e w' => Below W.heap.size W w' ∧ DifA (fun v => truX (planX N k A B) v != truX (planX N' k' A' B') v) False e := by
  refine (VDiffer_any W _ _ (planX_len hA hB hk) (planX_len hA' hB' hk')).mono fun e w' h => ⟨h.1, ?_⟩
  have hM := planX_few2 hN hk hA hB hN' hk' hA' hB'
  rcases h.2 with ⟨-, -, h⟩ | h
  · rcases h with h | ⟨-, h⟩ | ⟨-, h⟩
    · exact absurd h.1 hM
    · exact .inr (.inl ⟨fun x => x, h⟩)
    · exact .inr (.inr ⟨fun x => x, h⟩)
  · exact absurd ⟨planX_ok hN hk hA hB, planX_ok hN' hk' hA' hB'⟩ h.1
theorem plan_dif_some (hN : N ≤ 16) (hk : k < 10) (hA : KOk A) (hB : KOk B) (hN' : N' ≤ 16) (hk' : k' < 10) (hA' : KOk A') (hB' : KOk B') {u : List Nat} (hu : Byt u) (hp : (pSay k A B u != pSay k' A' B' u) = true) (hmin : ∀ v, Byt v → (pSay k A B v != pSay k' A' B' v) = true → nv u ≤ nv v) (W : World) : Calls Try.prog 18 #[.string (planX N k A B), .string (planX N' k' A' B')] W fun e w' => e = .returned (.tuple #[.string (mkV u), .bool true, .int .i64 0]) ∧ u.length ≤ 255 ∧ Below W.heap.size W w' := by
  have ht := fun {v : List Nat} (hv : Byt v) => planX_tru hN hk hA hB hv
  have ht' := fun {v : List Nat} (hv : Byt v) => planX_tru hN' hk' hA' hB' hv
  refine (plan_dif hN hk hA hB hN' hk' hA' hB' W).mono fun e w' h => ?_
  have := h.2.some (fun x => x) hu (by show (truX _ u != truX _ u) = true; rw [ht hu, ht' hu]; exact hp) (fun v hv hpv => hmin v hv (by
    have hpv' : (truX (planX N k A B) v != truX (planX N' k' A' B') v) = true := hpv
    rw [ht hv, ht' hv] at hpv'; exact hpv'))
  exact ⟨this.2, this.1, h.1⟩
theorem plan_dif_none (hN : N ≤ 16) (hk : k < 10) (hA : KOk A) (hB : KOk B) (hN' : N' ≤ 16) (hk' : k' < 10) (hA' : KOk A') (hB' : KOk B') (hno : ∀ v, Byt v → (pSay k A B v != pSay k' A' B' v) = false) (W : World) : Calls Try.prog 18 #[.string (planX N k A B), .string (planX N' k' A' B')] W fun e w' => e = .returned (.tuple #[.string ⟨#[]⟩, .bool false, .int .i64 0]) ∧ Below W.heap.size W w' := by
  have ht := fun {v : List Nat} (hv : Byt v) => planX_tru hN hk hA hB hv
  have ht' := fun {v : List Nat} (hv : Byt v) => planX_tru hN' hk' hA' hB' hv
  refine (plan_dif hN hk hA hB hN' hk' hA' hB' W).mono fun e w' h => ?_
  exact ⟨h.2.nil (fun x => x) (fun v hv => by show (truX _ v != truX _ v) = false; rw [ht hv, ht' hv]; exact hno v hv), h.1⟩
end
section
attribute [local go_sem ↓] Go.wp_at_zero Go.wp_at_succ
set_option maxRecDepth 20000 in
set_option maxHeartbeats 1000000 in
theorem kbefore_any (w : World) (a b : ByteArray) (ha : a.size ≤ 9223372036854775807) (hb : b.size ≤ 9223372036854775807) : Calls Try.prog 30 #[.string a, .string b] w fun e w' => e = .returned (.bool (befN (btsN a) (btsN b))) ∧ w' = w := by
  have haI : (a.size : Int) ≤ 9223372036854775807 := by omega
  have hbI : (b.size : Int) ≤ 9223372036854775807 := by omega
  by_cases h1 : a.size < b.size
  · have h1I : (a.size : Int) < (b.size : Int) := by omega
    rw [befN_short h1]
    clear h1 ha hb
    go_enter Try.func30, Try.ntmps30
    go_wp2_with fail
    go_ret
    exact ⟨rfl, rfl⟩
  · by_cases h2 : a.size = b.size
    · rw [befN_same h2]
      have h1I : ¬ (a.size : Int) < (b.size : Int) := by omega
      have h2I : (a.size : Int) = (b.size : Int) := by omega
      go_enter Try.func30, Try.ntmps30
      go_wp2_with fail
      go_ret
      exact ⟨rfl, rfl⟩
    · have h3 : b.size < a.size := by omega
      have h1I : ¬ (a.size : Int) < (b.size : Int) := by omega
      have h2I : ¬ (a.size : Int) = (b.size : Int) := by omega
      rw [befN_long h3]
      go_enter Try.func30, Try.ntmps30
      go_wp2_with fail
      go_ret
      exact ⟨rfl, rfl⟩
end

end Mc
end Go.Proofs.Ytnkdbcicphnmiaa
namespace Go.Proofs.Ytnkdbcicphnmiaa
namespace Mc
open Go.RowKit

theorem bel_up3 {w a b : World} (h : Below w.heap.size w a) (k : Below a.heap.size a b) : Below w.heap.size w b := h.trans (k.mono h.size)
section
attribute [local go_sem ↓] Go.wp_at_zero Go.wp_at_succ zvPl
attribute [local go_sem] aggcells zcPl_size zcPl_ne
set_option maxRecDepth 20000 in
set_option maxHeartbeats 4000000 in
theorem First_any (w : World) (raw : ByteArray) (n k : Int) (t : ByteArray) (hr : raw.size ≤ 9223372036854775807) (n1 : -9223372036854775808 ≤ n) (n2 : n ≤ 9223372036854775807) (k1 : -9223372036854775808 ≤ k) (k2 : k ≤ 9223372036854775807) (ht : t.size ≤ 9223372036854775807) :
    Calls Try.prog 10 #[.string raw, .int .i64 n, .int .i64 k, .string t] w fun e w' => e = .returned (.bool true) ∧ Below w.heap.size w w' := by
  have hN : pickN n 17 ≤ 16 := by have := pickN_lt n (n := 17) (by decide); omega
  have hF : pickN k 10 < 10 := pickN_lt k (by decide)
  have HPL : Hid (∀ W, Calls Try.prog 20 #[.string raw, .int .i64 n, .int .i64 k] W fun e w' => e = .returned (.agg (planC ((pickN n 17 : Nat) : Int) ((pickN k 10 : Nat) : Int) (kCells (kT raw 0)) (kCells (kT raw 5)))) ∧ Below W.heap.size W w') := fun W => kplan_any W raw n k hr n1 n2 k1 k2
  have hA := kT_kok raw 0
  have hB := kT_kok raw 5
  have HTX := hide (fun W => kptext_any W (pickN n 17) (pickN k 10) hN hF (kT raw 0) (kT raw 5) hA hB)
  have HST := hide (fun W => kshort_any W t (pickN n 17) ht (by omega))
  have htl := kshortS_le t (pickN n 17)
  have HTL := hide htl
  have HGR : Hid (∀ W s, s.size ≤ 16 → Calls Try.prog 25 #[.agg (planC ((pickN n 17 : Nat) : Int) ((pickN k 10 : Nat) : Int) (kCells (kT raw 0)) (kCells (kT raw 5))), .string s] W fun e w' => e = .returned (.bool (pSay (pickN k 10) (kT raw 0) (kT raw 5) (btsN s))) ∧ Below W.heap.size W w') := fun W s hs => kgrants_any W ((pickN n 17 : Nat) : Int) (pickN k 10) hF (kT raw 0) (kT raw 5) hA hB s (by omega)
  have HWI := hide (fun W => plan_wit (N := pickN n 17) (k := pickN k 10) hN hF hA hB W)
  have HSZ : Hid ((planC ((pickN n 17 : Nat) : Int) ((pickN k 10 : Nat) : Int) (kCells (kT raw 0)) (kCells (kT raw 5))).size = 550) := planC_size _ _ (kCells_size _) (kCells_size _)
  have HON : Hid ((planC ((pickN n 17 : Nat) : Int) ((pickN k 10 : Nat) : Int) (kCells (kT raw 0)) (kCells (kT raw 5))).all (·.oneCell') = true) := planC_one _ _ (kCells_one _) (kCells_one _)
  have HC0 := hide (planC_0 ((pickN n 17 : Nat) : Int) ((pickN k 10 : Nat) : Int) (kCells (kT raw 0)) (kCells (kT raw 5)))
  have HN := hide hN
  have hNI : ((pickN n 17 : Nat) : Int) ≤ 16 := by omega
  clear hr n1 n2 k1 k2 ht hN hF hA hB htl
  generalize pSay (pickN k 10) (kT raw 0) (kT raw 5) = P at *
  generalize planX (pickN n 17) (pickN k 10) (kT raw 0) (kT raw 5) = x at *
  generalize kshortS t (pickN n 17) = t1 at *
  generalize planC ((pickN n 17 : Nat) : Int) ((pickN k 10 : Nat) : Int) (kCells (kT raw 0)) (kCells (kT raw 5)) = cs at *
  generalize pickN n 17 = N at *
  go_enter Try.func10, Try.ntmps10
  go_wp2_with fail
  refine (unhide HPL _).mono ?_
  rintro e w1 ⟨rfl, hb1⟩
  have HIM : Hid ((w1.alloc (.cells cs 48)).heap[w1.heap.size]? = some (.cells cs 48 (0, 0))) := heap_alloc_new _ _
  have HB2 : Hid (Below w.heap.size w (w1.alloc (.cells cs 48))) := hb1.alloc hb1.size _
  have c0 : (w1.alloc (.cells cs 48)).cell? ⟨w1.heap.size, 0, none⟩ = some (.int .i64 (N : Int)) := by rw [cell_of_row _ _ _ _ _ _ (unhide HIM)]; exact unhide HC0
  clear hb1 HPL
  go_wp2_with (refine store_row rfl 48 _ _ rfl rfl w1.heap.size cs rfl rfl 48 _ (heap_alloc_new _ _) (by rw [unhide HSZ]; exact infoP) (by rw [zcPl_size]; exact (unhide HSZ).symm) (unhide HON) ?_; rw [setRow_alloc1])
  generalize w1.alloc (.cells cs 48) = w2 at *
  generalize w1.heap.size = gp at *
  refine (unhide HST _).mono ?_
  rintro e w' ⟨rfl, hww⟩
  obtain rfl : w2 = w' := hww.symm
  clear hww c0 HST
  go_wp2_with (refine wpList_load_row rfl 48 _ rfl gp rfl 48 _ (0, 0) _ (unhide HIM) Try.underlying48 rfl (by rw [unhide HSZ]; exact infoP) ?_)
  refine (unhide HTX _).mono ?_
  rintro e w3 ⟨rfl, hb3⟩
  have HF3 := hide hb3
  have HB3 := hide (bel_up3 (unhide HB2) hb3)
  clear hb3 HTX HB2
  go_wp2_with fail
  refine (unhide HWI _).mono ?_
  rintro e w4 ⟨hb4, hans⟩
  have HF4 := hide (bel_up3 (unhide HF3) hb4)
  have HB4 := hide (bel_up3 (unhide HB3) hb4)
  have HI4 : Hid (w4.heap[gp]? = some (.cells cs 48 (0, 0))) := (Fr.ofBelow (unhide HF4)).at (unhide HIM) (by simp)
  have HGT := hide (fun W => unhide HGR W t1 (by have := unhide HTL; have := unhide HN; omega))
  clear hb4 HF3 HB3 HWI
  rcases hans with ⟨u, hu, hl, hp, hmin, rfl⟩ | ⟨hno, rfl⟩
  · have HSL : Hid (P (btsN t1) = false ∨ befN (btsN t1) (btsN (mkV u)) = false) := by
      cases hh : P (btsN t1)
      · exact .inl rfl
      · exact .inr (decide_eq_false (by have := hmin _ (btsN_byt t1) hh; rw [btsN_mkV hu]; omega))
    have HGU : Hid (∀ W, Calls Try.prog 25 #[.agg cs, .string (mkV u)] W fun e w' => e = .returned (.bool true) ∧ Below W.heap.size W w') := fun W => by
      have := unhide HGR W (mkV u) (by rw [mkV_size]; have := unhide HN; omega)
      rw [btsN_mkV hu, hp] at this
      exact this
    have HBE := hide (fun W => kbefore_any W t1 (mkV u) (by have := unhide HTL; have := unhide HN; omega) (by rw [mkV_size]; have := unhide HN; omega))
    have hzI : ((mkV u).size : Int) ≤ (N : Int) := by rw [mkV_size]; omega
    clear hu hl hp hmin HGR
    generalize P (btsN t1) = sm at *
    generalize befN (btsN t1) (btsN (mkV u)) = ls at *
    generalize mkV u = su at *
    go_wp2_with (refine wpList_load_row rfl 48 _ rfl gp rfl 48 _ (0, 0) _ (unhide HI4) Try.underlying48 rfl (by rw [unhide HSZ]; exact infoP) ?_)
    refine (unhide HGT _).mono ?_
    rintro e w5 ⟨rfl, hb5⟩
    have HB5 := hide (bel_up3 (unhide HB4) hb5)
    have HI5 : Hid (w5.heap[gp]? = some (.cells cs 48 (0, 0))) := (Fr.ofBelow hb5).at (unhide HI4) (by simp)
    clear hb5 HB4 HF4 HGT HI4
    go_wp2_with (refine wpList_load_row rfl 48 _ rfl gp rfl 48 _ (0, 0) _ (unhide HI5) Try.underlying48 rfl (by rw [unhide HSZ]; exact infoP) ?_)
    refine (unhide HGU _).mono ?_
    rintro e w6 ⟨rfl, hb6⟩
    have HB6 := hide (bel_up3 (unhide HB5) hb6)
    have HI6 : Hid (w6.heap[gp]? = some (.cells cs 48 (0, 0))) := (Fr.ofBelow hb6).at (unhide HI5) (by simp)
    have c6 : w6.cell? ⟨gp, 0, none⟩ = some (.int .i64 (N : Int)) := by rw [cell_of_row _ _ _ _ _ _ (unhide HI6)]; exact unhide HC0
    have hg6 : gp < w6.heap.size := (Array.getElem?_eq_some_iff.1 (unhide HI6)).1
    clear hb6 HB5 HGU HI5
    go_wp2_with fail
    refine (unhide HBE _).mono ?_
    rintro e w7 ⟨rfl, hww⟩
    obtain rfl : w6 = w7 := hww.symm
    clear hww HBE
    rcases unhide HSL with h | h
    · subst h
      clear HSL
      cases ls
      all_goals
        go_wp2_with fail
        go_ret
        exact ⟨rfl, unhide HB6⟩
    · subst h
      clear HSL
      cases sm
      all_goals
        go_wp2_with fail
        go_ret
        exact ⟨rfl, unhide HB6⟩
  · have hsm : P (btsN t1) = false := hno _ (btsN_byt t1) (by rw [btsN_len]; exact unhide HTL)
    rw [hsm] at HGT
    clear hno hsm HGR
    go_wp2_with (refine wpList_load_row rfl 48 _ rfl gp rfl 48 _ (0, 0) _ (unhide HI4) Try.underlying48 rfl (by rw [unhide HSZ]; exact infoP) ?_)
    refine (unhide HGT _).mono ?_
    rintro e w5 ⟨rfl, hb5⟩
    have HB5 := hide (bel_up3 (unhide HB4) hb5)
    clear hb5 HB4 HF4 HGT HI4
    go_wp2_with fail
    go_ret
    exact ⟨rfl, unhide HB5⟩
end

end Mc
end Go.Proofs.Ytnkdbcicphnmiaa
