/-
  Plans have few tuples; veilkeep.before; what Witness and Differ answer of plans.
-/
import Derived.Test.YtlafngfoejngaaaJm
import Derived.Test.YtlafngfoejngaaaJk
import Derived.Test.YtlafngfoejngaaaHK
namespace Go.Proofs.Ytlafngfoejngaaa
namespace Mc
open Go.RowKit

theorem few_small {m : Nat} {ts : Nat → TabN} (hm : m ≤ 4) (hok : ∀ i, i < m → (ts i).Ok) (h4 : ∀ i, i < m → (ts i).S ≤ 4) : ¬ Many (stT m ts) := by
  have hlt : ∀ v, Byt v → ∀ i, (stT m ts v).getD i 0 < 4 := fun v hv i => by
    by_cases hi : i < m
    · have := stT_lt hok hv hi; have := h4 i hi; omega
    · rw [List.getD_eq_getElem?_getD, List.getElem?_eq_none (by rw [stT_len]; omega)]; decide
  refine not_many (fun σ => σ.getD 0 0 + 4 * σ.getD 1 0 + 16 * σ.getD 2 0 + 64 * σ.getD 3 0) (fun v hv => ?_) (fun u v hu hv e => ?_)
  · have h0 := hlt v hv 0
    have h1 := hlt v hv 1
    have h2 := hlt v hv 2
    have h3 := hlt v hv 3
    show _ < 256
    omega
  · have a0 := hlt v hv 0
    have a1 := hlt v hv 1
    have a2 := hlt v hv 2
    have a3 := hlt v hv 3
    have b0 := hlt u hu 0
    have b1 := hlt u hu 1
    have b2 := hlt u hu 2
    have b3 := hlt u hu 3
    have e' : (stT m ts u).getD 0 0 + 4 * (stT m ts u).getD 1 0 + 16 * (stT m ts u).getD 2 0 + 64 * (stT m ts u).getD 3 0 = (stT m ts v).getD 0 0 + 4 * (stT m ts v).getD 1 0 + 16 * (stT m ts v).getD 2 0 + 64 * (stT m ts v).getD 3 0 := e
    have key : ∀ i, i < 4 → (stT m ts u).getD i 0 = (stT m ts v).getD i 0 := fun i hi => by
      have : i = 0 ∨ i = 1 ∨ i = 2 ∨ i = 3 := by omega
      rcases this with rfl | rfl | rfl | rfl <;> omega
    have hu' : ∀ i, i < m → (ts i).run u = (ts i).run v := fun i hi => by
      have := key i (by omega)
      unfold stT at this
      rwa [rmap_getD _ hi, rmap_getD _ hi] at this
    unfold stT
    apply List.map_congr_left
    intro i hi
    exact hu' i (List.mem_range.1 hi)
section
variable {N k : Nat} {A B : TabN} (hN : N ≤ 16) (hk : k < 10) (hA : KOk A) (hB : KOk B)
include hN hk hA hB
theorem planX_small : ∀ i, i < 2 → (imT (planX N k A B) i).S ≤ 4 := fun i hi => by
  obtain ⟨h0, h1, h2, h3, h4⟩ := planX_head (A := A) (B := B) hN hk
  have hstA := planX_A (N := N) (k := k) (B := B) hA
  have hstB := planX_B (N := N) (k := k) (A := A) hB
  have p1 : tpos (planX N k A B) (5 + (formS k).size) 1 = 5 + (formS k).size + (kBy A).length := by
    show 5 + (formS k).size + tsz (planX N k A B) (5 + (formS k).size) = _
    rw [hstA.tsz]
  match i, hi with
  | 0, _ =>
    unfold imT
    rw [h4]
    show bt (planX N k A B) (5 + (formS k).size) ≤ 4
    rw [hstA.S]; exact hA.s4
  | 1, _ =>
    unfold imT
    rw [h4, p1]
    show bt (planX N k A B) (5 + (formS k).size + (kBy A).length) ≤ 4
    rw [hstB.S]; exact hB.s4
  | n + 2, hi => omega
theorem planX_tru {v : List Nat} (hv : Byt v) : truX (planX N k A B) v = holdsB k (A.gr (A.run v)) (B.gr (B.run v)) := by
  have h := planX_says hN hk hA hB (mkV v)
  rw [btsN_mkV hv] at h
  rw [← h]
  unfold imV truX tru
  rw [btsN_mkV hv]
theorem planX_few : ¬ Many (stT (bt (planX N k A B) 3) (imT (planX N k A B))) := by
  have h3 := (planX_head (N := N) (k := k) (A := A) (B := B) hN hk).2.2.2.1
  have hok := imT_ok (planX_ok hN hk hA hB)
  rw [h3] at hok ⊢
  exact few_small (by decide) hok (planX_small hN hk hA hB)
omit hN hk in
theorem planX_len (hk : k < 10) : (planX N k A B).size ≤ 9223372036854775807 := by
  rw [planX_size, kBy_len, kBy_len]
  have f1 := (form_size hk).2
  have a1 : A.S * A.C ≤ 4 * 3 := Nat.mul_le_mul hA.s4 hA.c3
  have b1 : B.S * B.C ≤ 4 * 3 := Nat.mul_le_mul hB.s4 hB.c3
  have a2 := hA.s4
  have b2 := hB.s4
  omega
variable {N' k' : Nat} {A' B' : TabN} (hN' : N' ≤ 16) (hk' : k' < 10) (hA' : KOk A') (hB' : KOk B')
include hN' hk' hA' hB'
theorem planX_few2 : ¬ Many (stT (bt (planX N k A B) 3 + bt (planX N' k' A' B') 3) (joinT (bt (planX N k A B) 3) (imT (planX N k A B)) (imT (planX N' k' A' B')))) := by
  have h3 := (planX_head (N := N) (k := k) (A := A) (B := B) hN hk).2.2.2.1
  have h3' := (planX_head (N := N') (k := k') (A := A') (B := B') hN' hk').2.2.2.1
  have hok := imT_ok (planX_ok hN hk hA hB)
  have hok' := imT_ok (planX_ok hN' hk' hA' hB')
  have hs := planX_small hN hk hA hB
  have hs' := planX_small hN' hk' hA' hB'
  rw [h3] at hok ⊢
  rw [h3'] at hok' ⊢
  refine few_small (by decide) (joinT_ok hok hok') fun i hi => ?_
  unfold joinT
  split
  · exact hs i (by assumption)
  · exact hs' _ (by omega)
end
/-- What a plan's image says. -/
def pSay (k : Nat) (A B : TabN) (v : List Nat) : Bool := holdsB k (A.gr (A.run v)) (B.gr (B.run v))
section
variable {N k : Nat} {A B : TabN} (hN : N ≤ 16) (hk : k < 10) (hA : KOk A) (hB : KOk B)
include hN hk hA hB
theorem plan_wit (W : World) : Calls Try.prog 7 #[.string (planX N k A B)] W fun e w' => Below W.heap.size W w' ∧ ((∃ u, Byt u ∧ u.length ≤ N ∧ pSay k A B u = true ∧ (∀ v, Byt v → pSay k A B v = true → nv u ≤ nv v) ∧ e = .returned (.tuple #[.string (mkV u), .bool true, .int .i64 0])) ∨ ((∀ v, Byt v → v.length ≤ N → pSay k A B v = false) ∧ e = .returned (.tuple #[.string ⟨#[]⟩, .bool false, .int .i64 0]))) := by
  have h2 := (planX_head (N := N) (k := k) (A := A) (B := B) hN hk).2.2.1
  have ht := fun {v : List Nat} (hv : Byt v) => planX_tru hN hk hA hB hv
  refine (VWitness_any W _ (planX_len hA hB hk)).mono fun e w' h => ⟨h.1, ?_⟩
  rcases h.2 with ⟨-, h⟩ | h
  · rcases h with h | ⟨-, u, hu, hl, hp, hmin, he⟩ | ⟨-, hno, he⟩
    · exact absurd h.1 (planX_few hN hk hA hB)
    · rw [h2] at hl
      exact .inl ⟨u, hu, hl, (ht hu).symm.trans hp, fun v hv hpv => hmin v hv ((ht hv).trans hpv), he⟩
    · rw [h2] at hno
      exact .inr ⟨fun v hv hl => (ht hv).symm.trans (hno v hv hl), he⟩
  · exact absurd (planX_ok hN hk hA hB) h.1
variable {N' k' : Nat} {A' B' : TabN} (hN' : N' ≤ 16) (hk' : k' < 10) (hA' : KOk A') (hB' : KOk B')
include hN' hk' hA' hB'
theorem plan_dif (W : World) : Calls Try.prog 10 #[.string (planX N k A B), .string (planX N' k' A' B')] W fun e w' => Below W.heap.size W w' ∧ DifA (fun v => truX (planX N k A B) v != truX (planX N' k' A' B') v) False e := by
  refine (VDiffer_any W _ _ (planX_len hA hB hk) (planX_len hA' hB' hk')).mono fun e w' h => ⟨h.1, ?_⟩
  have hM := planX_few2 hN hk hA hB hN' hk' hA' hB'
  rcases h.2 with ⟨-, -, h⟩ | h
  · rcases h with h | ⟨-, h⟩ | ⟨-, h⟩
    · exact absurd h.1 hM
    · exact .inr (.inl ⟨fun x => x, h⟩)
    · exact .inr (.inr ⟨fun x => x, h⟩)
  · exact absurd ⟨planX_ok hN hk hA hB, planX_ok hN' hk' hA' hB'⟩ h.1
theorem plan_dif_some {u : List Nat} (hu : Byt u) (hp : (pSay k A B u != pSay k' A' B' u) = true) (hmin : ∀ v, Byt v → (pSay k A B v != pSay k' A' B' v) = true → nv u ≤ nv v) (W : World) : Calls Try.prog 10 #[.string (planX N k A B), .string (planX N' k' A' B')] W fun e w' => e = .returned (.tuple #[.string (mkV u), .bool true, .int .i64 0]) ∧ u.length ≤ 255 ∧ Below W.heap.size W w' := by
  have ht := fun {v : List Nat} (hv : Byt v) => planX_tru hN hk hA hB hv
  have ht' := fun {v : List Nat} (hv : Byt v) => planX_tru hN' hk' hA' hB' hv
  refine (plan_dif hN hk hA hB hN' hk' hA' hB' W).mono fun e w' h => ?_
  have := h.2.some (fun x => x) hu (by show (truX _ u != truX _ u) = true; rw [ht hu, ht' hu]; exact hp) (fun v hv hpv => hmin v hv (by
    have hpv' : (truX (planX N k A B) v != truX (planX N' k' A' B') v) = true := hpv
    rw [ht hv, ht' hv] at hpv'; exact hpv'))
  exact ⟨this.2, this.1, h.1⟩
theorem plan_dif_none (hno : ∀ v, Byt v → (pSay k A B v != pSay k' A' B' v) = false) (W : World) : Calls Try.prog 10 #[.string (planX N k A B), .string (planX N' k' A' B')] W fun e w' => e = .returned (.tuple #[.string ⟨#[]⟩, .bool false, .int .i64 0]) ∧ Below W.heap.size W w' := by
  have ht := fun {v : List Nat} (hv : Byt v) => planX_tru hN hk hA hB hv
  have ht' := fun {v : List Nat} (hv : Byt v) => planX_tru hN' hk' hA' hB' hv
  refine (plan_dif hN hk hA hB hN' hk' hA' hB' W).mono fun e w' h => ?_
  exact ⟨h.2.nil (fun x => x) (fun v hv => by show (truX _ v != truX _ v) = false; rw [ht hv, ht' hv]; exact hno v hv), h.1⟩
end
section
attribute [local go_sem ↓] Go.wp_at_zero Go.wp_at_succ
set_option maxRecDepth 20000 in
set_option maxHeartbeats 1000000 in
theorem kbefore_any (w : World) (a b : ByteArray) (ha : a.size ≤ 9223372036854775807) (hb : b.size ≤ 9223372036854775807) : Calls Try.prog 16 #[.string a, .string b] w fun e w' => e = .returned (.bool (befN (btsN a) (btsN b))) ∧ w' = w := by
  have haI : (a.size : Int) ≤ 9223372036854775807 := by omega
  have hbI : (b.size : Int) ≤ 9223372036854775807 := by omega
  by_cases h1 : a.size < b.size
  · have h1I : (a.size : Int) < (b.size : Int) := by omega
    rw [befN_short h1]
    clear h1 ha hb
    go_enter Try.func16, Try.ntmps16
    go_wp2_with fail
    go_ret
    exact ⟨rfl, rfl⟩
  · by_cases h2 : a.size = b.size
    · rw [befN_same h2]
      have h1I : ¬ (a.size : Int) < (b.size : Int) := by omega
      have h2I : (a.size : Int) = (b.size : Int) := by omega
      go_enter Try.func16, Try.ntmps16
      go_wp2_with fail
      go_ret
      exact ⟨rfl, rfl⟩
    · have h3 : b.size < a.size := by omega
      have h1I : ¬ (a.size : Int) < (b.size : Int) := by omega
      have h2I : ¬ (a.size : Int) = (b.size : Int) := by omega
      rw [befN_long h3]
      go_enter Try.func16, Try.ntmps16
      go_wp2_with fail
      go_ret
      exact ⟨rfl, rfl⟩
end

end Mc
end Go.Proofs.Ytlafngfoejngaaa
