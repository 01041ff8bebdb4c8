/-
  tuples.Witness, tuples.Differ: the answers; what the walks want.
-/
import Derived.Test.YtnkdbcicphnmiaaT20
namespace Go.Proofs.Ytnkdbcicphnmiaa
namespace Mc
open Go.RowKit

/-- What an image says of a string. -/
def tru (f : ByteArray) (m : Nat) (ts : Nat → TabN) (v : List Nat) : Bool := trueF f (ruleT m ts v)
/-- What it says of a tuple whose states begin at a place. -/
def truS (f : ByteArray) (m : Nat) (ts : Nat → TabN) (fr : Nat) (σ : List Nat) : Bool := trueF f ((List.range m).map fun i => (ts i).gr (σ.getD (fr + i) 0))
theorem truS_st {f : ByteArray} {m M : Nat} {ts ts' : Nat → TabN} {fr : Nat} (hM : fr + m ≤ M) (he : ∀ i, i < m → ts' (fr + i) = ts i) (v : List Nat) : truS f m ts fr (stT M ts' v) = tru f m ts v := by
  unfold truS tru ruleT
  congr 1
  apply List.map_congr_left
  intro i hi
  have hi := List.mem_range.1 hi
  unfold stT
  rw [rmap_getD _ (by omega), he i hi]
theorem grants_st (w : World) (B gi N m tc g : Nat) (f : ByteArray) (ts : Nat → TabN) (h : ImB w gi N f (some ⟨g, 0, none⟩) m tc) (ht : Tbs w B g m ts) (hB : B ≤ w.heap.size) (hm : m ≤ 4) (hf : f.size ≤ 1000) (M : Nat) (ts' : Nat → TabN) (fr : Nat) (hM : fr + m ≤ M) (h8 : M ≤ 8) (he : ∀ i, i < m → ts' (fr + i) = ts i) (hok : ∀ i, i < M → (ts' i).Ok) (u : List Nat) (hu : Byt u) :
    Calls Try.prog 73 #[.pointer (some ⟨gi, 0, none⟩), .string (mkV (stT M ts' u)), .int .i64 (fr : Int)] w fun e w' => e = .returned (.bool (tru f m ts u)) ∧ Below w.heap.size w w' := by
  have hb : ∀ i, bt (mkV (stT M ts' u)) i = (stT M ts' u).getD i 0 := mkV_bt (stT_byt hok hu)
  have hsz : (mkV (stT M ts' u)).size = M := by rw [mkV_size]; exact stT_len u
  have h1 := grants_any w B gi N m tc g f ts h ht hB hm hf (mkV (stT M ts' u)) fr (by rw [hsz]; exact hM) (by rw [hsz]; omega) (fun i hi => by
    rw [hb]
    have := stT_lt hok hu (show fr + i < M by omega)
    rwa [he i hi] at this)
  have e : trueF f ((List.range m).map fun i => (ts i).gr (bt (mkV (stT M ts' u)) (fr + i))) = tru f m ts u := by
    rw [← truS_st (f := f) hM he u]
    unfold truS
    congr 1
    apply List.map_congr_left
    intro i _
    rw [hb]
  rw [e] at h1
  exact h1
section
variable {m : Nat} {ts : Nat → TabN} {L : List (List Nat × Nat)} {F : List (List Nat × List Nat)}
theorem AlS.first (h : AlS m ts L F F.length 0) (P Q : List Nat → Bool) (hPQ : ∀ v, P (stT m ts v) = Q v) {k : Nat} {σ u : List Nat} (hk : F[k]? = some (σ, u)) (hno : ∀ (j : Nat) σ' w', j < k → F[j]? = some (σ', w') → Q w' = false) : ∀ v, Byt v → Q v = true → nv u ≤ nv v := by
  have hr := fun {k : Nat} {σ u : List Nat} (hk : F[k]? = some (σ, u)) => h.run hk
  obtain ⟨pc, U, hb, -⟩ := h.bfs
  intro v hv hq
  exact hb.first (Nat.le_refl _) (stT_nil m ts) (stpT_run m ts) P hk (fun j σ' w' hj hs => by rw [(hr hs).1, hPQ]; exact hno j σ' w' hj hs) v hv (by rw [hPQ]; exact hq)
theorem AlS.none (h : AlS m ts L F F.length 0) (P Q : List Nat → Bool) (hPQ : ∀ v, P (stT m ts v) = Q v) {n most : Nat} (hno : ∀ (j : Nat) σ' w', j < n → F[j]? = some (σ', w') → Q w' = false) (hfar : ∀ (j : Nat) σ' w', j = n → F[j]? = some (σ', w') → most < w'.length) : ∀ v, Byt v → v.length ≤ most → Q v = false := by
  have hr := fun {k : Nat} {σ u : List Nat} (hk : F[k]? = some (σ, u)) => h.run hk
  obtain ⟨pc, U, hb, -⟩ := h.bfs
  intro v hv hl
  rw [← hPQ]
  exact hb.none (Nat.le_refl _) (stT_nil m ts) (stpT_run m ts) P (fun j σ' w' hj hs => by rw [(hr hs).1, hPQ]; exact hno j σ' w' hj hs) hfar v hv hl
theorem AlS.nmany (h : AlS m ts L F F.length 0) : ¬ Many (stT m ts) := by
  obtain ⟨pc, U, hb, -⟩ := h.bfs
  exact hb.few (Nat.le_refl _) (stT_nil m ts) (stpT_run m ts) h.few
end
/-- What Witness answers. -/
def WitA (N : Nat) (P : List Nat → Bool) (M : Prop) (e : Ending) : Prop :=
  (M ∧ e = .returned (.tuple #[.string ⟨#[]⟩, .bool false, .int .i64 3])) ∨
  (¬ M ∧ ∃ u, Byt u ∧ u.length ≤ N ∧ P u = true ∧ (∀ v, Byt v → P v = true → nv u ≤ nv v) ∧ e = .returned (.tuple #[.string (mkV u), .bool true, .int .i64 0])) ∨
  (¬ M ∧ (∀ v, Byt v → v.length ≤ N → P v = false) ∧ e = .returned (.tuple #[.string ⟨#[]⟩, .bool false, .int .i64 0]))
/-- What Differ answers. -/
def DifA (P : List Nat → Bool) (M : Prop) (e : Ending) : Prop :=
  (M ∧ e = .returned (.tuple #[.string ⟨#[]⟩, .bool false, .int .i64 3])) ∨
  (¬ M ∧ ∃ u, Byt u ∧ u.length ≤ 255 ∧ P u = true ∧ (∀ v, Byt v → P v = true → nv u ≤ nv v) ∧ e = .returned (.tuple #[.string (mkV u), .bool true, .int .i64 0])) ∨
  (¬ M ∧ (∀ v, Byt v → P v = false) ∧ e = .returned (.tuple #[.string ⟨#[]⟩, .bool false, .int .i64 0]))
/-- What is in memory while the tuples are gone through. -/
structure WtI (w wr : World) (va : Option Addr) (vc : Nat) (F : List (List Nat × List Nat)) : Prop where
  below : Below w.heap.size w wr
  row : TuR wr 0 (.slice va F.length vc) F
section
variable {w wr w2 : World} {va : Option Addr} {vc : Nat} {F : List (List Nat × List Nat)}
theorem WtI.next (h : WtI w wr va vc F) (hb : Below wr.heap.size wr w2) : WtI w w2 va vc F := ⟨h.below.trans (hb.mono h.below.size), (Fr.ofBelow hb).own h.row (by simp)⟩
theorem WtI.drewN (h : WtI w wr va vc F) (n : Nat) : WtI w (wr.drewN n) va vc F := ⟨below_drewN' h.below n, h.row⟩
theorem WtI.drew (h : WtI w wr va vc F) : WtI w wr.drew va vc F := ⟨h.below.drew, h.row⟩
end

section
attribute [local go_sem ↓] Go.wp_at_zero Go.wp_at_succ
set_option maxRecDepth 20000 in
set_option maxHeartbeats 2000000 in
theorem Witness_any (w : World) (B gi N m tc g : Nat) (f : ByteArray) (ts : Nat → TabN) (h : ImB w gi N f (some ⟨g, 0, none⟩) m tc) (ht : Tbs w B g m ts) (hB : B ≤ w.heap.size) (h1 : 1 ≤ m) (hm : m ≤ 4) (hf : f.size ≤ 1000) (hN : N ≤ 255) (hok : ∀ i, i < m → (ts i).Ok) :
    Calls Try.prog 45 #[.pointer (some ⟨gi, 0, none⟩)] w fun e w' => Below w.heap.size w w' ∧ WitA N (tru f m ts) (Many (stT m ts)) e := by
  have HTO := hide (tablesOf_any w B gi N m tc g f ts h ht hB hm)
  have HT := hide ht
  have HB := hide hB
  have H1 := hide h1
  have HM := hide hm
  have HF := hide hf
  have HOK := hide hok
  have HIB := hide h
  have hgi := (Array.getElem?_eq_some_iff.1 h.heap).1
  have HGI := hide hgi
  have hNI : (N : Int) ≤ 255 := by omega
  clear h ht hB h1 hm hf hN hok
  go_enter Try.func45, Try.ntmps45
  go_wp2_with fail
  refine (unhide HTO).mono ?_
  rintro e w1 ⟨ta, tc1, cs, rfl, hI⟩
  obtain ⟨g1, rfl⟩ := hI.form (unhide H1)
  have HAL := hide (all_any w1 w1.heap.size g1 m tc1 ts hI.tbs (Nat.le_refl _) (unhide H1) (by have := unhide HM; omega) (unhide HOK))
  have HB1 := hide hI.below
  have hg1 : gi < w1.heap.size := by have := hI.below.size; omega
  clear hI HTO
  go_wp2_with fail
  refine (unhide HAL).mono ?_
  rintro e w2 ⟨hb2, hA⟩
  have HB2 : Hid (Below w.heap.size w w2) := (unhide HB1).trans (hb2.mono (unhide HB1).size)
  clear HAL HB1
  rcases hA with ⟨va, vc, F, L, rfl, hrow, hS⟩ | ⟨hM, rfl⟩
  · have HI2 : Hid (WtI w w2 va vc F) := ⟨unhide HB2, own_less hrow (Nat.zero_le _)⟩
    have HS := hide hS
    have hFI : (F.length : Int) ≤ 256 := by have := hS.few; omega
    have HNM := hide hS.nmany
    have HPQ := hide (fun v => truS_st (f := f) (m := m) (M := m) (ts := ts) (ts' := ts) (fr := 0) (by omega) (fun i hi => by rw [Nat.zero_add]) v)
    have hg2 : gi < w2.heap.size := by have := hb2.size; omega
    clear hb2 hrow hS HB2 hg1
    go_wp2_with fail
    go_loopw [8] (fun ix wr => ∃ (i : Nat), ix = .int .i64 (i : Int) ∧ Hid (i ≤ F.length ∧ WtI w wr va vc F ∧ ∀ (j : Nat) σ' w', j < i → F[j]? = some (σ', w') → tru f m ts w' = false)) (fun ix _ => lenLeft 256 ix)
    case atStart => exact ⟨0, rfl, Nat.zero_le _, unhide HI2, fun j _ _ hj => by omega⟩
    case round =>
      clear HI2 hg2
      rename World => wr
      obtain ⟨i, rfl, HH⟩ := hrel
      obtain ⟨hi, hI, hno⟩ := unhide HH
      clear HH
      have hgr : gi < wr.heap.size := by have := hI.below.size; omega
      have hIB := (unhide HIB).below hI.below (unhide HGI)
      have HMO := hide (fun n => Most_any (wr.drewN n) gi N m tc f (some ⟨g, 0, none⟩) ⟨hIB.heap⟩)
      by_cases hlt : i < F.length
      · have hiI : (i : Int) < (F.length : Int) := by omega
        have hi0 : (0 : Int) ≤ (i : Int) := by omega
        have hi1 : ((i : Int)).toNat = i := by omega
        obtain ⟨⟨σ, u⟩, hFi⟩ : ∃ p, F[i]? = some p := ⟨_, List.getElem?_eq_getElem hlt⟩
        obtain ⟨gf, cf, he, hgf, f0, f1⟩ := hI.row.at hFi
        simp only [Value.slice.injEq, true_and] at he
        obtain ⟨rfl, rfl⟩ := he
        simp only [] at f0 f1
        obtain ⟨hσ, hu⟩ := (unhide HS).run hFi
        rw [hσ] at f0
        have HLT : Hid (i < 256) := by have := (unhide HS).few; show _ < _; omega
        have HLF := hide hlt
        by_cases hul : u.length ≤ N
        · have hzI : ((mkV u).size : Int) ≤ (N : Int) := by rw [mkV_size]; omega
          have HGR := hide (fun n => grants_st (wr.drewN n) B gi N m tc g f ts ⟨hIB.heap⟩ ((unhide HT).below (below_drewN (hI.below.mono (unhide HB)) n)) (by have := unhide HB; have := hI.below.size; show B ≤ wr.heap.size; omega) (unhide HM) (unhide HF) m ts 0 (by omega) (by have := unhide HM; omega) (fun i hi => by rw [Nat.zero_add]) (unhide HOK) u hu)
          have HI := hide hI
          have HFI := hide hFi
          have HU := hide hu
          have HUL := hide hul
          have HNO := hide hno
          clear hi hI hno hIB hlt hFi hσ hu hul
          generalize hst : mkV (stT m ts u) = sσ at *
          generalize hsu : mkV u = su at *
          have HSU := hide hsu
          clear hst hsu
          go_wp2_with fail
          go_quiet ((go_at_call 72; exact Calls.quiet_of_same (unhide HMO _)))
          go_wp2_with fail
          refine (unhide HGR _).mono ?_
          rintro e w3 ⟨rfl, hb3⟩
          have hI3 := ((unhide HI).drewN nq).next hb3
          have HI3 := hide hI3
          obtain ⟨gf', cf', he, hgf3, k0, k1⟩ := hI3.row.at (unhide HFI)
          simp only [Value.slice.injEq, true_and, Option.some.injEq, Addr.mk.injEq, and_true] at he
          obtain ⟨rfl, rfl⟩ := he
          simp only [] at k0 k1
          rw [unhide HSU] at k1
          clear hb3 HGR HMO HI hI3 f0 f1 hgf k0
          cases hh : tru f m ts u
          · have HNO2 : Hid (∀ (j : Nat) σ' w', j < i + 1 → F[j]? = some (σ', w') → tru f m ts w' = false) := fun j σ' w' hj hs => by
              by_cases e : j = i
              · subst e
                rw [unhide HFI] at hs
                simp only [Option.some.injEq, Prod.mk.injEq] at hs
                rw [← hs.2]; exact hh
              · exact unhide HNO j σ' w' (by omega) hs
            clear hh
            go_wp2_with fail
            go_roundw
            case rel => exact ⟨i + 1, by go_num, unhide HLF, unhide HI3, unhide HNO2⟩
            case measure => have := unhide HLT; simp [lenLeft, intOf]; omega
          · have HFF := hide ((unhide HS).first (truS f m ts 0) (tru f m ts) (unhide HPQ) (unhide HFI) (unhide HNO))
            have HHH := hide hh
            clear hh
            go_wp2_with fail
            refine bodyPost_ret (v := .tuple #[.string su, .bool true, .int .i64 0]) (by simp [results, Try.results45, go_sem]) rfl ?_
            exact ⟨(unhide HI3).below, .inr (.inl ⟨unhide HNM, u, unhide HU, unhide HUL, unhide HHH, unhide HFF, by rw [unhide HSU]⟩)⟩
        · have hzI : ¬ ((mkV u).size : Int) ≤ (N : Int) := by rw [mkV_size]; omega
          have HNN := hide ((unhide HS).none (truS f m ts 0) (tru f m ts) (unhide HPQ) hno (n := i) (most := N) (fun j σ' w' hj hs => by
            subst hj
            rw [hFi] at hs
            simp only [Option.some.injEq, Prod.mk.injEq] at hs
            rw [← hs.2]; omega))
          have HBW := hide hI.below
          clear hi hI hno hIB hlt hFi hσ hu hul
          generalize mkV (stT m ts u) = sσ at *
          generalize mkV u = su at *
          go_wp2_with fail
          go_quiet ((go_at_call 72; exact Calls.quiet_of_same (unhide HMO _)))
          go_wp2_with fail
          refine bodyPost_ret (v := .tuple #[.string ⟨#[]⟩, .bool false, .int .i64 0]) (by simp [results, Try.results45, go_sem]) rfl ?_
          exact ⟨below_drewN' (unhide HBW) _, .inr (.inr ⟨unhide HNM, unhide HNN, rfl⟩)⟩
      · have hi2 : i = F.length := by omega
        subst hi2
        have HNN := hide ((unhide HS).none (truS f m ts 0) (tru f m ts) (unhide HPQ) hno (n := F.length) (most := N) (fun j σ' w' hj hs => by
          have := (List.getElem?_eq_some_iff.1 hs).1; omega))
        have HBW := hide hI.below
        clear hi hI hno hIB hlt
        go_wp2_with fail
        go_quiet ((go_at_call 72; exact Calls.quiet_of_same (unhide HMO _)))
        go_wp2_with fail
        refine bodyPost_ret (v := .tuple #[.string ⟨#[]⟩, .bool false, .int .i64 0]) (by simp [results, Try.results45, go_sem]) rfl ?_
        exact ⟨below_drewN' (unhide HBW) _, .inr (.inr ⟨unhide HNM, unhide HNN, rfl⟩)⟩
  · have HMM := hide hM
    clear hb2 hM
    go_wp2_with fail
    refine bodyPost_ret (v := .tuple #[.string ⟨#[]⟩, .bool false, .int .i64 3]) (by simp [results, Try.results45, go_sem]) rfl ?_
    exact ⟨unhide HB2, .inl ⟨unhide HMM, rfl⟩⟩
end

end Mc
end Go.Proofs.Ytnkdbcicphnmiaa
