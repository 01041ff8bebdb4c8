/-
  The automaton's Match; veil.Match.
  veil.Match.
-/
import Derived.Test.YtobfpgoepaeknaaWl
namespace Go.Proofs.Ytobfpgoepaeknaa
open Go.RowKit
attribute [local go_sem ↓] Go.wp_at_zero Go.wp_at_succ

def runTo (p : Part) (s : List Nat) (k : Nat) : Nat := runN p 1 (s.take k)
theorem runN_snoc (p : Part) : ∀ (w : List Nat) (x b : Nat), runN p x (w ++ [b]) = stepN p (runN p x w) b
  | [], _, _ => rfl
  | a :: w, x, b => by rw [List.cons_append, runN, runN_snoc p w]; rfl
theorem runTo_step (p : Part) (s : List Nat) (k : Nat) (h : k < s.length) : runTo p s (k + 1) = stepN p (runTo p s k) s[k] := by
  unfold runTo
  rw [List.take_add_one, List.getElem?_eq_getElem h]
  exact runN_snoc p _ 1 _
theorem runTo_lt {p : Part} (hp : p.Ok) (hl : p.next.length ≤ 50) (s : List Nat) : ∀ k, runTo p s k < top
  | 0 => by unfold runTo top; simp [runN]
  | k + 1 => by
    by_cases h : k < s.length
    · rw [runTo_step p s k h]
      unfold stepN
      exact Nat.lt_trans (ledN_lt _ _ _ _) (pow_top (by rw [hp.1]; omega))
    · have e : runTo p s (k + 1) = runTo p s k := by unfold runTo; rw [List.take_of_length_le (by omega), List.take_of_length_le (by omega)]
      rw [e]; exact runTo_lt hp hl s k

set_option maxHeartbeats 1000000 in
theorem AMatch_any (w : World) (g : Nat) (p : Part) (s : ByteArray) (h : AutB w g p) (hp : p.Ok) (hl : p.next.length ≤ 50) (hs : s.size ≤ 16) :
    Calls Try.prog 28 #[.pointer (some ⟨g, 0, none⟩), .string s] w fun e w' => (∃ b, e = .returned (.bool b) ∧ (b = true ↔ runN p 1 (bytesN s) &&& p.last ≠ 0)) ∧ Below w.heap.size w w' := by
  have HA := hide h
  have HT := hide (runTo_lt hp hl (bytesN s))
  have HP := hide hp
  have HL := hide hl
  have HS := hide hs
  have hsI : (s.size : Int) ≤ 16 := by omega
  clear hp hl hs h
  go_enter Try.func28, Try.ntmps28
  go_wp2
  go_loopw [5, 6] (fun rx ix wr => ∃ k r : Nat, ix = .int .i64 (k : Int) ∧ rx = .int .i64 (r : Int) ∧ k ≤ s.size ∧ Hid (r = runTo p (bytesN s) k ∧ Below w.heap.size w wr)) (fun _ ix _ => s.size - (intOf ix).toNat)
  case atStart => exact ⟨0, 1, rfl, rfl, Nat.zero_le _, rfl, Below.refl _ _⟩
  case round =>
    rename World => wr
    obtain ⟨k, r, rfl, rfl, hk, HH⟩ := hrel
    have HB := hide ((unhide HA).below (unhide HH).2)
    by_cases hlt : k < s.size
    · have hlt' : (k : Int) < (s.size : Int) := by omega
      have hbt : s[k].toNat < 256 := s[k].toNat_lt
      have hr : r < top := by rw [(unhide HH).1]; exact unhide HT k
      have HC := hide (fun wr' (hb : AutB wr' g p) => reach_any wr' g p r hb (unhide HP) (unhide HL) hr)
      have hl2 : k < (bytesN s).length := by rw [bytesN_len]; exact hlt
      have HSN : Hid (runTo p (bytesN s) (k + 1) = reachP p r &&& fitP p s[k].toNat) := by
        show _ = _
        rw [runTo_step p (bytesN s) k hl2, bytesN_at s k hlt hl2, (unhide HH).1, stepN_fit]
      have e1 := i64_and_nat _ _ (reachP_lt (unhide HP) (unhide HL) r) (fitP_lt (unhide HP) (unhide HL) s[k].toNat)
      obtain ⟨nv, h1, h2⟩ := unhide HB
      have y0 : wr.cell? ⟨g, 1 + s[k].toNat, none⟩ = some (.int .i64 ((fitP p s[k].toNat : Nat) : Int)) := by rw [cell_of_row _ _ _ _ _ _ h1, autA_b _ _ _ hbt]
      have hbI : (s[k].toNat : Int) < 256 := by omega
      clear hr hbt hl2 h1 h2
      go_wp2
      go_region_with (go_at_call 43; refine (unhide HC _ (by exact (unhide HB).drew)).mono ?_; rintro e w2 ⟨rfl, rfl⟩)
      all_goals
        go_wp2
        go_roundw
        case rel => exact ⟨k + 1, _, by go_num, rfl, by omega, (unhide HSN).symm, (unhide HH).2.drew⟩
        case measure => simp [intOf]; omega
    · have hk2 : k = s.size := by omega
      subst hk2
      have hr : r < top := by rw [(unhide HH).1]; exact unhide HT _
      have HG := hide (grants_any wr g p r (unhide HB) (unhide HP) (unhide HL) hr)
      have HR : Hid (r = runN p 1 (bytesN s)) := by
        have := (unhide HH).1
        unfold runTo at this
        rw [← bytesN_len, List.take_length] at this
        exact this
      clear hr
      go_wp2_with fail
      refine (unhide HG).mono ?_
      rintro e w2 ⟨rfl, rfl⟩
      go_wp2
      go_ret
      refine ⟨⟨_, rfl, ?_⟩, (unhide HH).2⟩
      rw [← unhide HR]; simp

end Go.Proofs.Ytobfpgoepaeknaa
namespace Go.Proofs.Ytobfpgoepaeknaa
open Go.RowKit
attribute [local go_sem ↓] Go.wp_at_zero Go.wp_at_succ zvA
attribute [local go_sem] zcA_size zcA_ne

theorem Dn.pos {ns : List Nd} {fs : List (Nat → Bool)} {R : Re} {i : Int} (h : Dn ns fs R i) : 0 < ns.length := by
  have := h.lt; omega

set_option maxHeartbeats 400000 in
theorem VMatch_long (w : World) (p s : ByteArray) (h : 60 < p.size ∨ 16 < s.size) :
    Calls Try.prog 8 #[.string p, .string s] w fun e w' => e = .returned (.tuple #[.bool false, .int .i64 1]) ∧ Below w.heap.size w w' := by
  by_cases hp : 60 < p.size
  · have hp' : (60 : Int) < (p.size : Int) := by omega
    clear h hp
    go_enter Try.func8, Try.ntmps8
    go_wp2
    go_ret2
    exact ⟨rfl, Below.refl _ _⟩
  · have hp' : (p.size : Int) ≤ 60 := by omega
    have hs' : (16 : Int) < (s.size : Int) := by omega
    clear h hp
    go_enter Try.func8, Try.ntmps8
    go_wp2
    go_ret2
    exact ⟨rfl, Below.refl _ _⟩

/-- A text that was read without an error. -/
theorem read_ok {p : ByteArray} {y : St} {i : Int} (h60 : p.size ≤ 60) (hr : Rds p 0 0 x0 (y, i)) (h0 : (readErr p y).1 = 0) :
    ∃ R n rs k S, Dn y.ns y.fs R ((y.ns.length : Int) - 1) ∧ R.wt ≤ 12 ∧ rfF n 0 p 0 0 [] = some (rs, k) ∧ Dr rs S k ∧ R.L = S.L ∧ y.ns.length ≤ 1000 ∧ y.fs.length ≤ 1000 := by
  have hn : ¬ (y.s.bad = true ∨ y.s.k < p.size) := fun h => by rw [readErr_bad h] at h0; cases h0
  have hb : y.s.bad = false := by
    cases hbb : y.s.bad
    · rfl
    · exact absurd (Or.inl hbb) hn
  have hk : ¬ y.s.k < p.size := fun h => hn (Or.inr h)
  have hw : ¬ 12 < lastW (weighAll y.ns) := fun h => by rw [readErr_big hb hk h] at h0; cases h0
  obtain ⟨R, n, rs, k, S, d, rfl, e, f, g, hv⟩ := read_meets p y i h60 hr hn
  have hy := Rds.facts (x := x0) (Nat.zero_le _) hr
  have hky : y.s.k ≤ p.size := hy.2.1
  have hny : y.ns.length ≤ 1000 := by have := hy.2.2.2; simp [x0] at this; omega
  have hfy : y.fs.length ≤ y.ns.length := hy.2.2.1 (by simp [x0])
  refine ⟨R, n, rs, k, S, d, ?_, f, g, congrArg Prod.fst hv, hny, by omega⟩
  rw [e] at hw
  unfold cl at hw
  split at hw <;> omega

set_option maxHeartbeats 1000000 in
theorem VMatch_any (w : World) (p s : ByteArray) (hp : p.size ≤ 60) (hs : s.size ≤ 16) :
    Calls Try.prog 8 #[.string p, .string s] w fun e w' => ∃ y i b, Rds p 0 0 x0 (y, i) ∧ e = .returned (.tuple #[.bool b, .int .i64 (readErr p y).1]) ∧ Below w.heap.size w w' ∧ ((readErr p y).1 ≠ 0 → b = false) ∧
      ((readErr p y).1 = 0 → ∃ n rs k S, rfF n 0 p 0 0 [] = some (rs, k) ∧ Dr rs S k ∧ (b = true ↔ S.L (bytesN s))) := by
  have HR := hide (Read_any w p hp)
  have hpI : (p.size : Int) ≤ 60 := by omega
  have hsI : (s.size : Int) ≤ 16 := by omega
  have HP := hide hp
  have HS := hide hs
  clear hp hs
  go_enter Try.func8, Try.ntmps8
  go_wp2_with fail
  refine (unhide HR).mono ?_
  rintro e w1 ⟨y, i, nv, sv, hr, ⟨na, nn, nc, rfl⟩, ⟨sa, sn, sc, rfl⟩, rfl, hw1, hok⟩
  have HD := hide hr
  have HB1 := hide hw1
  by_cases h0 : (readErr p y).1 = 0
  · obtain ⟨R, n, rs, k, S, d, hwt, hf, hdr, hRS, hny, hfy⟩ := read_ok (unhide HP) hr h0
    obtain ⟨o1, o2⟩ := hok h0
    have hpos := d.pos
    obtain ⟨m, hm⟩ : ∃ m, y.ns.length = m + 1 := ⟨y.ns.length - 1, by omega⟩
    obtain ⟨g, cap, he⟩ : ∃ g cap, Value.slice na nn nc = .slice (some ⟨g, 0, none⟩) y.ns.length cap := by
      have o1' := o1
      rw [hm] at o1' ⊢; exact own_form o1'
    simp only [Value.slice.injEq] at he
    obtain ⟨rfl, rfl, rfl⟩ := he
    obtain ⟨sa', sc', he2⟩ := FsRow.form (B := w.heap.size) o2
    simp only [Value.slice.injEq] at he2
    obtain ⟨rfl, rfl, rfl⟩ := he2
    have hb2 : Below w1.heap.size w1 (w1.alloc (Obj.cells #[.slice (some ⟨g, 0, none⟩) y.ns.length nc, .slice sa y.fs.length sc] 50)) := (Below.refl _ _).alloc (Nat.le_refl _) _
    have HBU := hide (Build_any _ g nc sc sa y.ns y.fs R (NdRow.below (ownsRow_less o1 (Nat.zero_le _)) hb2) (FsRow.below (ownsRow_less o2 (Nat.zero_le _)) hb2) hny hfy d (by omega))
    have HB2 := hide ((unhide HB1).trans (hb2.mono (unhide HB1).size))
    have HF : Hid (∃ n rs k S, rfF n 0 p 0 0 [] = some (rs, k) ∧ Dr rs S k ∧ R.L = S.L) := ⟨n, rs, k, S, hf, hdr, hRS⟩
    have HOK := hide (autN_ok (partN_ok R))
    have HLEN : Hid ((autN (partN R)).next.length ≤ 50) := by
      show _ ≤ _
      have e2 : (autN (partN R)).next.length = (oneN fun _ => false).next.length + (partN R).next.length := behindN_len _ _
      have := partN_len R
      rw [e2]; simp [oneN]; omega
    have HM : Hid (∀ x, runN (autN (partN R)) 1 x &&& (autN (partN R)).last ≠ 0 ↔ R.L x) := by
      intro x; rw [autN_match (partN_ok R), partN_L]
    have HE := hide h0
    generalize hre : readErr p y = re at *
    have HRE := hide hre
    clear hre hr hw1 hok d hwt hf hdr hRS hny hfy o1 o2 hpos hm hb2 HR
    obtain ⟨e1, e2⟩ := re
    have h0' : e1 = 0 := h0
    subst h0'
    go_wp2_with fail
    refine (unhide HBU).mono ?_
    rintro e w3 ⟨v, rfl, hv, hw3⟩
    have hb3 : Below w3.heap.size w3 (w3.alloc (Obj.cells v.cells 56)) := (Below.refl _ _).alloc (Nat.le_refl _) _
    have HB3 := hide (((unhide HB2).trans (hw3.mono (unhide HB2).size)))
    have HB4 := hide ((unhide HB3).trans (hb3.mono (unhide HB3).size))
    obtain ⟨nv3, rfl, v2⟩ := id hv
    have HA := hide (AMatch_any _ w3.heap.size _ s ⟨nv3, heap_alloc_new w3 _, v2.below hb3⟩ (unhide HOK) (unhide HLEN) (unhide HS))
    obtain ⟨na3, nc3, rfl⟩ := v2.form
    clear v2 hv hw3 hb3 HBU
    go_wp2_with (refine wpList_store_row0 rfl 56 _ _ rfl rfl w3.heap.size _ rfl rfl 56 _ (heap_alloc_new _ _) (by rw [autA_size]; kernel_rfl) (by rw [autA_size, zcA_size]) (autA_one _ _ _ _ _) ?_; rw [setRow_alloc])
    refine (unhide HA).mono ?_
    rintro e w4 ⟨⟨b, rfl, hbb⟩, hw4⟩
    have HBB := hide hbb
    have HW4 := hide hw4
    clear hbb hw4 HA
    go_wp2
    go_ret2
    refine ⟨y, i, b, unhide HD, by rw [unhide HRE]; rfl, (unhide HB4).trans ((unhide HW4).mono (unhide HB4).size), fun h => absurd (by rw [unhide HRE]) h, fun _ => ?_⟩
    obtain ⟨n, rs, k, S, f1, f2, f3⟩ := unhide HF
    exact ⟨n, rs, k, S, f1, f2, by rw [← f3, unhide HBB]; exact unhide HM _⟩
  · have H0 := hide h0
    generalize hre : readErr p y = re at *
    have HRE := hide hre
    clear hre hr hw1 hok HR
    obtain ⟨e1, e2⟩ := re
    have h0' : ¬ e1 = 0 := h0
    clear h0
    go_wp2
    go_ret2
    exact ⟨y, i, false, unhide HD, by rw [unhide HRE]; rfl, (unhide HB1).alloc (unhide HB1).size _, fun _ => rfl, fun h => absurd (by rw [unhide HRE] at h; exact h) h0'⟩

end Go.Proofs.Ytobfpgoepaeknaa
