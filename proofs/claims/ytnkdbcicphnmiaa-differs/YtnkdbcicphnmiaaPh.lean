/-
  policies.truthReader: whether a formula is true.
-/
import Derived.Test.YtnkdbcicphnmiaaPg
namespace Go.Proofs.Ytnkdbcicphnmiaa
namespace Mc
open Go.RowKit
attribute [local go_sem ↓] Go.wp_at_zero Go.wp_at_succ

/-- The byte at a place; 0 past the end. -/
def bt (T : ByteArray) (k : Nat) : Nat := if h : k < T.size then (T[k]'h).toNat else 0
theorem bt_at (T : ByteArray) (k : Nat) : ∀ h : k < T.size, (T[k]'h).toNat = bt T k := fun h => by unfold bt; rw [dif_pos h]
theorem bt_end {T : ByteArray} {k : Nat} (h : ¬ k < T.size) : bt T k = 0 := by unfold bt; rw [dif_neg h]
theorem bt_le (T : ByteArray) (k : Nat) : bt T k < 256 := by
  unfold bt; split
  · exact UInt8.toNat_lt _
  · decide
def tk (T : ByteArray) (k : Nat) : Nat := if k < T.size then k + 1 else k
theorem tk_le {T : ByteArray} {k : Nat} (h : k ≤ T.size) : k ≤ tk T k ∧ tk T k ≤ T.size := by unfold tk; split <;> omega
/-- The formulas in brackets: how many are true, and the place behind. -/
def lp (T : ByteArray) (f : Nat → Bool × Nat) : Nat → Nat → Nat → Nat × Nat
  | 0, k, c => (c, k)
  | m + 1, k, c => if k < T.size ∧ bt T k ≠ 41 then lp T f m (f k).2 (c + (f k).1.toNat) else (c, k)
def sev (T : ByteArray) (f : Nat → Bool × Nat) (k : Nat) : Nat × Nat := ((lp T f T.size (tk T k) 0).1, tk T (lp T f T.size (tk T k) 0).2)
/-- A formula: whether it is true, and the place behind. -/
def frm (T : ByteArray) (tr : List Bool) : Nat → Nat → Bool × Nat
  | 0, k => (false, k)
  | n + 1, k =>
    if bt T k = 33 then (!(frm T tr n (tk T k)).1, (frm T tr n (tk T k)).2)
    else if 48 ≤ bt T k ∧ bt T k ≤ 57 then (decide (bt T k - 48 ≤ (sev T (frm T tr n) (tk T k)).1), (sev T (frm T tr n) (tk T k)).2)
    else (if 97 ≤ bt T k then tr.getD (bt T k - 97) false else false, tk T k)
/-- It goes on. -/
def Adv (T : ByteArray) (f : Nat → Bool × Nat) (n : Nat) : Prop := ∀ k, k ≤ T.size → T.size < n + k → k ≤ (f k).2 ∧ (f k).2 ≤ T.size ∧ (k < T.size → k < (f k).2)
theorem lp_le {T : ByteArray} {f : Nat → Bool × Nat} {n : Nat} (hf : Adv T f n) : ∀ (m k c : Nat), k ≤ T.size → T.size < n + k → k ≤ (lp T f m k c).2 ∧ (lp T f m k c).2 ≤ T.size
  | 0, k, c, h, _ => ⟨Nat.le_refl _, h⟩
  | m + 1, k, c, h, hn => by
    rw [lp]
    split
    · obtain ⟨h1, h2, h3⟩ := hf k h hn
      have := lp_le hf m (f k).2 (c + (f k).1.toNat) h2 (by omega)
      omega
    · exact ⟨Nat.le_refl _, h⟩
theorem sev_le {T : ByteArray} {f : Nat → Bool × Nat} {n : Nat} (hf : Adv T f n) {k : Nat} (h : k ≤ T.size) (hn : T.size < n + k) : k ≤ (sev T f k).2 ∧ (sev T f k).2 ≤ T.size := by
  have h1 := tk_le h
  have h2 := lp_le hf T.size (tk T k) 0 h1.2 (by omega)
  have h3 := tk_le h2.2
  unfold sev
  exact ⟨by omega, h3.2⟩
theorem frm_adv (T : ByteArray) (tr : List Bool) : ∀ n, Adv T (frm T tr n) n
  | 0 => fun k h hn => by omega
  | n + 1 => fun k h hn => by
    have ih := frm_adv T tr n
    by_cases hk : k < T.size
    · have e : tk T k = k + 1 := by unfold tk; rw [if_pos hk]
      rw [frm, e]
      split
      · have := ih (k + 1) (by omega) (by omega)
        exact ⟨by simp only []; omega, this.2.1, fun _ => by simp only []; omega⟩
      · split
        · have := sev_le ih (k := k + 1) (by omega) (by omega)
          exact ⟨by simp only []; omega, this.2, fun _ => by simp only []; omega⟩
        · exact ⟨by simp, by simp only []; omega, fun _ => by simp⟩
    · have e : tk T k = k := by unfold tk; rw [if_neg hk]
      rw [frm, e, bt_end hk]
      simp
      omega

/-- A reader of truths in memory. -/
structure TR (w : World) (gr : Nat) (T : ByteArray) (k : Nat) (v : Value) : Prop where
  heap : w.heap[gr]? = some (.cells #[.string T, .int .i64 (k : Int), v] 183 (0, 0))
section
variable {w w' : World} {gr k : Nat} {T : ByteArray} {v : Value}
theorem TR.c0 (h : TR w gr T k v) : w.cell? ⟨gr, 0, none⟩ = some (.string T) := by rw [cell_of_row _ _ _ _ _ _ h.heap]; rfl
theorem TR.c1 (h : TR w gr T k v) : w.cell? ⟨gr, 1, none⟩ = some (.int .i64 (k : Int)) := by rw [cell_of_row _ _ _ _ _ _ h.heap]; rfl
theorem TR.c2 (h : TR w gr T k v) : w.cell? ⟨gr, 2, none⟩ = some v := by rw [cell_of_row _ _ _ _ _ _ h.heap]; rfl
theorem TR.fz (h : TR w gr T k v) (o : Nat) : w.frozen? ⟨gr, o, none⟩ = false := frozen_of_row _ _ _ _ _ h.heap
theorem TR.drewN (h : TR w gr T k v) (n : Nat) : TR (w.drewN n) gr T k v := ⟨h.heap⟩
theorem TR.put (h : TR w gr T k v) (k' : Nat) : TR (w.setCell ⟨gr, 1, none⟩ (.int .i64 (k' : Int))) gr T k' v := ⟨by rw [heap_setCell_same _ _ _ _ _ _ h.heap]; rfl⟩
theorem TR.row {B : Nat} {bs : List Bool} (h : TR w gr T k v) (hb : BR w B v bs) (hf : Fr [gr] w w') : BR w' B v bs := hf.own hb (fun q hq => by simpa using own_off hb h.heap (by decide) q hq)
end
theorem Fr.drewN {S : List Nat} {w w' : World} (h : Fr S w w') (n : Nat) : Fr S w (w'.drewN n) := ⟨h.os, h.tape, h.output, h.size, h.block⟩

set_option maxRecDepth 20000 in
set_option maxHeartbeats 1000000 in
theorem take_any (w : World) (gr : Nat) (T : ByteArray) (k : Nat) (v : Value) (h : TR w gr T k v) (hT : T.size ≤ 1000) (hk : k ≤ T.size) :
    Calls Try.prog 128 #[.pointer (some ⟨gr, 0, none⟩)] w fun e w' => e = .returned (.int .i64 ((bt T k : Nat) : Int)) ∧ Fr [gr] w w' ∧ TR w' gr T (tk T k) v := by
  have c0 := h.c0
  have c1 := h.c1
  have f1 := h.fz 1
  have hTI : (T.size : Int) ≤ 1000 := by omega
  by_cases hlt : k < T.size
  · have hltI : (k : Int) < (T.size : Int) := by omega
    have hd : decide ((T.size : Int) ≤ (k : Int)) = false := by simpa using hltI
    have hb := bt_at T k
    have e : tk T k = k + 1 := by unfold tk; rw [if_pos hlt]
    have h0 : (0 : Int) ≤ (k : Int) := by omega
    have hbI : ((bt T k : Nat) : Int) < 256 := by have := bt_le T k; omega
    have h1 : ((k : Int)).toNat = k := by omega
    have hw : IntKind.i64.wrap ((k : Int) + 1) = ((k + 1 : Nat) : Int) := wrap_i64 (k + 1) (by omega)
    have HH := hide h
    rw [e]
    clear h e
    go_enter Try.func128, Try.ntmps128
    go_wp2_with fail
    go_quiet (fail)
    go_wp2_with fail
    go_quiet (fail)
    go_wp2_with fail
    go_ret
    exact ⟨rfl, ((Fr.refl [gr] w).drewN _).set (Or.inl (by simp)) _ _, ((unhide HH).drewN _).put (k + 1)⟩
  · have e : tk T k = k := by unfold tk; rw [if_neg hlt]
    have hge : (T.size : Int) ≤ (k : Int) := by omega
    have hge2 : T.size ≤ k := by omega
    rw [e, bt_end hlt]
    have HH := hide h
    clear h e
    go_enter Try.func128, Try.ntmps128
    go_wp2_with fail
    go_quiet (fail)
    go_wp2_with fail
    go_ret
    exact ⟨rfl, (Fr.refl [gr] w).drewN _, (unhide HH).drewN _⟩

/-- What a formula's reading does. -/
def DoesF (T : ByteArray) (bs : List Bool) (n : Nat) : Prop := ∀ (w : World) (gr B k : Nat) (v : Value), TR w gr T k v → BR w B v bs → k ≤ T.size → T.size < n + k →
  Calls Try.prog 127 #[.pointer (some ⟨gr, 0, none⟩)] w fun e w' => e = .returned (.bool (frm T bs n k).1) ∧ Fr [gr] w w' ∧ TR w' gr T (frm T bs n k).2 v
theorem lp_stop {T : ByteArray} {f : Nat → Bool × Nat} {k c : Nat} (h : ¬ (k < T.size ∧ bt T k ≠ 41)) : ∀ m, lp T f m k c = (c, k)
  | 0 => rfl
  | m + 1 => by rw [lp, if_neg h]

set_option maxRecDepth 20000 in
set_option maxHeartbeats 1000000 in
theorem several_any (T : ByteArray) (bs : List Bool) (n : Nat) (hF : DoesF T bs n) (hT : T.size ≤ 1000) (w : World) (gr B k0 : Nat) (v : Value) (h : TR w gr T k0 v) (hb : BR w B v bs) (hk : k0 ≤ T.size) (hn : T.size < n + k0) :
    Calls Try.prog 129 #[.pointer (some ⟨gr, 0, none⟩)] w fun e w' => e = .returned (.int .i64 (((sev T (frm T bs n) k0).1 : Nat) : Int)) ∧ Fr [gr] w w' ∧ TR w' gr T (sev T (frm T bs n) k0).2 v := by
  have HT0 := hide (take_any w gr T k0 v h hT hk)
  have HRW := hide (fun w' (hf : Fr [gr] w w') => h.row hb hf)
  have HF := hide hF
  have HN := hide hn
  have HK := hide (tk_le hk)
  have hTI : (T.size : Int) ≤ 1000 := by omega
  clear hF h hb hn hk
  go_enter Try.func129, Try.ntmps129
  go_wp2_with fail
  refine (unhide HT0).mono ?_
  rintro e w1 ⟨rfl, hf1, ht1⟩
  have HF1 := hide hf1
  have HT1 := hide ht1
  clear hf1 ht1 HT0
  go_wp2_with fail
  go_loopg [3] T.size (fun m cx wr => ∃ (k c : Nat), cx = .int .i64 (c : Int) ∧ Hid (T.size ≤ m + k ∧ k ≤ T.size ∧ k0 ≤ k ∧ c ≤ k ∧ lp T (frm T bs n) m k c = lp T (frm T bs n) T.size (tk T k0) 0 ∧ Fr [gr] w wr ∧ TR wr gr T k v))
  case atStart => exact ⟨tk T k0, 0, rfl, by omega, (unhide HK).2, (unhide HK).1, Nat.zero_le _, rfl, unhide HF1, unhide HT1⟩
  case round =>
    clear HF1 HT1
    rename World => wr
    obtain ⟨k, c, rfl, HH⟩ := hrel
    obtain ⟨hm, hk, hk0, hc, he, hfr, htr⟩ := unhide HH
    clear HH
    have c0 := htr.c0
    have c1 := htr.c1
    have h0 : (0 : Int) ≤ (k : Int) := by omega
    have h1 : ((k : Int)).toNat = k := by omega
    by_cases hlt : k < T.size
    · have hltI : (k : Int) < (T.size : Int) := by omega
      have hb := bt_at T k
      by_cases h41 : bt T k = 41
      · rw [h41] at hb
        rw [lp_stop (by simp [h41])] at he
        have HS : Hid (sev T (frm T bs n) k0 = (c, tk T k)) := by show _ = _; unfold sev; rw [← he]
        have HTK := hide (fun (q : Nat) => take_any _ gr T k v (htr.drewN q) hT hk)
        have HFR := hide hfr
        clear he hfr htr h41 hm hk0 hc
        go_wp2_with fail
        go_quiet (fail)
        go_wp2_with fail
        refine (unhide HTK _).mono ?_
        rintro e w2 ⟨rfl, hf2, ht2⟩
        have HF2 := hide hf2
        have HT2 := hide ht2
        clear hf2 ht2
        go_wp2_with fail
        go_ret
        rw [unhide HS]
        exact ⟨rfl, ((unhide HFR).drewN _).and (unhide HF2) (fun x hx => Or.inl hx), unhide HT2⟩
      · have hgk : 1 ≤ gk := by omega
        obtain ⟨g1, rfl⟩ : ∃ g1, gk = g1 + 1 := ⟨gk - 1, by omega⟩
        rw [lp, if_pos ⟨hlt, h41⟩] at he
        have hnk : T.size < n + k := by have := unhide HN; omega
        have had := frm_adv T bs n k hk hnk
        have HFM := hide (fun (q : Nat) => unhide HF (wr.drewN q) gr B k v (htr.drewN q) (unhide HRW _ (hfr.drewN q)) hk hnk)
        have h41I : ¬ ((bt T k : Nat) : Int) = 41 := by omega
        have hcI : (c : Int) ≤ 1000 := by omega
        have hbI : ((bt T k : Nat) : Int) < 256 := by have := bt_le T k; omega
        have hwc : IntKind.i64.wrap ((c : Int) + 1) = ((c + 1 : Nat) : Int) := wrap_i64 (c + 1) (by omega)
        have HFR := hide hfr
        generalize hp : frm T bs n k = p at *
        clear hp
        obtain ⟨pb, pk⟩ := p
        have HRL : Hid (T.size ≤ g1 + pk ∧ pk ≤ T.size ∧ k0 ≤ pk ∧ c + pb.toNat ≤ pk ∧ lp T (frm T bs n) g1 pk (c + pb.toNat) = lp T (frm T bs n) T.size (tk T k0) 0) := by
          have a1 := had.1
          have a2 := had.2.1
          have a3 := had.2.2 hlt
          have a4 : pb.toNat ≤ 1 := by cases pb <;> decide
          simp only [] at a1 a2 a3
          exact ⟨by omega, a2, by omega, by omega, he⟩
        clear hm hk0 hc he hfr htr hgk hnk had
        cases pb
        all_goals
          go_wp2_with fail
          go_quiet (fail)
          go_wp2_with fail
          refine (unhide HFM _).mono ?_
          rintro e w2 ⟨rfl, hf2, ht2⟩
          have HF2 := hide hf2
          have HT2 := hide ht2
          clear hf2 ht2
          go_wp2_with fail
          go_roundg g1
          case measure => omega
          case rel =>
            obtain ⟨r1, r2, r3, r4, r5⟩ := unhide HRL
            exact ⟨pk, _, by first | rfl | (show Value.int _ _ = Value.int _ _; simp), r1, r2, r3, r4, r5, ((unhide HFR).drewN _).and (unhide HF2) (fun x hx => Or.inl hx), unhide HT2⟩
    · have hgeI : (T.size : Int) ≤ (k : Int) := by omega
      have hge : T.size ≤ k := by omega
      rw [lp_stop (by omega)] at he
      have HS : Hid (sev T (frm T bs n) k0 = (c, tk T k)) := by show _ = _; unfold sev; rw [← he]
      have HTK := hide (fun (q : Nat) => take_any _ gr T k v (htr.drewN q) hT hk)
      have HFR := hide hfr
      clear he hfr htr hm hk0 hc
      go_wp2_with fail
      go_quiet (fail)
      go_wp2_with fail
      refine (unhide HTK _).mono ?_
      rintro e w2 ⟨rfl, hf2, ht2⟩
      have HF2 := hide hf2
      have HT2 := hide ht2
      clear hf2 ht2
      go_wp2_with fail
      go_ret
      rw [unhide HS]
      exact ⟨rfl, ((unhide HFR).drewN _).and (unhide HF2) (fun x hx => Or.inl hx), unhide HT2⟩

end Mc
end Go.Proofs.Ytnkdbcicphnmiaa
