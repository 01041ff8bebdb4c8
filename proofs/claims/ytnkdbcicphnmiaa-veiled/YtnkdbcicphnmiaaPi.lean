/-
  policies.truthReader.formula, isTrue, Image.Grants.
-/
import Derived.Test.YtnkdbcicphnmiaaPh
namespace Go.Proofs.Ytnkdbcicphnmiaa
namespace Mc
open Go.RowKit
attribute [local go_sem ↓] Go.wp_at_zero Go.wp_at_succ

set_option maxRecDepth 20000 in
set_option maxHeartbeats 1000000 in
theorem formula_any (T : ByteArray) (bs : List Bool) (hT : T.size ≤ 1000) (hbs : bs.length ≤ 1000) : ∀ n, DoesF T bs n
  | 0 => fun w gr B k v h hb hk hn => by omega
  | n + 1 => fun w gr B k v h hb hk hn => by
    have ih := formula_any T bs hT hbs n
    have HT0 := hide (take_any w gr T k v h hT hk)
    have HB := hide (fun w' (hf : Fr [gr] w w') => h.row hb hf)
    have hb256 := bt_le T k
    have hbI : ((bt T k : Nat) : Int) < 256 := by omega
    have hb0 : (0 : Int) ≤ ((bt T k : Nat) : Int) := by omega
    have htk := tk_le hk
    have hltk : bt T k ≠ 0 → T.size < n + tk T k := fun h0 => by
      have : k < T.size := by
        by_cases hlt : k < T.size
        · exact hlt
        · exact absurd (bt_end hlt) h0
      unfold tk; rw [if_pos this]; omega
    obtain ⟨va, vc, hv⟩ := hb.form
    have HLK := hide hltk
    rw [frm]
    by_cases h33 : bt T k = 33
    · have HFM := hide (fun w' (hf : Fr [gr] w w') (ht : TR w' gr T (tk T k) v) => ih w' gr B (tk T k) v ht (unhide HB w' hf) htk.2 (hltk (by omega)))
      rw [if_pos h33]
      rw [h33] at HT0
      clear ih h hb hltk h33 hbI hb0 HLK hv hb256
      go_enter Try.func127, Try.ntmps127
      go_wp2_with fail
      refine (unhide HT0).mono ?_
      rintro e w1 ⟨rfl, hf1, ht1⟩
      have HC := hide (unhide HFM w1 hf1 ht1)
      have HF1 := hide hf1
      clear hf1 ht1
      go_wp2_with fail
      refine (unhide HC).mono ?_
      rintro e w2 ⟨rfl, hf2, ht2⟩
      have HF2 := hide hf2
      have HT2 := hide ht2
      clear hf2 ht2
      go_wp2_with fail
      go_ret
      exact ⟨rfl, (unhide HF1).and (unhide HF2) (fun x hx => Or.inl hx), unhide HT2⟩
    · have h33I : ¬ ((bt T k : Nat) : Int) = 33 := by omega
      rw [if_neg h33]
      by_cases hdg : 48 ≤ bt T k ∧ bt T k ≤ 57
      · rw [if_pos hdg]
        have HSV := hide (fun w' (hf : Fr [gr] w w') (ht : TR w' gr T (tk T k) v) => several_any T bs n ih hT w' gr B (tk T k) v ht (unhide HB w' hf) htk.2 (hltk (by omega)))
        have d1 : (48 : Int) ≤ ((bt T k : Nat) : Int) := by omega
        have d2 : ((bt T k : Nat) : Int) ≤ 57 := by omega
        have e1 : ((bt T k : Nat) : Int) - 48 = ((bt T k - 48 : Nat) : Int) := by omega
        have ew : IntKind.i64.wrap ((bt T k - 48 : Nat) : Int) = ((bt T k - 48 : Nat) : Int) := wrap_i64 (bt T k - 48) (by omega)
        clear ih h hb hltk HLK hv hb256 h33
        generalize sev T (frm T bs n) (tk T k) = p at *
        obtain ⟨pc, pk⟩ := p
        generalize bt T k - 48 = x at *
        have hdg2 := hide hdg
        clear hdg
        generalize bt T k = b at *
        go_enter Try.func127, Try.ntmps127
        go_wp2_with fail
        refine (unhide HT0).mono ?_
        rintro e w1 ⟨rfl, hf1, ht1⟩
        have HC := hide (unhide HSV w1 hf1 ht1)
        have HF1 := hide hf1
        clear hf1 ht1
        go_wp2_with fail
        refine (unhide HC).mono ?_
        rintro e w2 ⟨rfl, hf2, ht2⟩
        have HF2 := hide hf2
        have HT2 := hide ht2
        clear hf2 ht2
        go_wp2_with fail
        go_ret
        exact ⟨ret_bool (by simp), (unhide HF1).and (unhide HF2) (fun x hx => Or.inl hx), unhide HT2⟩
      · rw [if_neg hdg]
        by_cases h97 : 97 ≤ bt T k
        · rw [if_pos h97]
          have d1 : (48 : Int) ≤ ((bt T k : Nat) : Int) := by omega
          have d2 : ¬ ((bt T k : Nat) : Int) ≤ 57 := by omega
          have e1 : ((bt T k : Nat) : Int) - 97 = ((bt T k - 97 : Nat) : Int) := by omega
          have ew : IntKind.i64.wrap ((bt T k - 97 : Nat) : Int) = ((bt T k - 97 : Nat) : Int) := wrap_i64 (bt T k - 97) (by omega)
          have hx0 : (0 : Int) ≤ ((bt T k - 97 : Nat) : Int) := by omega
          have hx1 : (((bt T k - 97 : Nat) : Int)).toNat = bt T k - 97 := by omega
          by_cases hin : bt T k - 97 < bs.length
          · have hinI : ((bt T k - 97 : Nat) : Int) < (bs.length : Int) := by omega
            have HCE := hide (fun w' (hf : Fr [gr] w w') => (unhide HB w' hf).at hin)
            clear ih h hb hltk HLK hb256 h33 hdg h97 htk HB
            generalize bs.getD (bt T k - 97) false = y at *
            generalize bt T k - 97 = x at *
            generalize bt T k = b at *
            go_enter Try.func127, Try.ntmps127
            go_wp2_with fail
            refine (unhide HT0).mono ?_
            rintro e w1 ⟨rfl, hf1, ht1⟩
            obtain ⟨g, cap, hv2, hcell⟩ := unhide HCE w1 hf1
            have c2 := ht1.c2
            rw [hv2] at c2
            have HT1 := hide ht1
            have HF1 := hide hf1
            clear hf1 ht1 HCE hv hv2 HT0
            cases y
            all_goals
              go_wp2_with fail
              go_ret
              exact ⟨rfl, unhide HF1, unhide HT1⟩
          · have hinI : ¬ ((bt T k - 97 : Nat) : Int) < (bs.length : Int) := by omega
            rw [show bs.getD (bt T k - 97) false = false from by rw [List.getD_eq_getElem?_getD, List.getElem?_eq_none (by omega)]; rfl]
            clear ih h hb hltk HLK hb256 h33 hdg h97 htk HB
            generalize bt T k - 97 = x at *
            generalize bt T k = b at *
            go_enter Try.func127, Try.ntmps127
            go_wp2_with fail
            refine (unhide HT0).mono ?_
            rintro e w1 ⟨rfl, hf1, ht1⟩
            have c2 := ht1.c2
            rw [hv] at c2
            have HT1 := hide ht1
            have HF1 := hide hf1
            clear hf1 ht1 hv HT0
            go_wp2_with fail
            go_ret
            exact ⟨rfl, unhide HF1, unhide HT1⟩
        · rw [if_neg h97]
          have d1 : ((bt T k : Nat) : Int) < 97 := by omega
          have dd : ((bt T k : Nat) : Int) < 48 ∨ (48 : Int) ≤ ((bt T k : Nat) : Int) ∧ ¬ ((bt T k : Nat) : Int) ≤ 57 := by omega
          clear ih h hb hltk HLK hb256 h33 hdg h97 htk HB hv
          generalize bt T k = b at *
          rcases dd with d2 | ⟨d2, d3⟩
          all_goals
            go_enter Try.func127, Try.ntmps127
            go_wp2_with fail
            refine (unhide HT0).mono ?_
            rintro e w1 ⟨rfl, hf1, ht1⟩
            have HT1 := hide ht1
            have HF1 := hide hf1
            clear hf1 ht1 HT0
            go_wp2_with fail
            go_ret
            exact ⟨rfl, unhide HF1, unhide HT1⟩

/-- Whether a formula is true. -/
def trueF (T : ByteArray) (bs : List Bool) : Bool := (frm T bs (T.size + 1) 0).1

set_option maxRecDepth 20000 in
set_option maxHeartbeats 1000000 in
theorem isTrue_any (w : World) (B : Nat) (T : ByteArray) (bs : List Bool) (v : Value) (hb : BR w B v bs) (hT : T.size ≤ 1000) (hbs : bs.length ≤ 1000) :
    Calls Try.prog 122 #[.string T, v] w fun e w' => e = .returned (.bool (trueF T bs)) ∧ Below w.heap.size w w' := by
  obtain ⟨va, vc, hv⟩ := hb.form
  have HB := hide hb
  have HF := hide (formula_any T bs hT hbs (T.size + 1))
  subst hv
  clear hb
  go_enter Try.func122, Try.ntmps122
  go_wp2_with fail
  refine (unhide HF _ w.heap.size B 0 _ ⟨heap_alloc_new _ _⟩ ((Fr.ofAlloc w _).own (unhide HB) (by simp)) (Nat.zero_le _) (by omega)).mono ?_
  rintro e w2 ⟨rfl, hf2, -⟩
  have HF2 := hide hf2
  clear hf2
  go_wp2_with fail
  go_ret
  exact ⟨rfl, ((Fr.ofAlloc w _).and (unhide HF2) (fun x hx => Or.inr (by simp at hx; omega))).below (fun x hx => by cases hx)⟩

set_option maxRecDepth 20000 in
set_option maxHeartbeats 1000000 in
theorem Grants_any (w : World) (gi N m tc B : Nat) (f : ByteArray) (ta : Option Addr) (bs : List Bool) (v : Value) (h : ImB w gi N f ta m tc) (hb : BR w B v bs) (hT : f.size ≤ 1000) (hbs : bs.length ≤ 1000) :
    Calls Try.prog 103 #[.pointer (some ⟨gi, 0, none⟩), v] w fun e w' => e = .returned (.bool (trueF f bs)) ∧ Below w.heap.size w w' := by
  have c1 : w.cell? ⟨gi, 1, none⟩ = some (.string f) := by rw [cell_of_row _ _ _ _ _ _ h.heap]; rfl
  have HC := hide (isTrue_any w B f bs v hb hT hbs)
  obtain ⟨va, vc, hv⟩ := hb.form
  subst hv
  clear h hb
  go_enter Try.func103, Try.ntmps103
  go_wp2_with fail
  refine (unhide HC).mono ?_
  rintro e w2 ⟨rfl, hf2⟩
  have HF2 := hide hf2
  clear hf2
  go_wp2_with fail
  go_ret
  exact ⟨rfl, unhide HF2⟩

end Mc
end Go.Proofs.Ytnkdbcicphnmiaa
