/-
  The document's answer: does a test tell two sets apart?
  The document's answer: the finder of states in memory.
-/
import Derived.Test.YtfooclcjehpcfaaGreatXy
namespace Go.Proofs.YtfooclcjehpcfaaGreat
namespace Mc
open Go.RowKit
attribute [local go_sem ↓] Go.wp_at_zero Go.wp_at_succ

theorem trk_base {rs0 : List Rn} {b n : Nat} {wr w2 : World} {rs1 rs2 : List Rn} (h : TrK rs0 b (wr.drewN n) rs1 w2 rs2) : TrK rs0 b wr rs1 w2 rs2 := ⟨⟨⟨h.fy.below.os, h.fy.below.tape, h.fy.below.output, h.fy.below.size, h.fy.below.block⟩, h.fy.keep, h.fy.row⟩, h.rt, h.gr, h.ex⟩
/-- A string tells two languages apart. -/
def Tells (s : ByteArray) (A B : Lang) : Prop := ¬ (derS (bytesN s) A [] ↔ derS (bytesN s) B [])
/-- What tested answers. -/
def TstA (rs0 : List Rn) (b : Nat) (w : World) (rs : List Rn) (w' : World) (T : List ByteArray) (A B : Lang) (e : Ending) : Prop := ∃ (y : Bool) (rs' : List Rn), e = .returned (.bool y) ∧ TrK rs0 b w rs w' rs' ∧ (y = true → ∃ s ∈ T, Tells s A B)
theorem bool_tells {y1 y2 : Bool} {p q : Prop} (h1 : y1 = true ↔ p) (h2 : y2 = true ↔ q) (h : y1 ≠ y2) : ¬ (p ↔ q) := fun e => by
  apply h
  cases y1 <;> cases y2 <;> simp_all
set_option maxRecDepth 20000 in
set_option maxHeartbeats 2000000 in
theorem tested_any {rs0 : List Rn} {U : List (List Nm)} (hT : TrC rs0 U) {b : Nat} (w : World) (rs : List Rn) (hb : RtS w b rs) (hg : GrowT rs0 rs) (gf : Nat) (bv sv : Value) (ta : Option Addr) (tc : Nat) (T : List ByteArray) (hf : w.heap[gf]? = some (.cells #[.pointer (some ⟨b, 0, none⟩), bv, sv, .slice ta T.length tc] 48 (0, 0))) (B0 : Nat) (hR : SRow w B0 (.slice ta T.length tc) T) (hTz : ∀ s ∈ T, s.size ≤ 67108864) (hTl : T.length ≤ 1000000)
    (B1 B2 : Nat) (u v : Value) (X Y : List ByteArray) (hu : SRow w B1 u X) (hv : SRow w B2 v Y) (hX : VSet rs0 rs U X) (hY : VSet rs0 rs U Y) :
    Calls Tryz.prog 50 #[.pointer (some ⟨gf, 0, none⟩), u, v] w fun e w' => TstA rs0 b w rs w' T (stB rs X) (stB rs Y) e := by
  obtain ⟨ua, uc, rfl⟩ := hu.form
  obtain ⟨xa, xc, rfl⟩ := hv.form
  have hTI : (T.length : Int) ≤ 1000000 := by omega
  have HT := hide hT
  have HRT := hide hb
  have HG := hide hg
  have HF := hide hf
  have HR := hide hR
  have HTZ := hide hTz
  have HU := hide hu
  have HV := hide hv
  have HX := hide hX
  have HY := hide hY
  have HK0 := hide (TrK.refl hb hg)
  clear hT hb hg hf hR hTz hTl hu hv hX hY
  go_enter Tryz.func50, Tryz.ntmps50
  go_wp2_with fail
  go_loopw [7] (fun ix wr => ∃ (i : Nat) (rs1 : List Rn), ix = .int .i64 (i : Int) ∧ Hid (i ≤ T.length ∧ TrK rs0 b w rs wr rs1)) (fun ix _ => T.length - (intOf ix).toNat)
  case atStart => exact ⟨0, rs, rfl, Nat.zero_le _, unhide HK0⟩
  case round =>
    clear HK0
    rename World => wr
    obtain ⟨i, rs1, rfl, HH⟩ := hrel
    obtain ⟨hi, hK⟩ := unhide HH
    clear HH
    have hf1 : wr.heap[gf]? = _ := hK.fy.at (unhide HRT) (unhide HF) (by decide) (by decide)
    have f0 : wr.cell? ⟨gf, 0, none⟩ = some (.pointer (some ⟨b, 0, none⟩)) := by rw [cell_of_row _ _ _ _ _ _ hf1]; rfl
    have f3 : wr.cell? ⟨gf, 3, none⟩ = some (.slice ta T.length tc) := by rw [cell_of_row _ _ _ _ _ _ hf1]; rfl
    have hgf : gf < wr.heap.size := (Array.getElem?_eq_some_iff.1 hf1).1
    by_cases hlt : i < T.length
    · have hiI : (i : Int) < (T.length : Int) := by omega
      have hi0 : (0 : Int) ≤ (i : Int) := by omega
      have hi1 : ((i : Int)).toNat = i := by omega
      obtain ⟨g, cap, he, ct⟩ := ((unhide HR).fy hK.fy (unhide HRT)).at hlt
      simp only [Value.slice.injEq, true_and] at he
      obtain ⟨rfl, rfl⟩ := he
      have hgt : g < wr.heap.size := World.block_lt_of_cell? wr ⟨g, i, none⟩ ct
      have hmem : T.getD i ByteArray.empty ∈ T := by rw [List.getD_eq_getElem?_getD, List.getElem?_eq_getElem hlt]; exact List.getElem_mem _
      have hsz := unhide HTZ _ hmem
      have hX1 := hK.set (unhide HG) (unhide HX)
      have HL1 := hide (fun n => lets_any (b := b) (unhide HT) (wr.drewN n) rs1 (RtS_below hK.rt (below_drewN (Below.refl _ _) n)) hK.gr B1 (.slice ua X.length uc) X (show SRow wr B1 (.slice ua X.length uc) X from (unhide HU).fy hK.fy (unhide HRT)) hX1.1 (T.getD i ByteArray.empty) (by omega))
      have HE1 := hide hX1.2
      have HK := hide hK
      have HLT := hide hlt
      have HMEM := hide hmem
      have HSZ := hide hsz
      clear hi hK hlt hf1 hmem hsz hX1
      generalize hsi : T.getD i ByteArray.empty = s at *
      have HSI := hide hsi
      clear hsi
      go_upto_region 4 with fail
      go_cut [8] from 10 to 47 (fun yx wx => ∃ (y : Bool) (rs2 : List Rn), yx = .bool y ∧ Hid ((y = true ↔ derS (bytesN s) (stB rs1 X) []) ∧ TrK rs0 b wr rs1 wx rs2))
      case first =>
        go_region_with (go_at_call 76; refine (unhide HL1 _).mono ?_; rintro e w3 ⟨y, rs2, rfl, hy, hk⟩; have HK3 := hide (And.intro hy (trk_base hk)); clear hy hk)
        all_goals
          go_wp2_with fail
          go_meet
          exact ⟨y, rs2, rfl, unhide HK3⟩
      case rest =>
        rename World => w3
        obtain ⟨y1, rs2, rfl, HC⟩ := hcut
        have hK3 := (unhide HK).trans (unhide HC).2
        have hf3 : w3.heap[gf]? = _ := hK3.fy.at (unhide HRT) (unhide HF) (by decide) (by decide)
        have e0 : w3.cell? ⟨gf, 0, none⟩ = some (.pointer (some ⟨b, 0, none⟩)) := by rw [cell_of_row _ _ _ _ _ _ hf3]; rfl
        have e3 : w3.cell? ⟨gf, 3, none⟩ = some (.slice (some ⟨g, 0, none⟩) T.length tc) := by rw [cell_of_row _ _ _ _ _ _ hf3]; rfl
        have hgf3 : gf < w3.heap.size := (Array.getElem?_eq_some_iff.1 hf3).1
        obtain ⟨g', cap', he, ct3⟩ := ((unhide HR).fy hK3.fy (unhide HRT)).at (unhide HLT)
        simp only [Value.slice.injEq, true_and, Option.some.injEq, Addr.mk.injEq, and_true] at he
        obtain ⟨rfl, rfl⟩ := he
        have hgt3 : g < w3.heap.size := World.block_lt_of_cell? w3 ⟨g, i, none⟩ ct3
        rw [unhide HSI] at ct3
        have hY1 := hK3.set (unhide HG) (unhide HY)
        have HL2 := hide (fun n => lets_any (b := b) (unhide HT) (w3.drewN n) rs2 (RtS_below hK3.rt (below_drewN (Below.refl _ _) n)) hK3.gr B2 (.slice xa Y.length xc) Y (show SRow w3 B2 (.slice xa Y.length xc) Y from (unhide HV).fy hK3.fy (unhide HRT)) hY1.1 s (by have := unhide HSZ; omega))
        have HE2 := hide hY1.2
        have HK3 := hide hK3
        clear hK3 hf3 hY1 f0 f3 hgf ct hgt HL1
        go_upto_region 5 with fail
        go_cut [9] from 10 to 47 (fun yx wx => ∃ (y : Bool) (rs3 : List Rn), yx = .bool y ∧ Hid ((y = true ↔ derS (bytesN s) (stB rs2 Y) []) ∧ TrK rs0 b w3 rs2 wx rs3))
        case first =>
          go_region_with (go_at_call 76; refine (unhide HL2 _).mono ?_; rintro e w4 ⟨y, rs3, rfl, hy, hk⟩; have HK4 := hide (And.intro hy (trk_base hk)); clear hy hk)
          all_goals
            go_wp2_with fail
            go_meet
            exact ⟨y, rs3, rfl, unhide HK4⟩
        case rest =>
          rename World => w4
          obtain ⟨y2, rs3, rfl, HD⟩ := hcut
          have HK4 := hide ((unhide HK3).trans (unhide HD).2)
          clear e0 e3 hgf3 ct3 hgt3 HL2
          by_cases hyy : y1 = y2
          · subst hyy
            go_wp2_with fail
            go_roundw
            case rel => exact ⟨i + 1, rs3, by go_num, unhide HLT, unhide HK4⟩
            case measure => have := unhide HLT; simp [intOf]; omega
          · have HTL : Hid (∃ s ∈ T, Tells s (stB rs X) (stB rs Y)) := ⟨s, unhide HMEM, bool_tells (by have := (unhide HC).1; rw [unhide HE1] at this; exact this) (by have := (unhide HD).1; rw [unhide HE2] at this; exact this) hyy⟩
            cases y1 <;> cases y2
            all_goals first
              | exact absurd rfl hyy
              | (clear hyy
                 go_wp2_with fail
                 go_ret
                 exact ⟨true, rs3, rfl, unhide HK4, fun _ => unhide HTL⟩)
    · have hi2 : i = T.length := by omega
      subst hi2
      have hiI : ¬ (T.length : Int) < (T.length : Int) := by omega
      have HK := hide hK
      clear hi hK hlt hf1
      go_wp2_with fail
      go_ret
      exact ⟨false, rs1, rfl, unhide HK, fun h => by cases h⟩

end Mc
end Go.Proofs.YtfooclcjehpcfaaGreat
namespace Go.Proofs.YtfooclcjehpcfaaGreat
namespace Mc
open Go.RowKit

/-- All blocks but the tree's and one more are as they were. -/
structure Fv (b gf : Nat) (w w' : World) : Prop where
  os : w'.os = w.os
  tape : w'.tape = w.tape
  output : w'.output = w.output
  size : w.heap.size ≤ w'.heap.size
  keep : ∀ k, k < w.heap.size → k ≠ b → k ≠ gf → ¬ RowAt w b k → w'.heap[k]? = w.heap[k]?
  row : ∀ k, RowAt w' b k → RowAt w b k ∨ w.heap.size ≤ k
theorem Fv.refl (b gf : Nat) (w : World) : Fv b gf w w := ⟨rfl, rfl, rfl, Nat.le_refl _, fun _ _ _ _ _ => rfl, fun _ h => .inl h⟩
theorem Fv.fy {b gf : Nat} {w w1 w2 : World} (h : Fv b gf w w1) (k : Fy b w1 w2) : Fv b gf w w2 := by
  refine ⟨k.below.os.trans h.os, k.below.tape.trans h.tape, k.below.output.trans h.output, Nat.le_trans h.size k.below.size, fun i hi hb hg hr => ?_, fun i hi => ?_⟩
  · rw [k.keep i (Nat.lt_of_lt_of_le hi h.size) hb (fun hr' => ?_)]
    · exact h.keep i hi hb hg hr
    · rcases h.row i hr' with g | g
      · exact hr g
      · omega
  · rcases k.row i hi with g | g
    · exact h.row i g
    · exact .inr (Nat.le_trans h.size g)
/-- Blocks change that are new, or the finder's own. -/
theorem Fv.fr {b gf : Nat} {w w1 w2 : World} (h : Fv b gf w w1) {S : List Nat} (f : Fr S w1 w2) (hS : ∀ x ∈ S, x = gf ∨ w.heap.size ≤ x) (hb : b < w.heap.size) (hne : b ≠ gf) : Fv b gf w w2 := by
  have hbk : ∀ k, k < w.heap.size → k ≠ gf → w2.heap[k]? = w1.heap[k]? := fun k hk hg => f.block k (Nat.lt_of_lt_of_le hk h.size) (fun hm => by rcases hS k hm with e | e <;> omega)
  refine ⟨f.os.trans h.os, f.tape.trans h.tape, f.output.trans h.output, Nat.le_trans h.size f.size, fun i hi hb' hg hr => (hbk i hi hg).trans (h.keep i hi hb' hg hr), fun i hi => ?_⟩
  obtain ⟨v, fr, g1, g2⟩ := hi
  rw [hbk b hb hne] at g1
  exact h.row i ⟨v, fr, g1, g2⟩
/-- A tree stays where other blocks change. -/
theorem rts_fr {b : Nat} {w1 w2 : World} {rs : List Rn} (h : RtS w1 b rs) {S : List Nat} (f : Fr S w1 w2) (hS : ∀ q ∈ S, ∀ cs ty fr, w1.heap[q]? = some (.cells cs ty fr) → ty ≠ 110 ∧ ty ≠ 75) : RtS w2 b rs := by
  obtain ⟨v, h1, h2⟩ := h
  refine ⟨v, f.at h1 (fun hm => (hS b hm _ _ _ h1).2 rfl), f.own h2 (fun q hq hm => ?_)⟩
  obtain ⟨cs, hc⟩ := own_tyT h2 hq
  exact (hS q hm _ _ _ hc).1 rfl
/-- Values that are rows of strings. -/
structure Sws (w : World) (us : List Value) (St : List (List ByteArray)) : Prop where
  len : us.length = St.length
  row : ∀ (k : Nat) u X, us[k]? = some u → St[k]? = some X → SRow w 0 u X
section
variable {w w' : World} {us : List Value} {St : List (List ByteArray)}
theorem Sws.nil : Sws w [] [] := ⟨rfl, fun k u X h => by simp at h⟩
theorem Sws.at (h : Sws w us St) {k : Nat} {X : List ByteArray} (hk : St[k]? = some X) : ∃ u, us[k]? = some u ∧ SRow w 0 u X := by
  have hl := get_lt hk
  have hu := List.getElem?_eq_getElem (show k < us.length by rw [h.len]; exact hl)
  exact ⟨_, hu, h.row k _ X hu hk⟩
theorem Sws.mem (h : Sws w us St) {u : Value} (hu : u ∈ us) : ∃ X, SRow w 0 u X := by
  obtain ⟨k, hk⟩ := List.getElem?_of_mem hu
  have hl := get_lt hk
  have hr := List.getElem?_eq_getElem (show k < St.length by rw [← h.len]; exact hl)
  exact ⟨_, h.row k u _ hk hr⟩
theorem Sws.fy (h : Sws w us St) {b : Nat} {rs : List Rn} (f : Fy b w w') (ht : RtS w b rs) : Sws w' us St := ⟨h.len, fun k u X hu hX => (h.row k u X hu hX).fy f ht⟩
theorem Sws.keep (h : Sws w us St) {S : List Nat} (f : Fr S w w') (hs : ∀ u ∈ us, ∀ q, u.ownBlock = some q → q ∉ S) : Sws w' us St := ⟨h.len, fun k u X hu hX => f.own (h.row k u X hu hX) (hs u (List.mem_of_getElem? hu))⟩
theorem Sws.snoc (h : Sws w us St) {u : Value} {X : List ByteArray} (hu : SRow w 0 u X) : Sws w (us ++ [u]) (St ++ [X]) := by
  refine ⟨by simp [h.len], fun k u' X' hu' hX' => ?_⟩
  rcases get_snoc hu' with h1 | ⟨rfl, rfl⟩
  · rcases get_snoc hX' with h2 | ⟨rfl, rfl⟩
    · exact h.row k u' X' h1 h2
    · have := get_lt h1; have := h.len; omega
  · rcases get_snoc hX' with h2 | ⟨-, rfl⟩
    · have := get_lt h2; have := h.len; omega
    · exact hu
end
/-- A row lies apart from others. -/
def SepS (v : Value) (us : List Value) : Prop := ∀ u ∈ us, ∀ q, u.ownBlock = some q → v.ownBlock ≠ some q
/-- The finder in memory. -/
structure FnI (rs0 : List Rn) (U : List (List Nm)) (b gf : Nat) (w : World) (rs : List Rn) (wr : World) (bv : Value) (sa : Option Addr) (sc : Nat) (St : List (List ByteArray)) (us : List Value) (ta : Option Addr) (tc : Nat) (T : List ByteArray) (rs1 : List Rn) : Prop where
  fv : Fv b gf w wr
  rt : RtS wr b rs1
  gr : GrowT rs0 rs1
  ex : ∃ x, rs1 = rs ++ x
  hb : b < w.heap.size
  hg : gf < w.heap.size
  im : wr.heap[gf]? = some (.cells #[.pointer (some ⟨b, 0, none⟩), bv, .slice sa St.length sc, .slice ta T.length tc] 48 (0, 0))
  so : wr.ownsRow w.heap.size 46 1 (.slice sa St.length sc) St.length us
  sr : Sws wr us St
  tr : SRow wr w.heap.size (.slice ta T.length tc) T
  sep : SepS (.slice ta T.length tc) us
  sets : ∀ X ∈ St, VSet rs0 rs1 U X
  tz : ∀ s ∈ T, s.size ≤ 67108864 ∧ bytesOk (bytesN s)
section
variable {rs0 : List Rn} {U : List (List Nm)} {b gf : Nat} {w : World} {rs : List Rn} {wr w2 : World} {bv : Value} {sa : Option Addr} {sc : Nat} {St : List (List ByteArray)} {us : List Value} {ta : Option Addr} {tc : Nat} {T : List ByteArray} {rs1 rs2 : List Rn}
theorem FnI.ne (h : FnI rs0 U b gf w rs wr bv sa sc St us ta tc T rs1) : b ≠ gf := fun e => by
  obtain ⟨v, h1, -⟩ := h.rt
  have h2 := h.im
  rw [← e, h1] at h2
  simp at h2
theorem FnI.next (h : FnI rs0 U b gf w rs wr bv sa sc St us ta tc T rs1) (k : TrK rs0 b wr rs1 w2 rs2) : FnI rs0 U b gf w rs w2 bv sa sc St us ta tc T rs2 :=
  ⟨h.fv.fy k.fy, k.rt, k.gr, grow_trans h.ex k.ex, h.hb, h.hg, k.fy.at h.rt h.im (by decide) (by decide), k.fy.own h.rt h.so (by decide) (by decide), h.sr.fy k.fy h.rt, h.tr.fy k.fy h.rt, h.sep, fun X hX => (k.set h.gr (h.sets X hX)).1, h.tz⟩
theorem FnI.below (h : FnI rs0 U b gf w rs wr bv sa sc St us ta tc T rs1) (k : Below wr.heap.size wr w2) : FnI rs0 U b gf w rs w2 bv sa sc St us ta tc T rs1 := h.next ((TrK.refl h.rt h.gr).below k)
theorem FnI.c0 (h : FnI rs0 U b gf w rs wr bv sa sc St us ta tc T rs1) : wr.cell? ⟨gf, 0, none⟩ = some (.pointer (some ⟨b, 0, none⟩)) := by rw [cell_of_row _ _ _ _ _ _ h.im]; rfl
theorem FnI.c1 (h : FnI rs0 U b gf w rs wr bv sa sc St us ta tc T rs1) : wr.cell? ⟨gf, 1, none⟩ = some bv := by rw [cell_of_row _ _ _ _ _ _ h.im]; rfl
theorem FnI.c2 (h : FnI rs0 U b gf w rs wr bv sa sc St us ta tc T rs1) : wr.cell? ⟨gf, 2, none⟩ = some (.slice sa St.length sc) := by rw [cell_of_row _ _ _ _ _ _ h.im]; rfl
theorem FnI.c3 (h : FnI rs0 U b gf w rs wr bv sa sc St us ta tc T rs1) : wr.cell? ⟨gf, 3, none⟩ = some (.slice ta T.length tc) := by rw [cell_of_row _ _ _ _ _ _ h.im]; rfl
theorem FnI.lt (h : FnI rs0 U b gf w rs wr bv sa sc St us ta tc T rs1) : gf < wr.heap.size := (Array.getElem?_eq_some_iff.1 h.im).1
theorem FnI.at (h : FnI rs0 U b gf w rs wr bv sa sc St us ta tc T rs1) {k : Nat} {X : List ByteArray} (hk : St[k]? = some X) : ∃ g u, sa = some ⟨g, 0, none⟩ ∧ g < wr.heap.size ∧ wr.cell? ⟨g, k, none⟩ = some u ∧ SRow wr 0 u X := by
  obtain ⟨u, hu, hr⟩ := h.sr.at hk
  have hl := get_lt hk
  obtain ⟨g, cap, he⟩ := own_form h.so (by omega)
  simp only [Value.slice.injEq, true_and] at he
  obtain ⟨rfl, rfl⟩ := he
  have := h.so.cells (g := g) rfl k u hu
  rw [add0] at this
  exact ⟨g, u, rfl, (h.so.lt g rfl).2, this, hr⟩
theorem SepS.grow {v : Value} (h : Sws wr us St) (hs : SepS v us) {g n cap : Nat} (hl : v.ownBlock = some g ∨ g = wr.heap.size) : SepS (.slice (some ⟨g, 0, none⟩) n cap) us := fun u hu q hq hq' => by
  have e : g = q := by simpa [Value.ownBlock] using hq'
  subst e
  rcases hl with hl | hl
  · exact hs u hu g hq hl
  · obtain ⟨X, hX⟩ := h.mem hu
    have := (World.ownsRow.lt hX g hq).2
    omega
/-- What blocks hold that are neither the tree's nor its nodes'. -/
theorem noTree_own {B e z n : Nat} {v : Value} {xs : List Value} (h : wr.ownsRow B e z v n xs) (h1 : e ≠ 110) (h2 : e ≠ 75) : ∀ q ∈ v.ownBlock.toList, ∀ cs ty fr, wr.heap[q]? = some (.cells cs ty fr) → ty ≠ 110 ∧ ty ≠ 75 := fun q hq cs ty fr hc => by
  obtain ⟨cs', hc'⟩ := own_tyT h (Option.mem_toList.1 hq)
  rw [hc] at hc'
  simp at hc'
  rw [hc'.2.1]
  exact ⟨h1, h2⟩
theorem noTree_one {g : Nat} {cs : Array Value} {t : TypeId} (h : wr.heap[g]? = some (.cells cs t (0, 0))) (h1 : t ≠ 110) (h2 : t ≠ 75) : ∀ q ∈ [g], ∀ cs ty fr, wr.heap[q]? = some (.cells cs ty fr) → ty ≠ 110 ∧ ty ≠ 75 := fun q hq cs' ty fr hc => by
  rw [List.mem_singleton.1 hq, h] at hc
  simp at hc
  rw [← hc.2.1]
  exact ⟨h1, h2⟩
/-- A test is put behind the others. -/
theorem FnI.pushT (h : FnI rs0 U b gf w rs wr bv sa sc St us ta tc T rs1) {g cap : Nat} {s : ByteArray} (hz : s.size ≤ 67108864 ∧ bytesOk (bytesN s)) (hgrow : wr.grownBy w2 (.slice ta T.length tc : Value).ownBlock) (ho : w2.ownsRow w.heap.size 9 1 (.slice (some ⟨g, 0, none⟩) (T.length + 1) cap) (T.length + 1) (strCells T ++ [.string s])) (hl : (Value.slice ta T.length tc).ownBlock = some g ∨ g = wr.heap.size) :
    w2.cell? ⟨gf, 3, none⟩ = some (.slice ta T.length tc) ∧ w2.frozen? ⟨gf, 3, none⟩ = false ∧ gf < w2.heap.size ∧ FnI rs0 U b gf w rs (w2.setCell ⟨gf, 3, none⟩ (.slice (some ⟨g, 0, none⟩) (T.length + 1) cap)) bv sa sc St us (some ⟨g, 0, none⟩) cap (T ++ [s]) rs1 := by
  have e2 := own_off h.tr h.im (by decide)
  have g2 : w2.heap[gf]? = _ := (Fr.ofGrown hgrow).at h.im (fun hm => e2 _ (Option.mem_toList.1 hm) rfl)
  have hlen : (T ++ [s]).length = T.length + 1 := by simp
  have hso : w2.ownsRow w.heap.size 46 1 (.slice sa St.length sc) St.length us := (Fr.ofGrown hgrow).own h.so (fun q hq hm => by
    obtain ⟨cs, hc⟩ := own_tyT h.so hq
    obtain ⟨cs', hc'⟩ := own_tyT h.tr (Option.mem_toList.1 hm)
    rw [hc] at hc'
    simp at hc')
  have hto : SRow w2 w.heap.size (.slice (some ⟨g, 0, none⟩) (T ++ [s]).length cap) (T ++ [s]) := by rw [hlen]; exact SRow.of ho
  have hsr : Sws w2 us St := h.sr.keep (Fr.ofGrown hgrow) (fun u hu q hq hm => h.sep u hu q hq (Option.mem_toList.1 hm))
  have hrt := rts_fr h.rt (Fr.ofGrown hgrow) (noTree_own h.tr (by decide) (by decide))
  refine ⟨by rw [cell_of_row _ _ _ _ _ _ g2]; rfl, frozen_of_row _ _ _ _ _ g2, (Array.getElem?_eq_some_iff.1 g2).1, ⟨?_, rts_fr hrt (Fr.ofSet _ _ _ _) (noTree_one g2 (by decide) (by decide)), h.gr, h.ex, h.hb, h.hg, ?_, ?_, ?_, ?_, ?_, h.sets, ?_⟩⟩
  · exact (h.fv.fr (Fr.ofGrown hgrow) (fun x hx => .inr (World.ownsRow.lt h.tr x (Option.mem_toList.1 hx)).1) h.hb h.ne).fr (Fr.ofSet _ _ _ _) (fun x hx => .inl (List.mem_singleton.1 hx)) h.hb h.ne
  · rw [heap_setCell_same _ _ _ _ _ _ g2, hlen]; rfl
  · exact (Fr.ofSet _ _ _ _).own hso (fun q hq => by simpa using own_off hso g2 (by decide) q hq)
  · exact hsr.keep (Fr.ofSet _ _ _ _) (fun u hu q hq hm => by
      obtain ⟨X, hX⟩ := hsr.mem hu
      exact own_off hX g2 (by decide) q hq (List.mem_singleton.1 hm))
  · exact (Fr.ofSet _ _ _ _).own hto (fun q hq => by simpa using own_off hto g2 (by decide) q hq)
  · rw [hlen]; exact SepS.grow h.sr h.sep hl
  · intro s' hs'
    rcases List.mem_append.1 hs' with hs' | hs'
    · exact h.tz s' hs'
    · rw [List.mem_singleton.1 hs']; exact hz
/-- A set is put behind the others. -/
theorem FnI.pushS (h : FnI rs0 U b gf w rs wr bv sa sc St us ta tc T rs1) {g cap : Nat} {u : Value} {X : List ByteArray} (hu : SRow wr 0 u X) (hX : VSet rs0 rs1 U X) (hsu : ∀ q, u.ownBlock = some q → (Value.slice ta T.length tc).ownBlock ≠ some q) (hgrow : wr.grownBy w2 (.slice sa St.length sc : Value).ownBlock) (ho : w2.ownsRow w.heap.size 46 1 (.slice (some ⟨g, 0, none⟩) (St.length + 1) cap) (St.length + 1) (us ++ [u])) :
    w2.cell? ⟨gf, 2, none⟩ = some (.slice sa St.length sc) ∧ w2.frozen? ⟨gf, 2, none⟩ = false ∧ gf < w2.heap.size ∧ FnI rs0 U b gf w rs (w2.setCell ⟨gf, 2, none⟩ (.slice (some ⟨g, 0, none⟩) (St.length + 1) cap)) bv (some ⟨g, 0, none⟩) cap (St ++ [X]) (us ++ [u]) ta tc T rs1 := by
  have e2 := own_off h.so h.im (by decide)
  have g2 : w2.heap[gf]? = _ := (Fr.ofGrown hgrow).at h.im (fun hm => e2 _ (Option.mem_toList.1 hm) rfl)
  have hlen : (St ++ [X]).length = St.length + 1 := by simp
  have hno : ∀ {B : Nat} {v : Value} {Y : List ByteArray}, SRow wr B v Y → ∀ q, v.ownBlock = some q → q ∉ (Value.slice sa St.length sc).ownBlock.toList := fun {B v Y} hv q hq hm => by
    obtain ⟨cs, hc⟩ := own_tyT hv hq
    obtain ⟨cs', hc'⟩ := own_tyT h.so (Option.mem_toList.1 hm)
    rw [hc] at hc'
    simp at hc'
  have hto : SRow w2 w.heap.size (.slice ta T.length tc) T := (Fr.ofGrown hgrow).own h.tr (hno h.tr)
  have hsr : Sws w2 (us ++ [u]) (St ++ [X]) := (h.sr.keep (Fr.ofGrown hgrow) (fun u' hu' q hq => by
    obtain ⟨Y, hY⟩ := h.sr.mem hu'
    exact hno hY q hq)).snoc ((Fr.ofGrown hgrow).own hu (hno hu))
  have hrt := rts_fr h.rt (Fr.ofGrown hgrow) (noTree_own h.so (by decide) (by decide))
  refine ⟨by rw [cell_of_row _ _ _ _ _ _ g2]; rfl, frozen_of_row _ _ _ _ _ g2, (Array.getElem?_eq_some_iff.1 g2).1, ⟨?_, rts_fr hrt (Fr.ofSet _ _ _ _) (noTree_one g2 (by decide) (by decide)), h.gr, h.ex, h.hb, h.hg, ?_, ?_, ?_, ?_, ?_, ?_, h.tz⟩⟩
  · exact (h.fv.fr (Fr.ofGrown hgrow) (fun x hx => .inr (h.so.lt x (Option.mem_toList.1 hx)).1) h.hb h.ne).fr (Fr.ofSet _ _ _ _) (fun x hx => .inl (List.mem_singleton.1 hx)) h.hb h.ne
  · rw [heap_setCell_same _ _ _ _ _ _ g2, hlen]; rfl
  · rw [hlen]; exact (Fr.ofSet _ _ _ _).own ho (fun q hq => by simpa using own_off ho g2 (by decide) q hq)
  · exact hsr.keep (Fr.ofSet _ _ _ _) (fun u' hu' q hq hm => by
      obtain ⟨Y, hY⟩ := hsr.mem hu'
      exact own_off hY g2 (by decide) q hq (List.mem_singleton.1 hm))
  · exact (Fr.ofSet _ _ _ _).own hto (fun q hq => by simpa using own_off hto g2 (by decide) q hq)
  · intro u' hu' q hq
    rcases List.mem_append.1 hu' with hu' | hu'
    · exact h.sep u' hu' q hq
    · rw [List.mem_singleton.1 hu'] at hq; exact hsu q hq
  · intro Y hY
    rcases List.mem_append.1 hY with hY | hY
    · exact h.sets Y hY
    · rw [List.mem_singleton.1 hY]; exact hX
end

end Mc
end Go.Proofs.YtfooclcjehpcfaaGreat
