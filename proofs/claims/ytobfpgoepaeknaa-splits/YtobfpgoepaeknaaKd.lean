/-
  The law Bytes.
-/
import Derived.Test.YtobfpgoepaeknaaKc2
import Derived.Laws.IdiomStrings
import Derived.Deep.DeepCutAuto
namespace Go.Proofs.Ytobfpgoepaeknaa
open Go.RowKit
attribute [local go_sem ↓] Go.wp_at_zero Go.wp_at_succ

theorem Gp.str (s : List Nat) (h : ∀ c ∈ s, c < 256) : Gp (escAll s) (strV s) := (Gb.str s h).p
theorem strV_wt (s : List Nat) (h : s.length ≤ 12) : (strV s).2 ≤ 12 := by
  unfold strV; simp only; split <;> omega
def setT (x y : List Nat) : List Nat := 91 :: ((x ++ 45 :: y) ++ [93])
def notT (x y : List Nat) : List Nat := 91 :: 94 :: ((x ++ 45 :: y) ++ [93])
theorem Gp.set {l h : Nat} (hl : l < 256) (hh : h < 256) : Gp (setT (escN l) (escN h)) (Re.set (addR noSet (l : Int) (h : Int))).val := (Ga.set (Gm.two (Gy.esc hl) (Gy.esc hh))).i.b.p
theorem Gp.not {l h : Nat} (hl : l < 256) (hh : h < 256) : Gp (notT (escN l) (escN h)) (Re.set fun j => !addR noSet (l : Int) (h : Int) j).val := (Ga.not (Gm.two (Gy.esc hl) (Gy.esc hh))).i.b.p
theorem Gp.dot : Gp [46] (Re.set fun _ => true).val := Ga.dot.i.b.p
theorem set_one (f : Nat → Bool) (s : List Nat) : (Re.set f).val.1 s ↔ ∃ c, s = [c] ∧ f c = true := Iff.rfl

theorem set_bytes {q r : ByteArray} {l h : Nat} (hq : bytesN q = escN l) (hr : bytesN r = escN h) : bytesN (({ data := #[91] } : ByteArray) ++ q ++ { data := #[45] } ++ r ++ { data := #[93] }) = setT (escN l) (escN h) := by
  rw [bytesN_app, bytesN_app, bytesN_app, bytesN_app, hq, hr]; rfl
theorem not_bytes {q r : ByteArray} {l h : Nat} (hq : bytesN q = escN l) (hr : bytesN r = escN h) : bytesN (({ data := #[91, 94] } : ByteArray) ++ q ++ { data := #[45] } ++ r ++ { data := #[93] }) = notT (escN l) (escN h) := by
  rw [bytesN_app, bytesN_app, bytesN_app, bytesN_app, hq, hr]; rfl
theorem in_set (l h c : Nat) : (Re.set (addR noSet (l : Int) (h : Int))).val.1 [c] ↔ ((l : Int) ≤ (c : Int) ∧ (c : Int) ≤ (h : Int)) := by
  rw [set_one]
  constructor
  · rintro ⟨d, hd, hf⟩
    simp only [List.cons.injEq, and_true] at hd
    subst hd
    simpa [addR, noSet] using hf
  · intro hf
    exact ⟨c, rfl, by simpa [addR, noSet] using hf⟩
theorem in_not (l h c : Nat) : (Re.set fun j => !addR noSet (l : Int) (h : Int) j).val.1 [c] ↔ ¬ ((l : Int) ≤ (c : Int) ∧ (c : Int) ≤ (h : Int)) := by
  rw [set_one]
  constructor
  · rintro ⟨d, hd, hf⟩
    simp only [List.cons.injEq, and_true] at hd
    subst hd
    simp [addR, noSet] at hf
    omega
  · intro hf
    exact ⟨c, rfl, by simp [addR, noSet]; omega⟩
theorem one_byte {v : ByteArray} (h : v.size = 1) (h0 : 0 < v.size) : bytesN v = [v[0].toNat] := by
  have hl : (bytesN v).length = 1 := by rw [bytesN_len, h]
  have h0' : 0 < (bytesN v).length := by omega
  obtain ⟨x, hx⟩ := List.length_eq_one_iff.1 hl
  have e := bytesN_at v 0 h0 h0'
  rw [← e]
  simp [hx]
theorem not_one {v : ByteArray} (h : ¬ v.size = 1) (f : Nat → Bool) : ¬ (Re.set f).val.1 (bytesN v) := by
  rintro ⟨c, hc, _⟩
  have := congrArg List.length hc
  rw [bytesN_len] at this
  exact h this
theorem esc_size {q : ByteArray} {l : Nat} (hq : bytesN q = escN l) : q.size = 3 := by rw [← bytesN_len, hq]; rfl
theorem set_wt (f : Nat → Bool) : (Re.set f).val.2 ≤ 12 := by show (1 : Int) ≤ 12; omega
theorem one_size (c : UInt8) : (⟨#[c]⟩ : ByteArray).size ≤ 16 := by show 1 ≤ 16; omega
theorem says_set (w : World) {q r : ByteArray} {l h : Nat} (hl : l < 256) (hh : h < 256) (hq : bytesN q = escN l) (hr : bytesN r = escN h) (s : ByteArray) (y : Bool) (hs : s.size ≤ 16) (hy : y = true ↔ (Re.set (addR noSet (l : Int) (h : Int))).val.1 (bytesN s)) :
    Calls Try.prog 13 #[.string (({ data := #[91] } : ByteArray) ++ q ++ { data := #[45] } ++ r ++ { data := #[93] }), .string s, .bool y] w fun e w' => e = .returned (.bool true) ∧ Below w.heap.size w w' :=
  says_any w _ s y _ _ (Gp.set hl hh) (set_bytes hq hr) (by rw [← bytesN_len, set_bytes hq hr]; simp [setT, escN]) (set_wt _) hs hy
theorem says_not (w : World) {q r : ByteArray} {l h : Nat} (hl : l < 256) (hh : h < 256) (hq : bytesN q = escN l) (hr : bytesN r = escN h) (s : ByteArray) (y : Bool) (hs : s.size ≤ 16) (hy : y = true ↔ (Re.set fun j => !addR noSet (l : Int) (h : Int) j).val.1 (bytesN s)) :
    Calls Try.prog 13 #[.string (({ data := #[91, 94] } : ByteArray) ++ q ++ { data := #[45] } ++ r ++ { data := #[93] }), .string s, .bool y] w fun e w' => e = .returned (.bool true) ∧ Below w.heap.size w w' :=
  says_any w _ s y _ _ (Gp.not hl hh) (not_bytes hq hr) (by rw [← bytesN_len, not_bytes hq hr]; simp [notT, escN]) (set_wt _) hs hy
theorem says_dot (w : World) (s : ByteArray) (y : Bool) (hs : s.size ≤ 16) (hy : y = true ↔ (Re.set fun _ => true).val.1 (bytesN s)) :
    Calls Try.prog 13 #[.string { data := #[46] }, .string s, .bool y] w fun e w' => e = .returned (.bool true) ∧ Below w.heap.size w w' :=
  says_any w _ s y _ _ Gp.dot rfl (by decide) (set_wt _) hs hy
theorem dot_one (v : ByteArray) : ((v.size : Int) == 1) = true ↔ (Re.set fun _ => true).val.1 (bytesN v) := by
  rw [beq_iff_eq]
  constructor
  · intro hh
    have h1 : v.size = 1 := by omega
    have h0 : 0 < v.size := by omega
    exact ⟨v[0].toNat, one_byte h1 h0, rfl⟩
  · rintro ⟨d, hd, _⟩
    have := congrArg List.length hd
    rw [bytesN_len] at this
    rw [this]; rfl
theorem conv_one (w : World) (c : Nat) (hc : c < 256) :
    (convert 33 9 (.slice (some ⟨w.heap.size, 0, none⟩) 1 1)).run Try.prog (w.alloc (Obj.cells #[.int .u8 (c : Int)] 5)) = .ok (.string ⟨#[UInt8.ofNat c]⟩) (w.alloc (Obj.cells #[.int .u8 (c : Int)] 5)) := by
  have h := run_convert_bytes_back (P := Try.prog) (w.alloc (Obj.cells #[.int .u8 (c : Int)] 5)) 33 9 5 ⟨w.heap.size, 0, none⟩ 1 [UInt8.ofNat c] Try.underlying33 Try.underlying5 Try.underlying9 (by
    intro j hj
    have : j = 0 := by simp at hj; omega
    subst this
    have e : (UInt8.ofNat c).toNat = c := by rw [UInt8.toNat_ofNat']; exact Nat.mod_eq_of_lt (by omega)
    show (w.alloc (Obj.cells #[.int .u8 (c : Int)] 5)).cell? ⟨w.heap.size, 0, none⟩ = some (.int .u8 ((UInt8.ofNat c).toNat : Int))
    rw [e, World.cell?_alloc_mark]; rfl)
  exact h
theorem bytesN_one {c : Nat} (hc : c < 256) : bytesN ⟨#[UInt8.ofNat c]⟩ = [c] := by
  unfold bytesN
  simp
  omega

set_option maxRecDepth 20000 in
set_option maxHeartbeats 2000000 in
theorem Bytes_of (s t : ByteArray) (lo hi b : Int) (w : World) (l1 : -9223372036854775808 ≤ lo) (l2 : lo ≤ 9223372036854775807) (h1 : -9223372036854775808 ≤ hi) (h2 : hi ≤ 9223372036854775807) (b1 : -9223372036854775808 ≤ b) (b2 : b ≤ 9223372036854775807) :
    Calls Try.prog 4 #[.string s, .string t, .int .i64 lo, .int .i64 hi, .int .i64 b] w fun e w' => e = .returned (.bool true) ∧ Below w.heap.size w w' := by
  have HPL := hide (fun w => pick_any w lo 256 l1 l2 (by omega) (by omega))
  have HPH := hide (fun w => pick_any w hi 256 h1 h2 (by omega) (by omega))
  have HPB := hide (fun w => pick_any w b 256 b1 b2 (by omega) (by omega))
  obtain ⟨l, hl⟩ := Int.eq_ofNat_of_zero_le (picked_bd lo (n := 256) (by omega)).1
  obtain ⟨h, hh⟩ := Int.eq_ofNat_of_zero_le (picked_bd hi (n := 256) (by omega)).1
  obtain ⟨c, hc⟩ := Int.eq_ofNat_of_zero_le (picked_bd b (n := 256) (by omega)).1
  have hl' := (picked_bd lo (n := 256) (by omega)).2
  have hh' := (picked_bd hi (n := 256) (by omega)).2
  have hc' := (picked_bd b (n := 256) (by omega)).2
  rw [hl] at HPL hl'
  rw [hh] at HPH hh'
  rw [hc] at HPB hc'
  have HCS := hide (short_any w s 12 (by omega))
  have HCT := hide (fun w => short_any w t 16 (by omega))
  clear hl hh hc l1 l2 h1 h2 b1 b2
  go_enter Try.func4, Try.ntmps4
  go_wp2_with fail
  refine (unhide HCS).mono ?_
  rintro e w' ⟨⟨u, rfl, hu, -⟩, rfl⟩
  go_wp2_with fail
  refine (unhide HCT _).mono ?_
  rintro e w'' ⟨⟨v, rfl, hv, -⟩, rfl⟩
  have HU := hide hu
  have HV := hide hv
  clear hu hv HCS HCT
  go_wp2_with fail
  refine (escaped_any _ u (by have := unhide HU; omega)).mono ?_
  rintro e w1 ⟨⟨p, rfl, hp⟩, hw1⟩
  have HP := hide hp
  have HB1 := hide hw1
  have hps : p.size ≤ 60 := by rw [← bytesN_len, hp, escAll_len, bytesN_len]; have := unhide HU; omega
  have HG := hide (Gp.str (bytesN u) (bytesN_lt u))
  have HGW := hide (strV_wt (bytesN u) (by rw [bytesN_len]; exact unhide HU))
  have HPS := hide hps
  clear hp hw1 hps
  go_wp2_with fail
  refine (says_any _ p u true _ _ (unhide HG) (unhide HP) (unhide HPS) (unhide HGW) (by have := unhide HU; omega) ⟨fun _ => rfl, fun _ => rfl⟩).mono ?_
  rintro e w2 ⟨rfl, hw2⟩
  have HB2 := hide ((unhide HB1).trans (hw2.mono (unhide HB1).size))
  clear hw2 HB1
  go_wp2_with fail
  refine (says_any _ p v _ _ _ (unhide HG) (unhide HP) (unhide HPS) (unhide HGW) (unhide HV) (same_bytes u v)).mono ?_
  rintro e w3 ⟨rfl, hw3⟩
  have HB3 := hide ((unhide HB2).trans (hw3.mono (unhide HB2).size))
  clear hw3 HB2 HG HP HPS HGW HU
  go_wp2_with fail
  refine (unhide HPL _).mono ?_
  rintro e w' ⟨rfl, rfl⟩
  go_wp2_with fail
  refine (unhide HPH _).mono ?_
  rintro e w' ⟨rfl, rfl⟩
  go_wp2_with fail
  refine (unhide HPB _).mono ?_
  rintro e w' ⟨rfl, rfl⟩
  clear HPL HPH HPB
  have hconv := fun w => conv_one w c (by omega)
  have HLL := hide (show l < 256 by omega)
  have HHH := hide (show h < 256 by omega)
  have HCC := hide (show c < 256 by omega)
  go_wp2_with fail
  refine (escape_any _ l (unhide HLL)).mono ?_
  rintro e w4 ⟨⟨q, rfl, hq⟩, hw4⟩
  have HB4 := hide ((((unhide HB3).alloc (unhide HB3).size _).trans (hw4.mono ((unhide HB3).alloc (unhide HB3).size _).size)))
  have HQ := hide hq
  have hqs := esc_size hq
  clear hw4 hq HB3 hconv
  go_wp2_with fail
  refine (escape_any _ h (unhide HHH)).mono ?_
  rintro e w5 ⟨⟨r, rfl, hr⟩, hw5⟩
  have HB5 := hide ((unhide HB4).trans (hw5.mono (unhide HB4).size))
  have HR := hide hr
  have hrs := esc_size hr
  clear hw5 hr HB4
  have HONE := hide (bytesN_one (unhide HCC))
  go_upto_region 14 with fail
  go_cut [17] (fun bx wx => ∃ y : Bool, bx = .bool y ∧ Hid (y = true ↔ ((l : Int) ≤ (c : Int) ∧ (c : Int) ≤ (h : Int))) ∧ wx = w5)
  case first =>
    by_cases hA : (l : Int) ≤ (c : Int)
    · by_cases hB : (c : Int) ≤ (h : Int)
      · go_wp2_with fail
        go_meet
        exact ⟨true, rfl, yes_iff ⟨by omega, by omega⟩, rfl⟩
      · have hB' : (h : Int) < (c : Int) := by omega
        go_wp2_with fail
        go_meet
        exact ⟨false, rfl, no_iff (by omega), rfl⟩
    · have hA' : (c : Int) < (l : Int) := by omega
      go_wp2_with fail
      go_meet
      exact ⟨false, rfl, no_iff (by omega), rfl⟩
  case rest =>
    obtain ⟨y, rfl, HY, rfl⟩ := hcut
    go_wp2_with fail
    refine (says_set _ (unhide HLL) (unhide HHH) (unhide HQ) (unhide HR) _ y (one_size _) (by rw [unhide HONE, in_set]; exact unhide HY)).mono ?_
    rintro e w6 ⟨rfl, hw6⟩
    have HB6 := hide ((unhide HB5).trans (hw6.mono (unhide HB5).size))
    clear hw6 HB5
    go_wp2_with fail
    refine (says_not _ (unhide HLL) (unhide HHH) (unhide HQ) (unhide HR) _ (!y) (one_size _) (by rw [unhide HONE, in_not, ← unhide HY]; cases y <;> simp)).mono ?_
    rintro e w7 ⟨rfl, hw7⟩
    have HB7 := hide ((unhide HB6).trans (hw7.mono (unhide HB6).size))
    clear hw7 HB6
    go_wp2_with fail
    refine (says_dot _ _ true (one_size _) (by rw [unhide HONE]; exact yes_iff ⟨c, rfl, rfl⟩)).mono ?_
    rintro e w8 ⟨rfl, hw8⟩
    have HB8 := hide ((unhide HB7).trans (hw8.mono (unhide HB7).size))
    clear hw8 HB7 HY
    go_upto_region 20 with fail
    go_cut [12] (fun bx wx => bx = .bool true ∧ Below w8.heap.size w8 wx)
    case first =>
      by_cases hv1 : v.size = 1
      · have hv0 : 0 < v.size := by omega
        have HAT := hide (fun w => at_any w v hv1 hv0)
        have HVB := hide (one_byte hv1 hv0)
        have hvI : (v.size : Int) = 1 := by omega
        generalize v[0].toNat = d at *
        clear hv1 hv0
        by_cases hA : (l : Int) ≤ (d : Int)
        · by_cases hB : (d : Int) ≤ (h : Int)
          · go_wp2_with (go_at_call 16; refine (unhide HAT _).mono ?_; rintro e w' ⟨rfl, rfl⟩)
            refine (says_set _ (unhide HLL) (unhide HHH) (unhide HQ) (unhide HR) _ true (unhide HV) (by rw [unhide HVB, in_set]; exact yes_iff ⟨by omega, by omega⟩)).mono ?_
            rintro e w9 ⟨rfl, hw9⟩
            go_wp2_with fail
            go_meet
            exact ⟨rfl, hw9⟩
          · have hB' : (h : Int) < (d : Int) := by omega
            go_wp2_with (go_at_call 16; refine (unhide HAT _).mono ?_; rintro e w' ⟨rfl, rfl⟩)
            refine (says_set _ (unhide HLL) (unhide HHH) (unhide HQ) (unhide HR) _ (decide (d ≤ h)) (unhide HV) (by rw [unhide HVB, in_set, decide_eq_true_iff]; omega)).mono ?_
            rintro e w9 ⟨rfl, hw9⟩
            go_wp2_with fail
            go_meet
            exact ⟨rfl, hw9⟩
        · have hA' : (d : Int) < (l : Int) := by omega
          go_wp2_with (go_at_call 16; refine (unhide HAT _).mono ?_; rintro e w' ⟨rfl, rfl⟩)
          refine (says_set _ (unhide HLL) (unhide HHH) (unhide HQ) (unhide HR) _ false (unhide HV) (by rw [unhide HVB, in_set]; exact no_iff (by omega))).mono ?_
          rintro e w9 ⟨rfl, hw9⟩
          go_wp2_with fail
          go_meet
          exact ⟨rfl, hw9⟩
      · have hvI : ((v.size : Int) == 1) = false := by simp; omega
        have HV1 := hide hv1
        clear hv1
        go_wp2_with fail
        refine (says_set _ (unhide HLL) (unhide HHH) (unhide HQ) (unhide HR) _ false (unhide HV) (no_iff (not_one (unhide HV1) _))).mono ?_
        rintro e w9 ⟨rfl, hw9⟩
        go_wp2_with fail
        go_meet
        exact ⟨rfl, hw9⟩
    case rest =>
      rename World => wz
      obtain ⟨rfl, hwz⟩ := hcut
      have HB9 := hide ((unhide HB8).trans (hwz.mono (unhide HB8).size))
      clear hwz HB8
      go_wp2_with fail
      refine (says_dot _ _ _ (unhide HV) (dot_one v)).mono ?_
      rintro e w10 ⟨rfl, hw10⟩
      go_wp2
      go_ret
      exact ⟨rfl, (unhide HB9).trans (hw10.mono (unhide HB9).size)⟩

end Go.Proofs.Ytobfpgoepaeknaa
