/-
  veilref.Takes: the errors ahead of all running.
-/
import Derived.Test.YtnkdbcicphnmiaaNe
namespace Go.Proofs.Ytnkdbcicphnmiaa
namespace Mc
open Go.RowKit
attribute [local go_sem ↓] Go.wp_at_zero Go.wp_at_succ

theorem tE8 {os : List OpI} {zs : List Int} {k : Int} (h : codeB os = false) : takesE os zs k = 8 := by unfold takesE; rw [if_pos h]
theorem tE9 {os : List OpI} {zs : List Int} {k : Int} (h : codeB os = true) (h2 : memB zs = false) : takesE os zs k = 9 := by unfold takesE; rw [h, if_neg (by decide), if_pos h2]
theorem tE4 {os : List OpI} {zs : List Int} {k : Int} (h : codeB os = true) (h2 : memB zs = true) (h3 : stepsB k = false) : takesE os zs k = 4 := by unfold takesE; rw [h, if_neg (by decide), h2, if_neg (by decide), if_pos h3]
theorem tE0 {os : List OpI} {zs : List Int} {k : Int} (h : codeB os = true) (h2 : memB zs = true) (h3 : stepsB k = true) : takesE os zs k = 0 := by unfold takesE; rw [h, if_neg (by decide), h2, if_neg (by decide), h3, if_neg (by decide)]

set_option maxRecDepth 20000 in
set_option maxHeartbeats 1000000 in
theorem Takes_any (w : World) (cv mv : Value) (os : List OpI) (zs : List Int) (k : Int) (hc : OAt w cv os) (hm : IAt w mv zs) :
    Calls Try.prog 59 #[cv, mv, .int .i64 k] w fun e w' => e = .returned (.int .i64 (takesE os zs k)) ∧ Below w.heap.size w w' := by
  have HMA := hide hm
  obtain ⟨a, cap, rfl, hcc⟩ := hc
  obtain ⟨ma, mc, rfl, -⟩ := hm
  have HC := hide hcc
  have HB := hide (codeB_iff os)
  have HM := hide (memB_iff zs)
  have H8 := hide (@tE8 os zs k)
  have H9 := hide (@tE9 os zs k)
  have H4 := hide (@tE4 os zs k)
  have H0 := hide (@tE0 os zs k)
  have HST := hide (stepsB_iff k)
  generalize takesE os zs k = T at *
  clear hcc
  by_cases hl : os.length ≤ 4096
  · have hlI : (os.length : Int) ≤ 4096 := by omega
    have HL := hide hl
    clear hl
    go_enter Try.func59, Try.ntmps59
    go_wp2_with fail
    go_loopw [7] (fun ix wr => ∃ k : Nat, ix = .int .i64 (k : Int) ∧ Hid (k ≤ os.length ∧ Below w.heap.size w wr ∧ ∀ j, j < k → opOk (os.getD j op0) (os.length : Int) = true)) (fun ix _ => lenLeft os.length ix)
    case atStart => exact ⟨0, rfl, Nat.zero_le _, Below.refl _ _, fun j hj => absurd hj (Nat.not_lt_zero _)⟩
    case round =>
      rename World => wr
      obtain ⟨i, rfl, HH⟩ := hrel
      obtain ⟨hk, hBw, hall⟩ := unhide HH
      have HBW := hide hBw
      have HALL := hide hall
      by_cases hlt : i < os.length
      · obtain ⟨b, off, rfl, hcs⟩ := unhide HC (by omega)
        have hop := (hcs i hlt).below hBw
        have hkI : (i : Int) < (os.length : Int) := by omega
        have HLT := hide hlt
        have HO := hide (fun w => right_any (os.getD i op0) (os.length : Int) w)
        have hSN : Hid (opOk (os.getD i op0) (os.length : Int) = true → ∀ j, j < i + 1 → opOk (os.getD j op0) (os.length : Int) = true) := fun he j hj => by
          by_cases e : j = i
          · subst e; exact he
          · exact hall j (by omega)
        have hNO : Hid (opOk (os.getD i op0) (os.length : Int) = false → T = 8) := fun he => unhide H8 (by
          cases hcb : codeB os with
          | false => rfl
          | true => have := ((unhide HB).1 hcb).2 i hlt; rw [he] at this; cases this)
        unfold opV at HO
        obtain ⟨c0, c1, c2, c3⟩ := hop
        clear hk hlt hBw hall HH hcs
        generalize os.getD i op0 = o at *
        cases hr : opOk o (os.length : Int)
        · have HR := hide (unhide hNO hr)
          rw [hr] at HO
          clear hr
          go_wp2_with fail
          refine (unhide HO _).mono ?_
          rintro e w1 ⟨rfl, hb1⟩
          have HB1 := hide hb1
          clear hb1
          go_wp2_with fail
          go_ret
          exact ⟨ret_int (unhide HR).symm, (unhide HBW).trans ((unhide HB1).mono (unhide HBW).size)⟩
        · have HR := hide hr
          rw [hr] at HO
          clear hr
          go_wp2_with fail
          refine (unhide HO _).mono ?_
          rintro e w1 ⟨rfl, hb1⟩
          have HB1 := hide hb1
          clear hb1
          go_wp2_with fail
          go_roundw
          case rel => exact ⟨i + 1, by go_num, unhide HLT, (unhide HBW).trans ((unhide HB1).mono (unhide HBW).size), unhide hSN (unhide HR)⟩
          case measure => have := unhide HLT; simp [lenLeft, intOf]; omega
      · have hk2 : i = os.length := by omega
        subst hk2
        have HCB : Hid (codeB os = true) := (unhide HB).2 ⟨unhide HL, hall⟩
        have HMW := hide ((unhide HMA).below hBw)
        clear hk hlt hBw hall HH
        by_cases hml : zs.length ≤ 4096
        · have hmlI : (zs.length : Int) ≤ 4096 := by omega
          have HML := hide hml
          clear hml
          go_wp2_with fail
          go_loopw [9] (fun ix wx => ∃ k : Nat, ix = .int .i64 (k : Int) ∧ wx = wr ∧ Hid (k ≤ zs.length ∧ ∀ j, j < k → wordOk (zs.getD j 0) = true)) (fun ix _ => lenLeft zs.length ix)
          case atStart => exact ⟨0, rfl, rfl, Nat.zero_le _, fun j hj => absurd hj (Nat.not_lt_zero _)⟩
          case round =>
            rename World => wx
            obtain ⟨j, rfl, rfl, HH⟩ := hrel
            obtain ⟨hk, hall⟩ := unhide HH
            have HALL2 := hide hall
            by_cases hlt : j < zs.length
            · obtain ⟨ma2, mc2, he, hcs⟩ := unhide HMW
              simp only [Value.slice.injEq, true_and] at he
              obtain ⟨rfl, rfl⟩ := he
              obtain ⟨b, off, rfl, hcs2⟩ := hcs (by omega)
              have hop := hcs2 j hlt
              have hkI : (j : Int) < (zs.length : Int) := by omega
              have HLT := hide hlt
              have hSN : Hid (wordOk (zs.getD j 0) = true → ∀ q, q < j + 1 → wordOk (zs.getD q 0) = true) := fun he q hq => by
                by_cases e : q = j
                · subst e; exact he
                · exact hall q (by omega)
              have hNO : Hid (wordOk (zs.getD j 0) = false → T = 9) := fun he => unhide H9 (unhide HCB) (by
                cases hcb : memB zs with
                | false => rfl
                | true => have := ((unhide HM).1 hcb).2 j hlt; rw [he] at this; cases this)
              clear hk hlt hall HH hcs hcs2
              generalize zs.getD j 0 = z at *
              by_cases hz0 : z < 0
              · have HR : Hid (T = 9) := unhide hNO (by simp [wordOk]; omega)
                go_wp2_with fail
                go_ret
                exact ⟨ret_int (unhide HR).symm, unhide HBW⟩
              · by_cases hz1 : 65535 < z
                · have HR : Hid (T = 9) := unhide hNO (by simp [wordOk]; omega)
                  have hz2 : 0 ≤ z := by omega
                  clear hz0
                  go_wp2_with fail
                  go_ret
                  exact ⟨ret_int (unhide HR).symm, unhide HBW⟩
                · have HR : Hid (wordOk z = true) := by show wordOk z = true; simp [wordOk]; omega
                  have hz2 : 0 ≤ z := by omega
                  have hz3 : z ≤ 65535 := by omega
                  clear hz0 hz1
                  go_wp2_with fail
                  go_roundw
                  case rel => exact ⟨j + 1, by go_num, by trivial, unhide HLT, unhide hSN (unhide HR)⟩
                  case measure => have := unhide HLT; simp [lenLeft, intOf]; omega
            · have hk2 : j = zs.length := by omega
              subst hk2
              have HMB : Hid (memB zs = true) := (unhide HM).2 ⟨unhide HML, hall⟩
              clear hk hlt hall HH
              by_cases hs0 : k < 0
              · have HR : Hid (T = 4) := unhide H4 (unhide HCB) (unhide HMB) (by
                  cases h : stepsB k with
                  | false => rfl
                  | true => have := ((unhide HST).1 h).1; omega)
                go_wp2_with fail
                go_ret
                exact ⟨ret_int (unhide HR).symm, unhide HBW⟩
              · by_cases hs1 : 2097152 < k
                · have HR : Hid (T = 4) := unhide H4 (unhide HCB) (unhide HMB) (by
                    cases h : stepsB k with
                    | false => rfl
                    | true => have := ((unhide HST).1 h).2; omega)
                  have hs2 : 0 ≤ k := by omega
                  clear hs0
                  go_wp2_with fail
                  go_ret
                  exact ⟨ret_int (unhide HR).symm, unhide HBW⟩
                · have HR : Hid (T = 0) := unhide H0 (unhide HCB) (unhide HMB) ((unhide HST).2 ⟨by omega, by omega⟩)
                  have hs2 : 0 ≤ k := by omega
                  have hs3 : k ≤ 2097152 := by omega
                  clear hs0 hs1
                  go_wp2_with fail
                  go_ret
                  exact ⟨ret_int (unhide HR).symm, unhide HBW⟩
        · have hmlI : (4096 : Int) < (zs.length : Int) := by omega
          have HR : Hid (T = 9) := unhide H9 (unhide HCB) (by
            cases hcb : memB zs with
            | false => rfl
            | true => exact absurd ((unhide HM).1 hcb).1 hml)
          clear hml
          go_wp2_with fail
          go_ret
          exact ⟨ret_int (unhide HR).symm, unhide HBW⟩
  · have hlI : (4096 : Int) < (os.length : Int) := by omega
    have HR : Hid (T = 8) := unhide H8 (by
      cases hcb : codeB os with
      | false => rfl
      | true => exact absurd ((unhide HB).1 hcb).1 hl)
    clear hl
    go_enter Try.func59, Try.ntmps59
    go_wp2_with fail
    go_ret
    exact ⟨ret_int (unhide HR).symm, Below.refl _ _⟩

end Mc
end Go.Proofs.Ytnkdbcicphnmiaa
