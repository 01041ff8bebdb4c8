/-
  The document's answer: branch.
-/
import Derived.Test.YtfooclcjehpcfaaGreatC8
import Derived.Deep.RegionWith
namespace Go.Proofs.YtfooclcjehpcfaaGreat
open Go.RowKit

theorem wrap_i {n : Int} (h0 : 0 ≤ n) (h1 : n ≤ 65536) : IntKind.i64.wrap n = n := by
  rw [IntKind.wrap_i64]; omega
theorem wrap_b {n : Int} (h0 : 0 ≤ n) (h1 : n ≤ 255) : IntKind.u8.wrap n = n := by
  rw [IntKind.wrap_u8]; omega

theorem PostT.undrew {w w' : World} {b : Nat} {rs : List Rn} (h : PostT w.drew w' b rs) : PostT w w' b rs := ⟨⟨h.1.os, h.1.tape, h.1.output, h.1.size, h.1.block⟩, h.2⟩

theorem isEmpty_of (p : ByteArray) : p.toList.isEmpty = decide (p.size = 0) := by
  rw [← decide_eq_emptyBytes]
  rw [decide_eq_decide]
  constructor
  · rintro rfl; rfl
  · intro h
    have : p.data = #[] := Array.eq_empty_of_size_eq_zero h
    cases p
    simp only at this
    subst this
    rfl

set_option maxRecDepth 20000 in
set_option maxHeartbeats 4000000 in
theorem branch_of (n : Nat) (ih2 : ∀ m, m < n → DoesT 45 2 m) (ih4 : ∀ m, m < n → DoesT 72 4 m) : DoesT 45 2 n := by
  intro p rs r w b hp hr h hb
  have hp' : (p.size : Int) ≤ 60 := by omega
  obtain ⟨n, rfl⟩ : ∃ n', n = n' + 1 := by cases n with | zero => simp [rfF] at h | succ n => exact ⟨n, rfl⟩
  simp only [rfF] at h
  by_cases h0 : p.size = 0
  · rw [if_pos h0] at h
    simp only [Option.some.injEq] at h
    subst h
    have hrl : rs.length ≤ 1000 := by simp only [List.length_append, List.length_cons, List.length_nil] at hr; omega
    have hem : p.toList.isEmpty = true := by rw [isEmpty_of]; simp [h0]
    have hz : Tryz.zeroCells110.setIfInBounds 0 (.int .i64 1) = rnA ⟨1, 0, 0, 0, 0, noSet⟩ := by rw [zero78, rnA_kind]
    have HZ := hide hz
    clear hz ih2 ih4 h0 hr
    go_enter Tryz.func45, Tryz.ntmps45
    go_wp2_with fail
    rw [unhide HZ]
    refine (put_any _ b rs _ hb hrl).mono ?_
    rintro e w1 ⟨rfl, hw1⟩
    go_wp2
    go_ret
    exact ⟨rfl, hw1⟩
  · rw [if_neg h0, Option.bind_eq_some_iff] at h
    obtain ⟨j, hj, h⟩ := h
    have hem : p.toList.isEmpty = false := by rw [isEmpty_of]; simp [h0]
    have hjp : j ≤ p.size := by
      by_cases hjp : j ≤ p.size
      · exact hjp
      · rw [if_neg hjp] at h; cases h
    rw [if_pos hjp, Option.bind_eq_some_iff] at h
    obtain ⟨x, hx, h⟩ := h
    have hjp' : (j : Int) ≤ (p.size : Int) := by omega
    have HO := hide (over_any p hp 200 0 j w hj)
    have hgx := rfF_grows _ _ _ _ _ _ _ h
    have HA := hide (ih4 n (by omega) (p.extract 0 j) rs x w b (by simp; omega) (by omega) hx hb)
    have H0 := hide h
    have HR := hide hr
    have I2 := hide ih2
    clear hj hx h hr ih2 ih4 hgx h0
    go_enter Tryz.func45, Tryz.ntmps45
    go_wp2_with fail
    refine (unhide HO).mono ?_
    rintro e w' ⟨rfl, hww⟩
    obtain rfl : w = w' := hww.symm
    clear hww
    go_wp2_with fail
    refine (unhide HA).mono ?_
    rintro e w1 ⟨rfl, hw1⟩
    go_wp2_with fail
    go_loopg [5, 6] n (fun m s l wr => ∃ (q : Nat) (li : Int) (rs' : List Rn), s = .int .i64 (q : Int) ∧ l = .int .i64 li ∧ Hid (rfF m 3 p q li rs' = some r ∧ m ≤ n ∧ PostT w wr b rs'))
    case atStart => exact ⟨j, x.2, x.1, rfl, rfl, unhide H0, Nat.le_refl _, hw1⟩
    case round =>
      obtain ⟨q, li, rs', rfl, rfl, H⟩ := hrel
      obtain ⟨h, hm, pw⟩ := unhide H
      clear H H0 hw1 HA HO
      obtain ⟨m, rfl⟩ : ∃ m', gk = m' + 1 := by cases gk with | zero => simp [rfF] at h | succ m => exact ⟨m, rfl⟩
      simp only [rfF] at h
      by_cases hc42 : q < p.size ∧ (byteAt p q == 42) = true
      · rw [if_pos hc42] at h
        obtain ⟨hq, he⟩ := hc42
        have hq' : (q : Int) < (p.size : Int) := by omega
        rw [byteAt_eq hq] at he
        have hgl := rfF_grows _ _ _ _ _ _ _ h
        have hsl : rs'.length ≤ 1000 := by have := unhide HR; simp only [List.length_append, List.length_cons, List.length_nil] at hgl; omega
        have hz : (Tryz.zeroCells110.setIfInBounds 0 (.int .i64 5)).setIfInBounds 1 (.int .i64 li) = rnA ⟨5, li, 0, 0, 0, noSet⟩ := by rw [zero78, rnA_kind, rnA_l]
        have HZ := hide hz
        have H2 := hide h
        clear h hgl hz
        go_wp2_with fail
        rw [unhide HZ]
        refine (put_any _ b rs' _ pw.2 hsl).mono ?_
        rintro e w2 ⟨rfl, hw2⟩
        go_wp2
        go_roundg m
        case measure => omega
        case rel => exact ⟨q + 1, _, _, by go_num, rfl, unhide H2, by omega, pw.trans hw2⟩
      · rw [if_neg hc42] at h
        by_cases hc43 : q < p.size ∧ (byteAt p q == 43) = true
        · rw [if_pos hc43] at h
          obtain ⟨hq, he⟩ := hc43
          have hq' : (q : Int) < (p.size : Int) := by omega
          rw [byteAt_eq hq] at he
          have n42 : ((p[q].toNat : Int) == 42) = false := by rw [not_and, byteAt_eq hq] at hc42; simpa using hc42 hq
          have hgl := rfF_grows _ _ _ _ _ _ _ h
          have hsl : rs'.length ≤ 1000 := by have := unhide HR; simp only [List.length_append, List.length_cons, List.length_nil] at hgl; omega
          have hz : (Tryz.zeroCells110.setIfInBounds 0 (.int .i64 6)).setIfInBounds 1 (.int .i64 li) = rnA ⟨6, li, 0, 0, 0, noSet⟩ := by rw [zero78, rnA_kind, rnA_l]
          have HZ := hide hz
          have H2 := hide h
          clear h hgl hz hc42
          go_wp2_with fail
          rw [unhide HZ]
          refine (put_any _ b rs' _ pw.2 hsl).mono ?_
          rintro e w2 ⟨rfl, hw2⟩
          go_wp2
          go_roundg m
          case measure => omega
          case rel => exact ⟨q + 1, _, _, by go_num, rfl, unhide H2, by omega, pw.trans hw2⟩
        · rw [if_neg hc43] at h
          by_cases hc63 : q < p.size ∧ (byteAt p q == 63) = true
          · rw [if_pos hc63] at h
            obtain ⟨hq, he⟩ := hc63
            have hq' : (q : Int) < (p.size : Int) := by omega
            rw [byteAt_eq hq] at he
            have n42 : ((p[q].toNat : Int) == 42) = false := by rw [not_and, byteAt_eq hq] at hc42; simpa using hc42 hq
            have n43 : ((p[q].toNat : Int) == 43) = false := by rw [not_and, byteAt_eq hq] at hc43; simpa using hc43 hq
            have hgl := rfF_grows _ _ _ _ _ _ _ h
            have hsl : rs'.length ≤ 1000 := by have := unhide HR; simp only [List.length_append, List.length_cons, List.length_nil] at hgl; omega
            have hz : (Tryz.zeroCells110.setIfInBounds 0 (.int .i64 7)).setIfInBounds 1 (.int .i64 li) = rnA ⟨7, li, 0, 0, 0, noSet⟩ := by rw [zero78, rnA_kind, rnA_l]
            have HZ := hide hz
            have H2 := hide h
            clear h hgl hz hc42 hc43
            go_wp2_with fail
            rw [unhide HZ]
            refine (put_any _ b rs' _ pw.2 hsl).mono ?_
            rintro e w2 ⟨rfl, hw2⟩
            go_wp2
            go_roundg m
            case measure => omega
            case rel => exact ⟨q + 1, _, _, by go_num, rfl, unhide H2, by omega, pw.trans hw2⟩
          · rw [if_neg hc63] at h
            by_cases hc123 : q < p.size ∧ (byteAt p q == 123) = true
            · rw [if_pos hc123] at h
              obtain ⟨hq, he⟩ := hc123
              rw [byteAt_eq hq] at he
              have n42 : ((p[q].toNat : Int) == 42) = false := by rw [not_and, byteAt_eq hq] at hc42; simpa using hc42 hq
              have n43 : ((p[q].toNat : Int) == 43) = false := by rw [not_and, byteAt_eq hq] at hc43; simpa using hc43 hq
              have n63 : ((p[q].toNat : Int) == 63) = false := by rw [not_and, byteAt_eq hq] at hc63; simpa using hc63 hq
              have hc5 : q + 4 < p.size ∧ decB (byteAt p (q + 1)) = true ∧ decB (byteAt p (q + 3)) = true := by
                by_cases hc5 : q + 4 < p.size ∧ decB (byteAt p (q + 1)) = true ∧ decB (byteAt p (q + 3)) = true
                · exact hc5
                · rw [if_neg hc5] at h; cases h
              rw [if_pos hc5] at h
              obtain ⟨h4, d1, d3⟩ := hc5
              have hq' : (q : Int) < (p.size : Int) := by omega
              have hq1' : (q : Int) + 1 < (p.size : Int) := by omega
              have hq3' : (q : Int) + 3 < (p.size : Int) := by omega
              have b1 := byteAt_eq (t := p) (k := q + 1) (by omega)
              have b3 := byteAt_eq (t := p) (k := q + 3) (by omega)
              have d1a : 48 ≤ byteAt p (q + 1) ∧ byteAt p (q + 1) ≤ 57 := by simpa [decB] using d1
              have d3a : 48 ≤ byteAt p (q + 3) ∧ byteAt p (q + 3) ≤ 57 := by simpa [decB] using d3
              rw [b1] at h d1a
              rw [b3] at h d3a
              have hgl := rfF_grows _ _ _ _ _ _ _ h
              have hsl : rs'.length ≤ 1000 := by have := unhide HR; simp only [List.length_append, List.length_cons, List.length_nil] at hgl; omega
              have hz : ∀ u v : Int, (((Tryz.zeroCells110.setIfInBounds 0 (.int .i64 8)).setIfInBounds 1 (.int .i64 li)).setIfInBounds 3 (.int .i64 u)).setIfInBounds 4 (.int .i64 v) = rnA ⟨8, li, 0, u, v, noSet⟩ := by intro u v; rw [zero78, rnA_kind, rnA_l, rnA_m, rnA_n]
              have HZ := hide hz
              have H2 := hide h
              have v1 : IntKind.i64.wrap ((q : Int) + 1) = (q : Int) + 1 := wrap_i (by omega) (by omega)
              have v3 : IntKind.i64.wrap ((q : Int) + 3) = (q : Int) + 3 := wrap_i (by omega) (by omega)
              have v5 : IntKind.u8.wrap ((p[q + 1].toNat : Int) - 48) = (p[q + 1].toNat : Int) - 48 := wrap_b (by omega) (by omega)
              have v6 : IntKind.u8.wrap ((p[q + 3].toNat : Int) - 48) = (p[q + 3].toNat : Int) - 48 := wrap_b (by omega) (by omega)
              have v7 : IntKind.i64.wrap ((p[q + 1].toNat : Int) - 48) = (p[q + 1].toNat : Int) - 48 := wrap_i (by omega) (by omega)
              have v8 : IntKind.i64.wrap ((p[q + 3].toNat : Int) - 48) = (p[q + 3].toNat : Int) - 48 := wrap_i (by omega) (by omega)
              have z1 : (0 : Int) ≤ (q : Int) + 1 := by omega
              have z3 : (0 : Int) ≤ (q : Int) + 3 := by omega
              have y1 : q + 1 < p.size := by omega
              have y3 : q + 3 < p.size := by omega
              clear h hgl hz hc42 hc43 hc63 b1 b3 d1 d3
              go_wp2_with fail
              go_region_with (go_at_call 46; rw [unhide HZ]; refine (put_any _ b rs' _ (by exact pw.2) hsl).mono ?_; rintro e w2 ⟨rfl, hw2⟩)
              all_goals

                go_wp2
                go_roundg m
                case measure => omega
                case rel =>
                  have h5 := hw2
                  simp only [show ((q : Int) + 3).toNat = q + 3 from by omega, v6, v8] at h5
                  exact ⟨q + 5, _, _, by go_num, rfl, unhide H2, by omega, pw.trans h5.undrew⟩
            · rw [if_neg hc123] at h
              by_cases he : q = p.size
              · rw [if_pos he] at h
                simp only [Option.some.injEq] at h
                subst h
                have hge : ¬ (q : Int) < (p.size : Int) := by omega
                have he' : ((q : Int) == (p.size : Int)) = true := by simp [he]
                clear hc42 hc43 hc63 hc123 he
                go_wp2
                go_ret
                exact ⟨rfl, pw⟩
              · rw [if_neg he] at h
                have hq : q < p.size := by
                  by_cases hq : q < p.size
                  · exact hq
                  · rw [if_neg hq] at h; cases h
                rw [if_pos hq, Option.bind_eq_some_iff] at h
                obtain ⟨y, hy, h⟩ := h
                simp only [Option.some.injEq] at h
                subst h
                have n42 : ((p[q].toNat : Int) == 42) = false := by rw [not_and, byteAt_eq hq] at hc42; simpa using hc42 hq
                have n43 : ((p[q].toNat : Int) == 43) = false := by rw [not_and, byteAt_eq hq] at hc43; simpa using hc43 hq
                have n63 : ((p[q].toNat : Int) == 63) = false := by rw [not_and, byteAt_eq hq] at hc63; simpa using hc63 hq
                have n123 : ((p[q].toNat : Int) == 123) = false := by rw [not_and, byteAt_eq hq] at hc123; simpa using hc123 hq
                have hq' : (q : Int) < (p.size : Int) := by omega
                have he' : ((q : Int) == (p.size : Int)) = false := by simp; omega
                have hrl := unhide HR
                simp only [List.length_append, List.length_cons, List.length_nil] at hrl
                have hyl : y.1.length ≤ 1000 := by omega
                have HB2 := hide (fun w1 hb1 => unhide I2 m (by omega) (p.extract q p.size) rs' y w1 b (by simp; omega) (by omega) hy hb1)
                have hz : ((Tryz.zeroCells110.setIfInBounds 0 (.int .i64 3)).setIfInBounds 1 (.int .i64 li)).setIfInBounds 2 (.int .i64 y.2) = rnA ⟨3, li, y.2, 0, 0, noSet⟩ := by rw [zero78, rnA_kind, rnA_l, rnA_r]
                have HZ := hide hz
                clear hc42 hc43 hc63 hc123 he hy hrl hz
                go_wp2_with fail
                refine (unhide HB2 _ pw.2).mono ?_
                rintro e w2 ⟨rfl, hw2⟩
                go_wp2_with fail
                rw [unhide HZ]
                refine (put_any _ b y.1 _ hw2.2 hyl).mono ?_
                rintro e w3 ⟨rfl, hw3⟩
                go_wp2
                go_ret
                exact ⟨rfl, (pw.trans hw2).trans hw3⟩

end Go.Proofs.YtfooclcjehpcfaaGreat
