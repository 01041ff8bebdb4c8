/-
  veilkeep.columns: every two classes lead from some state to two states.
-/
import Derived.Test.YtobfpgoepaeknaaYc
import Derived.Deep.QuietTactic
import Derived.BigQuiet
namespace Go.Proofs.Ytobfpgoepaeknaa
open Go.RowKit

theorem below_drewY {B : Nat} {a w : World} (h : Below B a w) (n : Nat) : Below B a (w.drewN n) := ⟨h.os, h.tape, h.output, h.size, h.block⟩
theorem TabOf.differ {L : List Nat → Prop} {S C : Nat} {nx : Nat → Nat → Nat} {gr : Nat → Bool} {cl : Nat → Nat} {nc : Nat → Nat → Nat} (h : TabOf L S C nx gr cl nc) {a b : Nat} (ha : a < C) (hb : b < a) : ∃ i, i < S ∧ nc i a ≠ nc i b := by
  obtain ⟨x, hx, rfl⟩ := h.cols.all a ha
  obtain ⟨y, hy, rfl⟩ := h.cols.all b (by omega)
  refine Classical.byContradiction fun hno => ?_
  have := (h.cols.eq x y hx hy).2 fun i hi => Classical.byContradiction fun hne => hno ⟨i, hi, by rw [h.nc i x hi hx, h.nc i y hi hy]; exact hne⟩
  omega

set_option maxRecDepth 20000 in
set_option maxHeartbeats 2000000 in
theorem tcolumns_any (w : World) (t : ByteArray) (L : List Nat → Prop) (S C : Nat) (nx : Nat → Nat → Nat) (gr : Nat → Bool) (cl : Nat → Nat) (nc : Nat → Nat → Nat) (ht : TabOf L S C nx gr cl nc) (h : Tbl t S C cl gr nc) :
    Calls Try.prog 24 #[.string t] w fun e w' => e = .returned (.bool true) ∧ Below w.heap.size w w' := by
  have H := hide h
  have HT := hide ht
  have hsz := h.size
  have s24 := h.s24
  have c24 := h.c24
  have hM := h.mul_le
  have e0 := h.a0
  have e1 := h.a1
  have k0 : (0 : Int) < (t.size : Int) := by omega
  have k1 : (1 : Int) < (t.size : Int) := by omega
  have k4 : (t.size : Int) ≤ 1000 := by omega
  have k5 : (S : Int) ≤ 24 := by omega
  have k7 : (C : Int) ≤ 24 := by omega
  clear h ht hsz s24 c24 hM
  go_enter Try.func24, Try.ntmps24
  go_wp2_with fail
  clear e0 e1
  go_loopw [5] (fun ax wr => ∃ a : Nat, ax = .int .i64 (a : Int) ∧ Hid (a ≤ C ∧ Below w.heap.size w wr)) (fun ax _ => C - (intOf ax).toNat)
  case atStart => exact ⟨0, rfl, Nat.zero_le _, Below.refl _ _⟩
  case round =>
    rename World => wr
    obtain ⟨a, rfl, HH⟩ := hrel
    obtain ⟨haC, hB⟩ := unhide HH
    have HB := hide hB
    by_cases hlt : a < C
    · have haI : (a : Int) < (C : Int) := by omega
      have HA := hide hlt
      clear HH haC hB hlt
      go_wp2_with fail
      go_loopw [6] (fun bx wx => ∃ b : Nat, bx = .int .i64 (b : Int) ∧ Hid (b ≤ a ∧ Below w.heap.size w wx)) (fun bx _ => a - (intOf bx).toNat)
      case atStart => exact ⟨0, rfl, Nat.zero_le _, unhide HB⟩
      case round =>
        clear HB
        rename World => wx
        obtain ⟨b, rfl, HH⟩ := hrel
        obtain ⟨hba, hB⟩ := unhide HH
        have HB := hide hB
        by_cases hlt : b < a
        · have hbI : (b : Int) < (a : Int) := by omega
          have HBA := hide hlt
          clear HH hba hB hlt
          go_wp2_with fail
          go_loopw [7, 8] (fun sx ix wy => ∃ (y : Bool) (i : Nat), sx = .bool y ∧ ix = .int .i64 (i : Int) ∧ Hid (i ≤ S ∧ (y = true → ∀ i', i' < i → nc i' a = nc i' b) ∧ Below w.heap.size w wy)) (fun _ ix _ => S - (intOf ix).toNat)
          case atStart => exact ⟨true, 0, rfl, rfl, Nat.zero_le _, fun _ i' h => absurd h (Nat.not_lt_zero _), unhide HB⟩
          case round =>
            clear HB
            rename World => wy
            obtain ⟨y, i, rfl, rfl, HH⟩ := hrel
            obtain ⟨hiS, hall, hB⟩ := unhide HH
            have HB := hide hB
            by_cases hlt : i < S
            · have hiI : (i : Int) < (S : Int) := by omega
              have HIS := hide hlt
              have hbC : b < C := by have := unhide HBA; have := unhide HA; omega
              obtain ⟨m, hm⟩ : ∃ m, i * C = m := ⟨_, rfl⟩
              have hl1 := (unhide H).lt3 hlt (unhide HA) hm
              have hl2 := (unhide H).lt3 hlt hbC hm
              have e1 := fun hl => (unhide H).an' hlt (unhide HA) hm hl
              have e2 := fun hl => (unhide H).an' hlt hbC hm hl
              obtain ⟨hw, hmI, hm1⟩ := mul_small hm hlt (unhide H).s24 (unhide H).c24
              have k8 : (m : Int) ≤ 576 := by omega
              have k9 : (258 : Int) + (S : Int) + (m : Int) + (a : Int) < (t.size : Int) := by omega
              have k10 : (258 : Int) + (S : Int) + (m : Int) + (b : Int) < (t.size : Int) := by omega
              have v0 : IntKind.i64.wrap (m : Int) = (m : Int) := by rw [IntKind.wrap_i64]; omega
              have v1 : IntKind.i64.wrap (258 + (S : Int)) = 258 + (S : Int) := by rw [IntKind.wrap_i64]; omega
              have v2 : IntKind.i64.wrap (258 + (S : Int) + (m : Int)) = 258 + (S : Int) + (m : Int) := by rw [IntKind.wrap_i64]; omega
              have v3 : IntKind.i64.wrap (258 + (S : Int) + (m : Int) + (a : Int)) = 258 + (S : Int) + (m : Int) + (a : Int) := by rw [IntKind.wrap_i64]; omega
              have v4 : IntKind.i64.wrap (258 + (S : Int) + (m : Int) + (b : Int)) = 258 + (S : Int) + (m : Int) + (b : Int) := by rw [IntKind.wrap_i64]; omega
              have z1 : (0 : Int) ≤ 258 + (S : Int) + (m : Int) + (a : Int) := by omega
              have z2 : (0 : Int) ≤ 258 + (S : Int) + (m : Int) + (b : Int) := by omega
              have n1 : (258 + (S : Int) + (m : Int) + (a : Int)).toNat = 258 + S + m + a := by omega
              have n2 : (258 + (S : Int) + (m : Int) + (b : Int)).toNat = 258 + S + m + b := by omega
              have x1 := (unhide H).nc_lt i a hlt (unhide HA)
              have x2 := (unhide H).nc_lt i b hlt hbC
              have x3 : (nc i a : Int) < 24 := by omega
              have x4 : (nc i b : Int) < 24 := by omega
              cases y
              · clear HH hiS hall hB hlt hl1 hl2 e1 e2 hw hmI hm1 hm hbC x1 x2 x3 x4
                go_wp2_with fail
                go_quiet (fail)
                go_wp2_with fail
                go_roundw
                case rel => exact ⟨false, i + 1, rfl, by go_num, unhide HIS, (fun h => by cases h), below_drewY (unhide HB) _⟩
                case measure => have := unhide HIS; simp [intOf]; omega
              · by_cases he : nc i a = nc i b
                · have HN : Hid (∀ i', i' < i + 1 → nc i' a = nc i' b) := fun i' hi' => by
                    by_cases q : i' = i
                    · subst q; exact he
                    · exact hall rfl i' (by omega)
                  rw [he] at e1
                  generalize nc i b = z at *
                  clear HH hiS hall hB hlt hm1 hm hbC x1 x2 he x3
                  go_wp2_with fail
                  go_quiet (fail)
                  go_wp2_with fail
                  go_roundw
                  case rel => exact ⟨true, i + 1, rfl, by go_num, unhide HIS, fun _ => unhide HN, below_drewY (unhide HB) _⟩
                  case measure => have := unhide HIS; simp [intOf]; omega
                · generalize nc i b = z at *
                  generalize nc i a = x at *
                  have hne : ¬ (x : Int) = (z : Int) := by omega
                  have hne2 : ((x : Int) == (z : Int)) = false := by simpa using hne
                  clear HH hiS hall hB hlt hm1 hm hbC x1 x2 he
                  go_wp2_with fail
                  go_quiet (fail)
                  go_wp2_with fail
                  go_roundw
                  case rel => exact ⟨false, i + 1, by first | rfl | (simp; done) | (simp [hne]; done), by go_num, unhide HIS, (fun h => by cases h), below_drewY (unhide HB) _⟩
                  case measure => have := unhide HIS; simp [intOf]; omega
            · have hi2 : i = S := by omega
              subst hi2
              cases y
              · clear HH hiS hall hB hlt
                go_wp2_with fail
                go_roundw
                case rel => exact ⟨b + 1, by go_num, unhide HBA, unhide HB⟩
                case measure => have := unhide HBA; simp [intOf]; omega
              · exfalso
                obtain ⟨i, h1, h2⟩ := (unhide HT).differ (unhide HA) (unhide HBA)
                exact h2 (hall rfl i h1)
        · have hb2 : b = a := by omega
          subst hb2
          clear HH hba hB hlt
          go_wp2_with fail
          go_roundw
          case rel => exact ⟨b + 1, by go_num, unhide HA, unhide HB⟩
          case measure => have := unhide HA; simp [intOf]; omega
    · have ha2 : a = C := by omega
      subst ha2
      clear HH haC hB hlt
      go_wp2_with fail
      go_ret
      exact ⟨rfl, unhide HB⟩

end Go.Proofs.Ytobfpgoepaeknaa
