/-
  veilkeep.table: the bytes of a table have its form.
-/
import Derived.Test.YtobfpgoepaeknaaT29
namespace Go.Proofs.Ytobfpgoepaeknaa
open Go.RowKit

section zones
variable {t : ByteArray} {S C : Nat} {cl : Nat → Nat} {gr : Nat → Bool} {nc : Nat → Nat → Nat}
theorem Tbl.zone1 (h : Tbl t S C cl gr nc) {i : Nat} (h1 : 2 ≤ i) (h2 : i < 258) : ∃ x, x < C ∧ ∀ hl : i < t.size, (t[i]'hl).toNat = x := by
  obtain ⟨b, rfl⟩ : ∃ b, i = 2 + b := ⟨i - 2, by omega⟩
  exact ⟨cl b, h.cl_lt b (by omega), h.ac b (by omega)⟩
theorem Tbl.zone2 (h : Tbl t S C cl gr nc) {i : Nat} (h1 : 258 ≤ i) (h2 : i < 258 + S) : ∃ x, x < 2 ∧ ∀ hl : i < t.size, (t[i]'hl).toNat = x := by
  obtain ⟨b, rfl⟩ : ∃ b, i = 258 + b := ⟨i - 258, by omega⟩
  exact ⟨bitN (gr b), by unfold bitN; split <;> omega, h.ag b (by omega)⟩
theorem Tbl.zone3 (h : Tbl t S C cl gr nc) {i : Nat} (h1 : 258 + S ≤ i) (h2 : i < t.size) : ∃ x, x < S ∧ ∀ hl : i < t.size, (t[i]'hl).toNat = x := by
  have hs := h.size
  have hc := h.c1
  obtain ⟨j, rfl⟩ : ∃ j, i = 258 + S + j := ⟨i - (258 + S), by omega⟩
  have hj : j < S * C := by omega
  have e : j / C * C + j % C = j := by rw [Nat.mul_comm]; exact Nat.div_add_mod _ _
  have hlt : j % C < C := Nat.mod_lt _ (by omega)
  have hdv : j / C < S := by rw [Nat.div_lt_iff_lt_mul (by omega)]; exact hj
  refine ⟨nc (j / C) (j % C), h.nc_lt _ _ hdv hlt, ?_⟩
  have e2 : 258 + S + j / C * C + j % C = 258 + S + j := by omega
  have := h.an (j / C) (j % C) hdv hlt
  intro hl
  rw [← this (by omega)]
  congr 2
  exact e2.symm
end zones

set_option maxRecDepth 20000 in
set_option maxHeartbeats 2000000 in
theorem ttable_any (w : World) (t : ByteArray) (S C : Nat) (cl : Nat → Nat) (gr : Nat → Bool) (nc : Nat → Nat → Nat) (h : Tbl t S C cl gr nc) :
    Calls Try.prog 21 #[.string t] w fun e w' => e = .returned (.bool true) ∧ w' = w := by
  have H := hide h
  have hsz := h.size
  have s1 := h.s1
  have s24 := h.s24
  have c1 := h.c1
  have c24 := h.c24
  have hM := h.mul_le
  have hge : C ≤ S * C := by
    have := Nat.mul_le_mul_right C s1
    omega
  obtain ⟨m, hm⟩ : ∃ m, S * C = m := ⟨_, rfl⟩
  rw [hm] at hsz hM hge
  have hw : IntKind.i64.wrap ((S : Int) * (C : Int)) = (m : Int) := by
    rw [← Int.natCast_mul, hm]; exact wrap_i64 m (by unfold top; omega)
  have hmI : (S : Int) * (C : Int) = (m : Int) := by rw [← hm, Int.natCast_mul]
  have e0 := h.a0
  have e1 := h.a1
  have k0 : (0 : Int) < (t.size : Int) := by omega
  have k1 : (1 : Int) < (t.size : Int) := by omega
  have k2 : (260 : Int) ≤ (t.size : Int) := by omega
  have k3 : (t.size : Int) = 258 + (S : Int) + (m : Int) := by omega
  have k4 : (1 : Int) ≤ (S : Int) := by omega
  have k5 : (S : Int) ≤ 24 := by omega
  have k6 : (1 : Int) ≤ (C : Int) := by omega
  have k7 : (C : Int) ≤ 24 := by omega
  have k8 : (m : Int) ≤ 576 := by omega
  have HSZ := hide hsz
  clear h hsz s1 s24 c1 c24 hM hge hm
  go_enter Try.func21, Try.ntmps21
  go_wp2_with fail
  clear e0 e1 hw hmI
  go_loopw [5] (fun ix wr => ∃ i : Nat, ix = .int .i64 (i : Int) ∧ Hid (2 ≤ i ∧ i ≤ t.size) ∧ wr = w) (fun ix _ => t.size - (intOf ix).toNat)
  case atStart => exact ⟨2, rfl, ⟨Nat.le_refl _, by omega⟩, rfl⟩
  case round =>
    rename World => wr
    obtain ⟨i, rfl, HH, hwr⟩ := hrel
    obtain rfl : w = wr := hwr.symm
    clear hwr
    obtain ⟨hi1, hi2⟩ := unhide HH
    by_cases hlt : i < t.size
    · have HLT := hide hlt
      have hltI : (i : Int) < (t.size : Int) := by omega
      have HN : Hid (2 ≤ i + 1 ∧ i + 1 ≤ t.size) := ⟨by omega, hlt⟩
      by_cases z1 : i < 258
      · obtain ⟨x, hx, ex⟩ := (unhide H).zone1 hi1 z1
        have z1I : (i : Int) < 258 := by omega
        have hxI : (x : Int) < (C : Int) := by omega
        have hx24 : (x : Int) < 24 := by omega
        clear hi1 hi2 HH hlt z1 hx
        go_wp2_with fail
        go_roundw
        case rel => exact ⟨i + 1, by go_num, unhide HN, by first | rfl | trivial⟩
        case measure => have := unhide HLT; simp [intOf]; omega
      · have z1I : (258 : Int) ≤ (i : Int) := by omega
        by_cases z2 : i < 258 + S
        · obtain ⟨x, hx, ex⟩ := (unhide H).zone2 (by omega) z2
          have z2I : (i : Int) < 258 + (S : Int) := by omega
          have hxI : (x : Int) < 2 := by omega
          clear hi1 hi2 HH hlt z1 hx z2
          go_wp2_with fail
          go_roundw
          case rel => exact ⟨i + 1, by go_num, unhide HN, by first | rfl | trivial⟩
          case measure => have := unhide HLT; simp [intOf]; omega
        · obtain ⟨x, hx, ex⟩ := (unhide H).zone3 (by omega) hlt
          have z2I : 258 + (S : Int) ≤ (i : Int) := by omega
          have hxI : (x : Int) < (S : Int) := by omega
          have hx24 : (x : Int) < 24 := by omega
          clear hi1 hi2 HH hlt z1 hx z2
          go_wp2_with fail
          go_roundw
          case rel => exact ⟨i + 1, by go_num, unhide HN, by first | rfl | trivial⟩
          case measure => have := unhide HLT; simp [intOf]; omega
    · have hi3 : i = t.size := by omega
      subst hi3
      clear hi1 hi2 HH hlt
      go_wp2_with fail
      go_ret
      exact ⟨rfl, rfl⟩

end Go.Proofs.Ytobfpgoepaeknaa
