/-
  veilkeep.apart: for every two states there is a string that tells them apart.
-/
import Derived.Test.YtobfpgoepaeknaaYd
import Derived.Test.YtobfpgoepaeknaaT24
namespace Go.Proofs.Ytobfpgoepaeknaa
open Go.RowKit

def toldA (T : Nat → Nat → Bool) : Array Value := ((List.range 576).map fun k => Value.bool (T (k / 24) (k % 24))).toArray
def zcD : Array Value := toldA fun _ _ => false
theorem toldA_size (T : Nat → Nat → Bool) : (toldA T).size = 576 := by simp [toldA]
theorem zcD_size : zcD.size = 576 := toldA_size _
theorem zcD_ne : zcD ≠ #[] := fun e => by have := zcD_size; rw [e] at this; simp at this
theorem zvD (w : World) : (zeroValue 74).run Try.prog w = .ok (.agg zcD) w := by kernel_rfl
theorem toldA_get (T : Nat → Nat → Bool) {i j : Nat} (hi : i < 24) (hj : j < 24) : (toldA T)[i * 24 + j]? = some (.bool (T i j)) := by
  have e : (i * 24 + j) / 24 = i ∧ (i * 24 + j) % 24 = j := by omega
  unfold toldA
  rw [List.getElem?_toArray, List.getElem?_map, List.getElem?_range (by omega)]
  simp only [Option.map_some]
  rw [e.1, e.2]
theorem toldA_set (T : Nat → Nat → Bool) {i j : Nat} (hi : i < 24) (hj : j < 24) : (toldA T).setIfInBounds (i * 24 + j) (.bool true) = toldA (updT T i j) := by
  apply Array.ext_getElem?
  intro k
  rw [Array.getElem?_setIfInBounds]
  by_cases hk : k < 576
  · obtain ⟨a, b, ha, hb, rfl⟩ : ∃ a b, a < 24 ∧ b < 24 ∧ k = a * 24 + b := ⟨k / 24, k % 24, by omega, by omega, by omega⟩
    rw [toldA_get _ ha hb, toldA_get _ ha hb]
    unfold updT
    by_cases e : a = i ∧ b = j
    · rw [if_pos (by omega), if_pos (by rw [toldA_size]; omega), if_pos e]
    · rw [if_neg (by omega), if_neg e]
  · rw [if_neg (by omega), Array.getElem?_eq_none (by rw [toldA_size]; omega), Array.getElem?_eq_none (by rw [toldA_size]; omega)]

structure TdI (w wr : World) (T : Nat → Nat → Bool) : Prop where
  below : Below w.heap.size w wr
  bD : wr.heap[w.heap.size]? = some (.cells (toldA T) 74 (0, 0))
section td
variable {w wr : World} {T : Nat → Nat → Bool}
theorem TdI.drewN (h : TdI w wr T) (n : Nat) : TdI w (wr.drewN n) T := ⟨below_drewY h.below n, h.bD⟩
theorem TdI.cell (h : TdI w wr T) {i j : Nat} (hi : i < 24) (hj : j < 24) : wr.cell? ⟨w.heap.size, i * 24 + j, none⟩ = some (.bool (T i j)) := by
  rw [cell_of_row _ _ _ _ _ _ h.bD, toldA_get T hi hj]
theorem TdI.free (h : TdI w wr T) (k : Nat) : wr.frozen? ⟨w.heap.size, k, none⟩ = false := frozen_of_row wr w.heap.size k _ _ h.bD
theorem TdI.put (h : TdI w wr T) {i j : Nat} (hi : i < 24) (hj : j < 24) : TdI w (wr.setCell ⟨w.heap.size, i * 24 + j, none⟩ (.bool true)) (updT T i j) :=
  ⟨h.below.setCell (by simp) _, by rw [heap_setCell_same _ _ _ _ _ _ h.bD, toldA_set T hi hj]⟩
end td

section walk
attribute [local go_sem ↓] Go.wp_at_zero Go.wp_at_succ zvD
attribute [local go_sem] zcD_size zcD_ne cells_agg
set_option maxRecDepth 20000 in
set_option maxHeartbeats 4000000 in
theorem tapart_any (w : World) (t : ByteArray) (L : List Nat → Prop) (S C : Nat) (nx : Nat → Nat → Nat) (gr : Nat → Bool) (cl : Nat → Nat) (nc : Nat → Nat → Nat) (ht : TabOf L S C nx gr cl nc) (h : Tbl t S C cl gr nc) :
    Calls Try.prog 25 #[.string t] w fun e w' => e = .returned (.bool true) ∧ Below w.heap.size w w' := by
  have H := hide h
  have HT := hide ht
  have hsz := h.size
  have s24 := h.s24
  have c24 := h.c24
  have hM := h.mul_le
  have e0 := h.a0
  have e1 := h.a1
  have k0 : (0 : Int) < (t.size : Int) := by omega
  have k1 : (1 : Int) < (t.size : Int) := by omega
  have k4 : (t.size : Int) ≤ 1000 := by omega
  have k5 : (S : Int) ≤ 24 := by omega
  have k7 : (C : Int) ≤ 24 := by omega
  have HS := hide s24
  have H0 : Hid (TdI w (w.alloc (.cells zcD 74)) (fun _ _ => false)) := ⟨(Below.refl _ _).alloc (Nat.le_refl _) _, heap_alloc_new _ _⟩
  have HC0 : Hid (cntT (fun _ _ => false) + 1 ≤ 577) := by
    have : cntT (fun _ _ => false) ≤ (List.range 576).length := List.countP_le_length
    rw [List.length_range] at this
    show _ ≤ _
    omega
  clear h ht hsz s24 c24 hM
  go_enter Try.func25, Try.ntmps25
  go_wp2_with fail
  clear e0 e1
  go_loopg [6] 577 (fun n ax wr => ∃ (y : Bool) (T : Nat → Nat → Bool), ax = .bool y ∧ Hid (TdI w wr T ∧ AprI S nx gr T ∧ (y = true → cntT T + 1 ≤ n) ∧ (y = false → ∀ i j, j < i → i < S → NowT C nc gr T i j C → T i j = true)))
  case atStart => exact ⟨true, fun _ _ => false, rfl, unhide H0, AprI.start _ _ _, fun _ => unhide HC0, fun h => by cases h⟩
  case round =>
    clear H0 HC0
    rename World => wr
    obtain ⟨y, T, rfl, HH⟩ := hrel
    obtain ⟨hI, hA, hlt, hcl⟩ := unhide HH
    cases y
    · have HALL := hide (fun i j h1 h2 => apart_all (unhide HT) hA (hcl rfl) i j h1 h2)
      have HI0 := hide hI
      clear HH hI hA hlt hcl
      go_wp2_with fail
      go_loopw [13] (fun ix wx => ∃ i : Nat, ix = .int .i64 (i : Int) ∧ Hid (i ≤ S) ∧ wx = wr) (fun ix _ => S - (intOf ix).toNat)
      case atStart => exact ⟨0, rfl, Nat.zero_le _, rfl⟩
      case round =>
        rename World => wx
        obtain ⟨i, rfl, HH, hwx⟩ := hrel
        obtain rfl : wr = wx := hwx.symm
        clear hwx
        by_cases hlt : i < S
        · have hiI : (i : Int) < (S : Int) := by omega
          have HIS := hide hlt
          clear HH hlt
          go_wp2_with fail
          go_loopw [14] (fun jx wy => ∃ j : Nat, jx = .int .i64 (j : Int) ∧ Hid (j ≤ i) ∧ wy = wr) (fun jx _ => i - (intOf jx).toNat)
          case atStart => exact ⟨0, rfl, Nat.zero_le _, rfl⟩
          case round =>
            rename World => wy
            obtain ⟨j, rfl, HH, hwy⟩ := hrel
            obtain rfl : wr = wy := hwy.symm
            clear hwy
            by_cases hlt : j < i
            · have hjI : (j : Int) < (i : Int) := by omega
              have HJI := hide hlt
              have hi24 : i < 24 := by have := unhide HIS; have := unhide HS; omega
              have c1 := (unhide HI0).cell hi24 (show j < 24 by omega)
              rw [unhide HALL i j hlt (unhide HIS)] at c1
              have hi24I : (i : Int) < 24 := by omega
              clear HH hlt hi24
              go_wp2_with fail
              go_roundw
              case rel => exact ⟨j + 1, by go_num, unhide HJI, by first | rfl | trivial⟩
              case measure => have := unhide HJI; simp [intOf]; omega
            · have hj2 : j = i := by have := unhide HH; omega
              subst hj2
              clear HH hlt
              go_wp2_with fail
              go_roundw
              case rel => exact ⟨j + 1, by go_num, unhide HIS, by first | rfl | trivial⟩
              case measure => have := unhide HIS; simp [intOf]; omega
        · have hi2 : i = S := by have := unhide HH; omega
          subst hi2
          clear HH hlt
          go_wp2_with fail
          go_ret
          exact ⟨rfl, (unhide HI0).below⟩
    · obtain ⟨N, hN⟩ : ∃ N, N = cntT T := ⟨_, rfl⟩
      obtain ⟨n, hn, hlt2⟩ : ∃ n, n = _ ∧ cntT T + 1 ≤ n := ⟨_, rfl, hlt rfl⟩
      subst hn
      have HCN : Hid (N + 1 ≤ n) := by rw [hN]; exact hlt2
      clear hlt2
      have HP0 : Hid (PasI S C nx gr nc N false T 0 0) := by rw [hN]; exact PasI.start hA
      have HI0 := hide hI
      clear HH hI hA hlt hcl hN
      go_wp2_with fail
      go_loopw [6, 7] (fun ax ix wx => ∃ (y : Bool) (i : Nat) (T2 : Nat → Nat → Bool), ax = .bool y ∧ ix = .int .i64 (i : Int) ∧ Hid (i ≤ S ∧ TdI w wx T2 ∧ PasI S C nx gr nc N y T2 i 0)) (fun _ ix _ => S - (intOf ix).toNat)
      case atStart => exact ⟨false, 0, T, rfl, rfl, Nat.zero_le _, unhide HI0, unhide HP0⟩
      case round =>
        clear HI0 HP0
        rename World => wx
        obtain ⟨y, i, T2, rfl, rfl, HH⟩ := hrel
        obtain ⟨hiS, hI, hP⟩ := unhide HH
        by_cases hlt : i < S
        · have hiI : (i : Int) < (S : Int) := by omega
          have HIS := hide hlt
          have HI0 := hide hI
          have HP0 := hide hP
          clear HH hiS hI hP hlt
          go_wp2_with fail
          go_loopw [6, 8] (fun ax jx wy => ∃ (y : Bool) (j : Nat) (T3 : Nat → Nat → Bool), ax = .bool y ∧ jx = .int .i64 (j : Int) ∧ Hid (j ≤ i ∧ TdI w wy T3 ∧ PasI S C nx gr nc N y T3 i j)) (fun _ jx _ => i - (intOf jx).toNat)
          case atStart => exact ⟨y, 0, T2, rfl, rfl, Nat.zero_le _, unhide HI0, unhide HP0⟩
          case round =>
            clear HI0 HP0
            rename World => wy
            obtain ⟨y, j, T3, rfl, rfl, HH⟩ := hrel
            obtain ⟨hjI, hI, hP⟩ := unhide HH
            by_cases hlt : j < i
            · have hjI2 : (j : Int) < (i : Int) := by omega
              have HJI := hide hlt
              have HI0 := hide hI
              have HP0 := hide hP
              have hi24 : i < 24 := by have := unhide HIS; have := unhide HS; omega
              have hj24 : j < 24 := by omega
              have HI24 := hide hi24
              have HJ24 := hide hj24
              have HJS : Hid (j < S) := by have := unhide HIS; show _ < _; omega
              have hi24I : (i : Int) < 24 := by omega
              have hj24I : (j : Int) < 24 := by omega
              have c1 := hI.cell hi24 hj24
              have a1 := (unhide H).ag i (unhide HIS)
              have a2 := (unhide H).ag j (unhide HJS)
              have l1 := (unhide H).lt4 (unhide HIS)
              have l2 := (unhide H).lt4 (unhide HJS)
              have q1 : (258 : Int) + (i : Int) < (t.size : Int) := by omega
              have q2 : (258 : Int) + (j : Int) < (t.size : Int) := by omega
              have v1 : IntKind.i64.wrap (258 + (i : Int)) = 258 + (i : Int) := by rw [IntKind.wrap_i64]; omega
              have v2 : IntKind.i64.wrap (258 + (j : Int)) = 258 + (j : Int) := by rw [IntKind.wrap_i64]; omega
              have z1 : (0 : Int) ≤ 258 + (i : Int) := by omega
              have z2 : (0 : Int) ≤ 258 + (j : Int) := by omega
              have n1 : (258 + (i : Int)).toNat = 258 + i := by omega
              have n2 : (258 + (j : Int)).toNat = 258 + j := by omega
              clear HH hjI hI hP hlt hi24 hj24
              go_upto_region 13 with fail
              go_cut [9] from 27 to 99 (fun zx wz => ∃ z : Bool, zx = .bool z ∧ Hid ((z = true ↔ NowT C nc gr T3 i j 0) ∧ TdI w wz T3))
              case first =>
                cases hq : T3 i j
                · rw [hq] at c1
                  by_cases hg : gr i = gr j
                  · have HN : Hid (¬ NowT C nc gr T3 i j 0) := by
                      rintro (h | h | ⟨k', h, _⟩)
                      · rw [hq] at h; cases h
                      · exact h hg
                      · exact absurd h (Nat.not_lt_zero _)
                    rw [hg] at a1
                    generalize bitN (gr j) = bt at *
                    clear hq hg
                    go_quiet (fail)
                    go_wp2_with fail
                    go_meet
                    exact ⟨false, by first | rfl | (simp; done), ⟨fun h => (by cases h), fun h => absurd h (unhide HN)⟩, (unhide HI0).drewN _⟩
                  · have HN : Hid (NowT C nc gr T3 i j 0) := .inr (.inl hg)
                    have hne : bitN (gr i) ≠ bitN (gr j) := fun e => hg (by
                      cases h1 : gr i <;> cases h2 : gr j <;> rw [h1, h2] at e <;> first | rfl | (simp [bitN] at e))
                    generalize bitN (gr j) = b2 at *
                    generalize bitN (gr i) = b1 at *
                    have hneI : ¬ (b1 : Int) = (b2 : Int) := by omega
                    have hneB : ((b1 : Int) == (b2 : Int)) = false := by simpa using hneI
                    clear hq hg hne
                    go_quiet (fail)
                    go_wp2_with fail
                    go_meet
                    exact ⟨true, by first | rfl | (simp; done) | (simp [hneI]; done), ⟨fun _ => unhide HN, fun _ => rfl⟩, (unhide HI0).drewN _⟩
                · rw [hq] at c1
                  have HN : Hid (NowT C nc gr T3 i j 0) := .inl hq
                  clear hq a1 a2 l1 l2 q1 q2 v1 v2 z1 z2 n1 n2
                  go_quiet (fail)
                  go_wp2_with fail
                  go_meet
                  exact ⟨true, rfl, ⟨fun _ => unhide HN, fun _ => rfl⟩, (unhide HI0).drewN _⟩
              case rest =>
                rename World => w5
                obtain ⟨z0, rfl, HC⟩ := hcut
                clear c1 a1 a2 l1 l2 q1 q2 v1 v2 z1 z2 n1 n2 HI0
                go_wp2_with fail
                go_loopw [9, 10] (fun zx kx wz => ∃ (z : Bool) (k : Nat), zx = .bool z ∧ kx = .int .i64 (k : Int) ∧ Hid (k ≤ C ∧ (z = true ↔ NowT C nc gr T3 i j k) ∧ TdI w wz T3)) (fun _ kx _ => C - (intOf kx).toNat)
                case atStart => exact ⟨z0, 0, rfl, rfl, Nat.zero_le _, unhide HC⟩
                case round =>
                  clear HC
                  rename World => wz
                  obtain ⟨z, k, rfl, rfl, HH⟩ := hrel
                  obtain ⟨hkC, hz, hI⟩ := unhide HH
                  have HI0 := hide hI
                  by_cases hlt : k < C
                  · have hkI : (k : Int) < (C : Int) := by omega
                    have HKC := hide hlt
                    obtain ⟨mi, hmi⟩ : ∃ m, i * C = m := ⟨_, rfl⟩
                    obtain ⟨mj, hmj⟩ : ∃ m, j * C = m := ⟨_, rfl⟩
                    have l1 := (unhide H).lt3 (unhide HIS) hlt hmi
                    have l2 := (unhide H).lt3 (unhide HJS) hlt hmj
                    have a1 := fun hl => (unhide H).an' (unhide HIS) hlt hmi hl
                    have a2 := fun hl => (unhide H).an' (unhide HJS) hlt hmj hl
                    obtain ⟨w1, m1, b1⟩ := mul_small hmi (unhide HIS) (unhide H).s24 (unhide H).c24
                    obtain ⟨w2, m2, b2⟩ := mul_small hmj (unhide HJS) (unhide H).s24 (unhide H).c24
                    have q1 : (258 : Int) + (S : Int) + (mi : Int) + (k : Int) < (t.size : Int) := by omega
                    have q2 : (258 : Int) + (S : Int) + (mj : Int) + (k : Int) < (t.size : Int) := by omega
                    have q3 : (mi : Int) ≤ 576 := by omega
                    have q4 : (mj : Int) ≤ 576 := by omega
                    have x1 := (unhide H).nc_lt i k (unhide HIS) hlt
                    have x2 := (unhide H).nc_lt j k (unhide HJS) hlt
                    have x3 : nc i k < 24 := by have := unhide HS; omega
                    have x4 : nc j k < 24 := by have := unhide HS; omega
                    have x5 : (nc i k : Int) < 24 := by omega
                    have x6 : (nc j k : Int) < 24 := by omega
                    have c1 := hI.cell x3 x4
                    have HN : Hid (NowT C nc gr T3 i j (k + 1) ↔ (NowT C nc gr T3 i j k ∨ T3 (nc i k) (nc j k) = true)) := by
                      constructor
                      · rintro (h | h | ⟨k', h1, h2, h3⟩)
                        · exact .inl (.inl h)
                        · exact .inl (.inr (.inl h))
                        · by_cases e : k' = k
                          · subst e; exact .inr h3
                          · exact .inl (.inr (.inr ⟨k', by omega, h2, h3⟩))
                      · rintro ((h | h | ⟨k', h1, h2, h3⟩) | h)
                        · exact .inl h
                        · exact .inr (.inl h)
                        · exact .inr (.inr ⟨k', by omega, h2, h3⟩)
                        · exact .inr (.inr ⟨k, by omega, hlt, h⟩)
                    have HZ := hide hz
                    generalize nc i k = x at *
                    generalize nc j k = xx at *
                    clear HH hkC hz hI hlt l1 l2 hmi hmj b1 b2 x1 x2 x3 x4
                    cases z
                    · cases hq : T3 x xx
                      · have HNN : Hid (¬ NowT C nc gr T3 i j (k + 1)) := fun h => by
                          rcases (unhide HN).1 h with h | h
                          · have := (unhide HZ).2 h; cases this
                          · rw [hq] at h; cases h
                        rw [hq] at c1
                        clear hq
                        go_wp2_with fail
                        go_roundw
                        case rel => exact ⟨false, k + 1, rfl, by go_num, unhide HKC, ⟨fun h => (by cases h), fun h => absurd h (unhide HNN)⟩, unhide HI0⟩
                        case measure => have := unhide HKC; simp [intOf]; omega
                      · have HNN : Hid (NowT C nc gr T3 i j (k + 1)) := (unhide HN).2 (.inr hq)
                        rw [hq] at c1
                        clear hq
                        go_wp2_with fail
                        go_roundw
                        case rel => exact ⟨true, k + 1, rfl, by go_num, unhide HKC, ⟨fun _ => unhide HNN, fun _ => rfl⟩, unhide HI0⟩
                        case measure => have := unhide HKC; simp [intOf]; omega
                    · have HNN : Hid (NowT C nc gr T3 i j (k + 1)) := (unhide HN).2 (.inl ((unhide HZ).1 rfl))
                      clear c1
                      go_wp2_with fail
                      go_roundw
                      case rel => exact ⟨true, k + 1, rfl, by go_num, unhide HKC, ⟨fun _ => unhide HNN, fun _ => rfl⟩, unhide HI0⟩
                      case measure => have := unhide HKC; simp [intOf]; omega
                  · have hk2 : k = C := by omega
                    subst hk2
                    have c1 := hI.cell (unhide HI24) (unhide HJ24)
                    have c2 := hI.cell (unhide HJ24) (unhide HI24)
                    have f1 := hI.free (i * 24 + j)
                    have f2 := hI.free (j * 24 + i)
                    have HZ := hide hz
                    clear HH hkC hz hI hlt
                    cases z
                    · have HK := hide ((unhide HP0).keep (fun hn => by have := (unhide HZ).2 hn; cases this))
                      clear c1 c2 f1 f2
                      go_wp2_with fail
                      go_roundw
                      case rel => exact ⟨y, j + 1, T3, rfl, by go_num, unhide HJI, unhide HI0, unhide HK⟩
                      case measure => have := unhide HJI; simp [intOf]; omega
                    · cases hq : T3 i j
                      · have HK := hide ((unhide HP0).mark (unhide HT) (unhide HS) (unhide HIS) (unhide HJS) ((unhide HZ).1 rfl) hq)
                        have HI2 := hide (((unhide HI0).put (unhide HI24) (unhide HJ24)).put (unhide HJ24) (unhide HI24))
                        have hne : ¬ j * 24 + i = i * 24 + j := by have := unhide HI24; have := unhide HJI; omega
                        rw [hq] at c1
                        clear hq
                        go_wp2_with fail
                        go_roundw
                        case rel => exact ⟨true, j + 1, markT T3 i j, rfl, by go_num, unhide HJI, unhide HI2, unhide HK⟩
                        case measure => have := unhide HJI; simp [intOf]; omega
                      · have HK := hide ((unhide HP0).keep (fun _ => hq))
                        rw [hq] at c1
                        clear c2 f1 f2 hq
                        go_wp2_with fail
                        go_roundw
                        case rel => exact ⟨y, j + 1, T3, rfl, by go_num, unhide HJI, unhide HI0, unhide HK⟩
                        case measure => have := unhide HJI; simp [intOf]; omega
            · have hj2 : j = i := by omega
              subst hj2
              have HI0 := hide hI
              have HK := hide hP.row
              clear HH hjI hI hP hlt
              go_wp2_with fail
              go_roundw
              case rel => exact ⟨y, j + 1, T3, rfl, by go_num, unhide HIS, unhide HI0, unhide HK⟩
              case measure => have := unhide HIS; simp [intOf]; omega
        · have hi2 : i = S := by omega
          subst hi2
          have HI0 := hide hI
          have HK := hide hP
          clear HH hiS hI hP hlt
          go_wp2_with fail
          go_roundg (n - 1)
          case measure => have := unhide HCN; omega
          case rel =>
            exact ⟨y, T2, rfl, unhide HI0, (unhide HK).apr, fun h => by have := (unhide HK).lt h; have := unhide HCN; omega, fun h i' j' h1 h2 h3 => (unhide HK).done h i' j' h1 (.inl h2) h3⟩

end walk
end Go.Proofs.Ytobfpgoepaeknaa
