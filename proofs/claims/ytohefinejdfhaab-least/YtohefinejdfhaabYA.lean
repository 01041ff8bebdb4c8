/-
  A table as a string: its bytes; veilkeep.next, veilkeep.granted.
  veilkeep.table: the bytes of a table have its form.
  veilkeep.ordered: states and classes are numbered as they are met.
-/
import Derived.Test.YtohefinejdfhaabVr
namespace Go.Proofs.Ytohefinejdfhaab
open Go.RowKit

/-- The bytes of a table, as a string. -/
structure Tbl (t : ByteArray) (S C : Nat) (cl : Nat → Nat) (gr : Nat → Bool) (nc : Nat → Nat → Nat) : Prop where
  size : t.size = 258 + S + S * C
  s1 : 1 ≤ S
  s24 : S ≤ 24
  c1 : 1 ≤ C
  c24 : C ≤ 24
  cl_lt : ∀ b, b < 256 → cl b < C
  nc_lt : ∀ i c, i < S → c < C → nc i c < S
  a0 : ∀ h : 0 < t.size, (t[0]'h).toNat = S
  a1 : ∀ h : 1 < t.size, (t[1]'h).toNat = C
  ac : ∀ b, b < 256 → ∀ h : 2 + b < t.size, (t[2 + b]'h).toNat = cl b
  ag : ∀ i, i < S → ∀ h : 258 + i < t.size, (t[258 + i]'h).toNat = bitN (gr i)
  an : ∀ i c, i < S → c < C → ∀ h : 258 + S + i * C + c < t.size, (t[258 + S + i * C + c]'h).toNat = nc i c
theorem getElem_of_getD {l : List Nat} {k x : Nat} (h : l.getD k 0 = x) (hk : k < l.length) : l[k] = x := by
  rw [List.getD_eq_getElem?_getD, List.getElem?_eq_getElem hk] at h; exact h
theorem flat_getD (C : Nat) (nc : Nat → Nat → Nat) {c : Nat} (hc : c < C) : ∀ S i, i < S → ((List.range S).flatMap (fun i => (List.range C).map (nc i))).getD (i * C + c) 0 = nc i c
  | 0, i, h => absurd h (Nat.not_lt_zero _)
  | S + 1, i, h => by
    rw [flat_snoc, List.getD_eq_getElem?_getD]
    have hl := flat_len C nc S
    by_cases e : i = S
    · subst e
      rw [List.getElem?_append_right (by rw [hl]; omega), hl, Nat.add_sub_cancel_left, List.getElem?_map, List.getElem?_range hc]; rfl
    · have h2 : i < S := by omega
      have h3 : i * C + c < S * C := by
        have : (i + 1) * C ≤ S * C := Nat.mul_le_mul_right C h2
        rw [Nat.add_mul] at this; omega
      rw [List.getElem?_append_left (by rw [hl]; exact h3), ← List.getD_eq_getElem?_getD, flat_getD C nc hc S i h2]
theorem lay_parts (S C : Nat) (cl : Nat → Nat) (gr : Nat → Bool) (nc : Nat → Nat → Nat) : layTab S C cl gr nc = [S, C] ++ ((List.range 256).map cl ++ ((List.range S).map (fun i => if gr i then 1 else 0) ++ (List.range S).flatMap (fun i => (List.range C).map (nc i)))) := by
  unfold layTab
  rw [List.append_assoc, List.append_assoc]
theorem lay_len (S C : Nat) (cl : Nat → Nat) (gr : Nat → Bool) (nc : Nat → Nat → Nat) : (layTab S C cl gr nc).length = 258 + S + S * C := by
  rw [lay_parts]
  simp only [List.length_append, List.length_map, List.length_range, flat_len, List.length_cons, List.length_nil]
  omega
theorem getD_app_right {l m : List Nat} {k j : Nat} (h : l.length + j = k) : (l ++ m).getD k 0 = m.getD j 0 := by
  rw [List.getD_eq_getElem?_getD, List.getD_eq_getElem?_getD, List.getElem?_append_right (by omega)]
  rw [show k - l.length = j by omega]
theorem getD_app_left {l m : List Nat} {k : Nat} (h : k < l.length) : (l ++ m).getD k 0 = l.getD k 0 := by
  rw [List.getD_eq_getElem?_getD, List.getD_eq_getElem?_getD, List.getElem?_append_left h]
theorem getD_mapr (f : Nat → Nat) {n k : Nat} (h : k < n) : ((List.range n).map f).getD k 0 = f k := by
  rw [List.getD_eq_getElem?_getD, List.getElem?_map, List.getElem?_range h]; rfl
theorem TabOf.tbl {L : List Nat → Prop} {S C : Nat} {nx : Nat → Nat → Nat} {gr : Nat → Bool} {cl : Nat → Nat} {nc : Nat → Nat → Nat} (h : TabOf L S C nx gr cl nc) : Tbl (strN (layTab S C cl gr nc)) S C cl gr nc := by
  have s24 := h.sle
  have c24 := h.cle
  have hlt : ∀ x ∈ layTab S C cl gr nc, x < 256 := fun x hx => by
    rw [lay_parts] at hx
    rcases List.mem_append.1 hx with hx | hx
    · simp at hx; omega
    · rcases List.mem_append.1 hx with hx | hx
      · obtain ⟨b, hb, rfl⟩ := List.mem_map.1 hx
        have := h.cols.lt b (List.mem_range.1 hb); omega
      · rcases List.mem_append.1 hx with hx | hx
        · obtain ⟨b, hb, rfl⟩ := List.mem_map.1 hx
          split <;> omega
        · exact h.ns_lt x hx
  have hb := bytesN_strN hlt
  have hsz : (strN (layTab S C cl gr nc)).size = 258 + S + S * C := by rw [← bytesN_len, hb, lay_len]
  have key : ∀ {k x}, (layTab S C cl gr nc).getD k 0 = x → ∀ hk : k < (strN (layTab S C cl gr nc)).size, ((strN (layTab S C cl gr nc))[k]'hk).toNat = x := fun {k x} hx hk => by
    have hk2 : k < (bytesN (strN (layTab S C cl gr nc))).length := by rw [bytesN_len]; exact hk
    rw [← bytesN_at _ k hk hk2]
    refine getElem_of_getD ?_ hk2
    rw [hb]; exact hx
  refine ⟨hsz, h.dfa.pos, s24, ?_, c24, h.cols.lt, fun i c hi hc => h.nc_lt hi hc, fun _ => key rfl _, fun _ => key rfl _, fun b hb' _ => key ?_ _, fun i hi _ => key ?_ _, fun i c hi hc _ => key ?_ _⟩
  · have := h.cols.lt 0 (by omega); omega
  · rw [lay_parts, getD_app_right (j := b) (by simp), getD_app_left (by simpa using hb'), getD_mapr cl hb']
  · rw [lay_parts, getD_app_right (j := 256 + i) (by simp; omega), getD_app_right (j := i) (by simp), getD_app_left (by simpa using hi), getD_mapr _ hi]; rfl
  · rw [lay_parts, getD_app_right (j := 256 + S + (i * C + c)) (by simp; omega), getD_app_right (j := S + (i * C + c)) (by simp; omega), getD_app_right (j := i * C + c) (by simp), flat_getD C nc hc S i hi]
theorem Tbl.lt2 {t : ByteArray} {S C : Nat} {cl : Nat → Nat} {gr : Nat → Bool} {nc : Nat → Nat → Nat} (h : Tbl t S C cl gr nc) {i c : Nat} (hi : i < S) (hc : c < C) : 258 + S + i * C + c < t.size := by
  rw [h.size]
  have : (i + 1) * C ≤ S * C := Nat.mul_le_mul_right C hi
  rw [Nat.add_mul] at this; omega
theorem Tbl.mul_le {t : ByteArray} {S C : Nat} {cl : Nat → Nat} {gr : Nat → Bool} {nc : Nat → Nat → Nat} (h : Tbl t S C cl gr nc) : S * C ≤ 576 := Nat.mul_le_mul h.s24 h.c24

theorem Tbl.an' {t : ByteArray} {S C : Nat} {cl : Nat → Nat} {gr : Nat → Bool} {nc : Nat → Nat → Nat} (h : Tbl t S C cl gr nc) {i c m : Nat} (hi : i < S) (hc : c < C) (hm : i * C = m) (hl : 258 + S + m + c < t.size) : (t[258 + S + m + c]'hl).toNat = nc i c := by
  subst hm; exact h.an i c hi hc hl
theorem Tbl.lt3 {t : ByteArray} {S C : Nat} {cl : Nat → Nat} {gr : Nat → Bool} {nc : Nat → Nat → Nat} (h : Tbl t S C cl gr nc) {i c m : Nat} (hi : i < S) (hc : c < C) (hm : i * C = m) : 258 + S + m + c < t.size := by
  subst hm; exact h.lt2 hi hc
theorem mul_small {i C m S : Nat} (hm : i * C = m) (hi : i < S) (hS : S ≤ 24) (hC : C ≤ 24) : IntKind.i64.wrap ((i : Int) * (C : Int)) = (m : Int) ∧ (i : Int) * (C : Int) = (m : Int) ∧ m ≤ 576 := by
  have hm1 : i * C ≤ 24 * 24 := Nat.mul_le_mul (by omega) hC
  refine ⟨?_, by rw [← hm, Int.natCast_mul], by omega⟩
  rw [← Int.natCast_mul, hm]; exact wrap_i64 m (by unfold top; omega)

set_option maxRecDepth 20000 in
set_option maxHeartbeats 1000000 in
theorem tnext_any (w : World) (t : ByteArray) (S C : Nat) (cl : Nat → Nat) (gr : Nat → Bool) (nc : Nat → Nat → Nat) (h : Tbl t S C cl gr nc) (i b : Nat) (hi : i < S) (hb : b < 256) :
    Calls Try.prog 40 #[.string t, .int .i64 (i : Int), .int .i64 (b : Int)] w fun e w' => e = .returned (.int .i64 ((nc i (cl b) : Nat) : Int)) ∧ w' = w := by
  have hsz := h.size
  have h24 := h.s24
  have hc := h.cl_lt b hb
  obtain ⟨m, hm⟩ : ∃ m, i * C = m := ⟨_, rfl⟩
  have hl := h.lt3 hi hc hm
  have l0 : 0 < t.size := by omega
  have l1 : 1 < t.size := by omega
  have l2 : 2 + b < t.size := by omega
  have e0 := h.a0
  have e1 := h.a1
  have e2 := h.ac b hb
  have e3 := fun hl => h.an' hi hc hm hl
  have hr := h.nc_lt i (cl b) hi hc
  have hc24 := h.c24
  have hM := h.mul_le
  obtain ⟨hw, hmI, hm1⟩ := mul_small hm hi h.s24 h.c24
  generalize nc i (cl b) = r at *
  generalize cl b = c at *
  have k0 : (0 : Int) < (t.size : Int) := by omega
  have k1 : (1 : Int) < (t.size : Int) := by omega
  have k2 : (2 : Int) + (b : Int) < (t.size : Int) := by omega
  have k3 : (258 : Int) + (S : Int) + (m : Int) + (c : Int) < (t.size : Int) := by omega
  have k4 : (t.size : Int) ≤ 1000 := by omega
  have k5 : (S : Int) ≤ 24 := by omega
  have k6 : (C : Int) ≤ 24 := by omega
  have k7 : (m : Int) ≤ 576 := by omega
  have k8 : (c : Int) ≤ 24 := by omega
  have k9 : (b : Int) < 256 := by omega
  have k10 : (r : Int) ≤ 24 := by omega
  clear hr
  clear h hsz h24 hc hm hM hm1 hi hb hc24 hl l0 l1 l2
  go_enter Try.func40, Try.ntmps40
  go_wp2
  go_ret
  exact ⟨rfl, rfl⟩

theorem dRun_snoc (nx : Nat → Nat → Nat) (u : List Nat) (b i : Nat) : dRun nx i (u ++ [b]) = nx (dRun nx i u) b := by rw [dRun_append]; rfl
theorem bytesN_take (s : ByteArray) {k : Nat} (h : k < s.size) : (bytesN s).take (k + 1) = (bytesN s).take k ++ [s[k].toNat] := by
  have h2 : k < (bytesN s).length := by rw [bytesN_len]; exact h
  rw [List.take_add_one, List.getElem?_eq_getElem h2, bytesN_at s k h h2]; rfl
theorem Tbl.lt4 {t : ByteArray} {S C : Nat} {cl : Nat → Nat} {gr : Nat → Bool} {nc : Nat → Nat → Nat} (h : Tbl t S C cl gr nc) {i : Nat} (hi : i < S) : 258 + i < t.size := by
  rw [h.size]; omega

set_option maxRecDepth 20000 in
set_option maxHeartbeats 1000000 in
theorem tgranted_any (w : World) (t s : ByteArray) (S C : Nat) (cl : Nat → Nat) (gr : Nat → Bool) (nc nx : Nat → Nat → Nat) (h : Tbl t S C cl gr nc) (hnx : ∀ i b, i < S → b < 256 → nc i (cl b) = nx i b) (hs : s.size ≤ 16) :
    Calls Try.prog 18 #[.string t, .string s] w fun e w' => e = .returned (.bool (gr (dRun nx 0 (bytesN s)))) ∧ w' = w := by
  have H := hide h
  have HNX := hide hnx
  have hsI : (s.size : Int) ≤ 16 := by omega
  have HS := hide hs
  clear h hnx hs
  go_enter Try.func18, Try.ntmps18
  go_wp2_with fail
  go_loopw [5, 6] (fun kx ix wr => ∃ k i : Nat, kx = .int .i64 (k : Int) ∧ ix = .int .i64 (i : Int) ∧ Hid (i ≤ s.size ∧ k < S ∧ k = dRun nx 0 ((bytesN s).take i)) ∧ wr = w) (fun _ ix _ => s.size - (intOf ix).toNat)
  case atStart => exact ⟨0, 0, rfl, rfl, ⟨Nat.zero_le _, (unhide H).s1, rfl⟩, rfl⟩
  case round =>
    rename World => wr
    obtain ⟨k, i, rfl, rfl, HH, hwr⟩ := hrel
    obtain rfl : w = wr := hwr.symm
    clear hwr
    obtain ⟨hi, hk, he⟩ := unhide HH
    by_cases hlt : i < s.size
    · have hltI : (i : Int) < (s.size : Int) := by omega
      have HLT := hide hlt
      have hbt : s[i].toNat < 256 := s[i].toNat_lt
      have HC := hide (tnext_any w t S C cl gr nc (unhide H) k s[i].toNat hk hbt)
      have hx := unhide HNX k _ hk hbt
      have HSN : Hid (i + 1 ≤ s.size ∧ nc k (cl s[i].toNat) < S ∧ nc k (cl s[i].toNat) = dRun nx 0 ((bytesN s).take (i + 1))) := by
        refine ⟨hlt, (unhide H).nc_lt k _ hk ((unhide H).cl_lt _ hbt), ?_⟩
        rw [hx, bytesN_take s hlt, dRun_snoc, ← he]; rfl
      generalize nc k (cl s[i].toNat) = r at *
      have hbI : (s[i].toNat : Int) < 256 := by omega
      clear hi hk he HH hx hbt
      go_wp2_with fail
      refine (unhide HC).mono ?_
      rintro e w1 ⟨rfl, hww⟩
      obtain rfl : w = w1 := hww.symm
      clear hww
      go_wp2_with fail
      go_roundw
      case rel => exact ⟨r, i + 1, rfl, by go_num, unhide HSN, by first | rfl | trivial⟩
      case measure => have := unhide HLT; simp [intOf]; omega
    · have hi2 : i = s.size := by omega
      subst hi2
      have e4 := (unhide H).ag k hk
      have HE : Hid (k = dRun nx 0 (bytesN s)) := by
        rw [he]
        rw [← bytesN_len, List.take_length]; exact rfl
      have hl4 := (unhide H).lt4 hk
      have k4 : (258 : Int) + (k : Int) < (t.size : Int) := by omega
      have k5 : (k : Int) ≤ 24 := by have := (unhide H).s24; omega
      clear hi hk he HH hlt hl4
      cases hg : gr k
      · rw [hg] at e4
        have e5 : ∀ h, (t[258 + k]'h).toNat = 0 := e4
        have HG : Hid (gr (dRun nx 0 (bytesN s)) = false) := by rw [← unhide HE]; exact hg
        clear e4 hg HE
        go_wp2_with fail
        go_ret
        exact ⟨by rw [unhide HG]; rfl, rfl⟩
      · rw [hg] at e4
        have e5 : ∀ h, (t[258 + k]'h).toNat = 1 := e4
        have HG : Hid (gr (dRun nx 0 (bytesN s)) = true) := by rw [← unhide HE]; exact hg
        clear e4 hg HE
        go_wp2_with fail
        go_ret
        exact ⟨by rw [unhide HG]; rfl, rfl⟩

end Go.Proofs.Ytohefinejdfhaab
namespace Go.Proofs.Ytohefinejdfhaab
open Go.RowKit

section zones
variable {t : ByteArray} {S C : Nat} {cl : Nat → Nat} {gr : Nat → Bool} {nc : Nat → Nat → Nat}
theorem Tbl.zone1 (h : Tbl t S C cl gr nc) {i : Nat} (h1 : 2 ≤ i) (h2 : i < 258) : ∃ x, x < C ∧ ∀ hl : i < t.size, (t[i]'hl).toNat = x := by
  obtain ⟨b, rfl⟩ : ∃ b, i = 2 + b := ⟨i - 2, by omega⟩
  exact ⟨cl b, h.cl_lt b (by omega), h.ac b (by omega)⟩
theorem Tbl.zone2 (h : Tbl t S C cl gr nc) {i : Nat} (h1 : 258 ≤ i) (h2 : i < 258 + S) : ∃ x, x < 2 ∧ ∀ hl : i < t.size, (t[i]'hl).toNat = x := by
  obtain ⟨b, rfl⟩ : ∃ b, i = 258 + b := ⟨i - 258, by omega⟩
  exact ⟨bitN (gr b), by unfold bitN; split <;> omega, h.ag b (by omega)⟩
theorem Tbl.zone3 (h : Tbl t S C cl gr nc) {i : Nat} (h1 : 258 + S ≤ i) (h2 : i < t.size) : ∃ x, x < S ∧ ∀ hl : i < t.size, (t[i]'hl).toNat = x := by
  have hs := h.size
  have hc := h.c1
  obtain ⟨j, rfl⟩ : ∃ j, i = 258 + S + j := ⟨i - (258 + S), by omega⟩
  have hj : j < S * C := by omega
  have e : j / C * C + j % C = j := by rw [Nat.mul_comm]; exact Nat.div_add_mod _ _
  have hlt : j % C < C := Nat.mod_lt _ (by omega)
  have hdv : j / C < S := by rw [Nat.div_lt_iff_lt_mul (by omega)]; exact hj
  refine ⟨nc (j / C) (j % C), h.nc_lt _ _ hdv hlt, ?_⟩
  have e2 : 258 + S + j / C * C + j % C = 258 + S + j := by omega
  have := h.an (j / C) (j % C) hdv hlt
  intro hl
  rw [← this (by omega)]
  congr 2
  exact e2.symm
end zones

set_option maxRecDepth 20000 in
set_option maxHeartbeats 2000000 in
theorem ttable_any (w : World) (t : ByteArray) (S C : Nat) (cl : Nat → Nat) (gr : Nat → Bool) (nc : Nat → Nat → Nat) (h : Tbl t S C cl gr nc) :
    Calls Try.prog 17 #[.string t] w fun e w' => e = .returned (.bool true) ∧ w' = w := by
  have H := hide h
  have hsz := h.size
  have s1 := h.s1
  have s24 := h.s24
  have c1 := h.c1
  have c24 := h.c24
  have hM := h.mul_le
  have hge : C ≤ S * C := by
    have := Nat.mul_le_mul_right C s1
    omega
  obtain ⟨m, hm⟩ : ∃ m, S * C = m := ⟨_, rfl⟩
  rw [hm] at hsz hM hge
  have hw : IntKind.i64.wrap ((S : Int) * (C : Int)) = (m : Int) := by
    rw [← Int.natCast_mul, hm]; exact wrap_i64 m (by unfold top; omega)
  have hmI : (S : Int) * (C : Int) = (m : Int) := by rw [← hm, Int.natCast_mul]
  have e0 := h.a0
  have e1 := h.a1
  have k0 : (0 : Int) < (t.size : Int) := by omega
  have k1 : (1 : Int) < (t.size : Int) := by omega
  have k2 : (260 : Int) ≤ (t.size : Int) := by omega
  have k3 : (t.size : Int) = 258 + (S : Int) + (m : Int) := by omega
  have k4 : (1 : Int) ≤ (S : Int) := by omega
  have k5 : (S : Int) ≤ 24 := by omega
  have k6 : (1 : Int) ≤ (C : Int) := by omega
  have k7 : (C : Int) ≤ 24 := by omega
  have k8 : (m : Int) ≤ 576 := by omega
  have HSZ := hide hsz
  clear h hsz s1 s24 c1 c24 hM hge hm
  go_enter Try.func17, Try.ntmps17
  go_wp2_with fail
  clear e0 e1 hw hmI
  go_loopw [5] (fun ix wr => ∃ i : Nat, ix = .int .i64 (i : Int) ∧ Hid (2 ≤ i ∧ i ≤ t.size) ∧ wr = w) (fun ix _ => t.size - (intOf ix).toNat)
  case atStart => exact ⟨2, rfl, ⟨Nat.le_refl _, by omega⟩, rfl⟩
  case round =>
    rename World => wr
    obtain ⟨i, rfl, HH, hwr⟩ := hrel
    obtain rfl : w = wr := hwr.symm
    clear hwr
    obtain ⟨hi1, hi2⟩ := unhide HH
    by_cases hlt : i < t.size
    · have HLT := hide hlt
      have hltI : (i : Int) < (t.size : Int) := by omega
      have HN : Hid (2 ≤ i + 1 ∧ i + 1 ≤ t.size) := ⟨by omega, hlt⟩
      by_cases z1 : i < 258
      · obtain ⟨x, hx, ex⟩ := (unhide H).zone1 hi1 z1
        have z1I : (i : Int) < 258 := by omega
        have hxI : (x : Int) < (C : Int) := by omega
        have hx24 : (x : Int) < 24 := by omega
        clear hi1 hi2 HH hlt z1 hx
        go_wp2_with fail
        go_roundw
        case rel => exact ⟨i + 1, by go_num, unhide HN, by first | rfl | trivial⟩
        case measure => have := unhide HLT; simp [intOf]; omega
      · have z1I : (258 : Int) ≤ (i : Int) := by omega
        by_cases z2 : i < 258 + S
        · obtain ⟨x, hx, ex⟩ := (unhide H).zone2 (by omega) z2
          have z2I : (i : Int) < 258 + (S : Int) := by omega
          have hxI : (x : Int) < 2 := by omega
          clear hi1 hi2 HH hlt z1 hx z2
          go_wp2_with fail
          go_roundw
          case rel => exact ⟨i + 1, by go_num, unhide HN, by first | rfl | trivial⟩
          case measure => have := unhide HLT; simp [intOf]; omega
        · obtain ⟨x, hx, ex⟩ := (unhide H).zone3 (by omega) hlt
          have z2I : 258 + (S : Int) ≤ (i : Int) := by omega
          have hxI : (x : Int) < (S : Int) := by omega
          have hx24 : (x : Int) < 24 := by omega
          clear hi1 hi2 HH hlt z1 hx z2
          go_wp2_with fail
          go_roundw
          case rel => exact ⟨i + 1, by go_num, unhide HN, by first | rfl | trivial⟩
          case measure => have := unhide HLT; simp [intOf]; omega
    · have hi3 : i = t.size := by omega
      subst hi3
      clear hi1 hi2 HH hlt
      go_wp2_with fail
      go_ret
      exact ⟨rfl, rfl⟩

end Go.Proofs.Ytohefinejdfhaab
namespace Go.Proofs.Ytohefinejdfhaab
open Go.RowKit

/-- The states met by the pairs before (i, b). -/
structure OrdI (S : Nat) (nx : Nat → Nat → Nat) (i b n : Nat) : Prop where
  lo : 1 ≤ n
  hi : n ≤ S
  old : ∀ i' b', b' < 256 → i' < i → nx i' b' < n
  cur : ∀ b', b' < b → nx i b' < n
section ord
variable {L : List Nat → Prop} {S : Nat} {nx : Nat → Nat → Nat} {gr : Nat → Bool} {i b n : Nat}
theorem OrdI.start (h : MinDfa L S nx gr) : OrdI S nx 0 0 1 := ⟨Nat.le_refl _, h.pos, fun _ _ _ h => absurd h (Nat.not_lt_zero _), fun _ h => absurd h (Nat.not_lt_zero _)⟩
theorem OrdI.le (h : MinDfa L S nx gr) (o : OrdI S nx i b n) (hi : i < n) (hb : b < 256) : nx i b ≤ n := by
  refine Nat.le_of_not_lt fun hlt => ?_
  have hlo := o.lo
  have hS := h.lt i b (Nat.lt_of_lt_of_le hi o.hi) hb
  obtain ⟨i0, b0, h1, h2, h3, h4, h5⟩ := h.bfs n (by omega) (by omega)
  rcases Nat.lt_trichotomy i0 i with g | g | g
  · have := o.old i0 b0 h2 g; omega
  · subst g
    rcases Nat.lt_trichotomy b0 b with g | g | g
    · have := o.cur b0 g; omega
    · subst g; omega
    · have := h5 b g; omega
  · have := h4 i b hb g; omega
theorem OrdI.same (o : OrdI S nx i b n) (hlt : nx i b < n) : OrdI S nx i (b + 1) n :=
  ⟨o.lo, o.hi, o.old, fun b' hb' => by
    by_cases e : b' = b
    · subst e; exact hlt
    · exact o.cur b' (by omega)⟩
theorem OrdI.more (h : MinDfa L S nx gr) (o : OrdI S nx i b n) (hi : i < n) (hb : b < 256) (he : nx i b = n) : OrdI S nx i (b + 1) (n + 1) := by
  have hS := h.lt i b (Nat.lt_of_lt_of_le hi o.hi) hb
  refine ⟨by omega, by omega, fun i' b' g1 g2 => Nat.lt_succ_of_lt (o.old i' b' g1 g2), fun b' hb' => ?_⟩
  by_cases e : b' = b
  · subst e; omega
  · exact Nat.lt_succ_of_lt (o.cur b' (by omega))
theorem OrdI.row (o : OrdI S nx i 256 n) : OrdI S nx (i + 1) 0 n :=
  ⟨o.lo, o.hi, fun i' b' g1 g2 => by
    by_cases e : i' = i
    · subst e; exact o.cur b' g1
    · exact o.old i' b' g1 (by omega), fun _ h => absurd h (Nat.not_lt_zero _)⟩
theorem OrdI.all (h : MinDfa L S nx gr) (o : OrdI S nx n 0 n) : n = S := by
  have hlo := o.lo
  have hhi := o.hi
  refine Nat.le_antisymm hhi (Nat.le_of_not_lt fun hlt => ?_)
  obtain ⟨i0, b0, h1, h2, h3, _⟩ := h.bfs n (by omega) hlt
  have := o.old i0 b0 h2 h1
  omega
end ord
structure ClsI (C : Nat) (cl : Nat → Nat) (b c : Nat) : Prop where
  hi : c ≤ C
  old : ∀ b', b' < b → cl b' < c
section cls
variable {S C : Nat} {nx : Nat → Nat → Nat} {cl : Nat → Nat} {b c : Nat}
theorem ClsI.le (h : Cols S nx C cl) (o : ClsI C cl b c) (hb : b < 256) : cl b ≤ c := by
  refine Nat.le_of_not_lt fun hlt => ?_
  obtain ⟨b', h1, h2⟩ := h.grow b hb c hlt
  have := o.old b' h1
  omega
theorem ClsI.same (o : ClsI C cl b c) (hlt : cl b < c) : ClsI C cl (b + 1) c := ⟨o.hi, fun b' hb' => by
  by_cases e : b' = b
  · subst e; exact hlt
  · exact o.old b' (by omega)⟩
theorem ClsI.more (h : Cols S nx C cl) (o : ClsI C cl b c) (hb : b < 256) (he : cl b = c) : ClsI C cl (b + 1) (c + 1) := ⟨by have := h.lt b hb; omega, fun b' hb' => by
  by_cases e : b' = b
  · subst e; omega
  · exact Nat.lt_succ_of_lt (o.old b' (by omega))⟩
theorem ClsI.all (h : Cols S nx C cl) (o : ClsI C cl 256 c) : c = C := by
  refine Nat.le_antisymm o.hi (Nat.le_of_not_lt fun hlt => ?_)
  obtain ⟨b, hb, e⟩ := h.all c hlt
  have := o.old b hb
  omega
end cls

set_option maxRecDepth 20000 in
set_option maxHeartbeats 2000000 in
theorem tordered_any (w : World) (t : ByteArray) (L : List Nat → Prop) (S C : Nat) (nx : Nat → Nat → Nat) (gr : Nat → Bool) (cl : Nat → Nat) (nc : Nat → Nat → Nat) (ht : TabOf L S C nx gr cl nc) (h : Tbl t S C cl gr nc) :
    Calls Try.prog 19 #[.string t] w fun e w' => e = .returned (.bool true) ∧ w' = w := by
  have H := hide h
  have HT := hide ht
  have hsz := h.size
  have s24 := h.s24
  have c24 := h.c24
  have k0 : (0 : Int) < (t.size : Int) := by omega
  have k1 : (1 : Int) < (t.size : Int) := by omega
  have k3 : (258 : Int) ≤ (t.size : Int) := by omega
  have k5 : (S : Int) ≤ 24 := by omega
  have k7 : (C : Int) ≤ 24 := by omega
  have HS := hide s24
  have HNX : Hid (∀ i b : Nat, i < S → b < 256 → Calls Try.prog 40 #[.string t, .int .i64 (i : Int), .int .i64 (b : Int)] w fun e w' => e = .returned (.int .i64 ((nx i b : Nat) : Int)) ∧ w' = w) := fun i b hi hb => by
    rw [← ht.nc i b hi hb]; exact tnext_any w t S C cl gr nc h i b hi hb
  clear h ht hsz s24 c24
  go_enter Try.func19, Try.ntmps19
  go_wp2_with fail
  go_loopw [3, 4] (fun nv ix wr => ∃ n i : Nat, nv = .int .i64 (n : Int) ∧ ix = .int .i64 (i : Int) ∧ Hid (i ≤ n ∧ OrdI S nx i 0 n) ∧ wr = w) (fun _ ix _ => S - (intOf ix).toNat)
  case atStart => exact ⟨1, 0, rfl, rfl, ⟨by omega, OrdI.start (unhide HT).dfa⟩, rfl⟩
  case round =>
    rename World => wr
    obtain ⟨n, i, rfl, rfl, HH, hwr⟩ := hrel
    obtain rfl : w = wr := hwr.symm
    clear hwr
    obtain ⟨hin, hO⟩ := unhide HH
    have hnS := hO.hi
    have HO := hide hO
    by_cases hlt : i < n
    · have hltI : (i : Int) < (n : Int) := by omega
      have hnI : (n : Int) ≤ 24 := by have := unhide HS; omega
      have HLT := hide hlt
      have HIS : Hid (i < S) := Nat.lt_of_lt_of_le hlt hnS
      have hiI : (i : Int) < 24 := by have := unhide HS; omega
      clear HH hin hO hnS hlt
      go_wp2_with fail
      go_loopw [3, 5] (fun nv bx wx => ∃ n2 b : Nat, nv = .int .i64 (n2 : Int) ∧ bx = .int .i64 (b : Int) ∧ Hid (b ≤ 256 ∧ i < n2 ∧ OrdI S nx i b n2) ∧ wx = w) (fun _ bx _ => left256 bx)
      case atStart => exact ⟨n, 0, rfl, rfl, ⟨Nat.zero_le _, unhide HLT, unhide HO⟩, rfl⟩
      case round =>
        clear HO HLT hltI hnI
        rename World => wx
        obtain ⟨n2, b, rfl, rfl, HH, hwx⟩ := hrel
        obtain rfl : w = wx := hwx.symm
        clear hwx
        obtain ⟨hb, hi2, hO⟩ := unhide HH
        have hnI : (n2 : Int) ≤ 24 := by have := unhide HS; have := hO.hi; omega
        by_cases hlt : b < 256
        · have hbI : (b : Int) < 256 := by omega
          have HBL := hide hlt
          have HC := hide (unhide HNX i b (unhide HIS) hlt)
          have hle := hO.le (unhide HT).dfa hi2 hlt
          have HI2 := hide hi2
          by_cases he : nx i b = n2
          · have HN := hide (hO.more (unhide HT).dfa hi2 hlt he)
            rw [he] at HC
            clear HH hb hi2 hO hlt hle he
            go_wp2_with fail
            refine (unhide HC).mono ?_
            rintro e w1 ⟨rfl, hww⟩
            obtain rfl : w = w1 := hww.symm
            clear hww
            go_wp2_with fail
            go_roundw
            case rel => exact ⟨n2 + 1, b + 1, by go_num, by go_num, ⟨unhide HBL, Nat.lt_succ_of_lt (unhide HI2), unhide HN⟩, by first | rfl | trivial⟩
            case measure => have := unhide HBL; simp [left256, intOf]; omega
          · have hl2 : nx i b < n2 := by omega
            have HN := hide (hO.same hl2)
            generalize nx i b = k at *
            have hkI : (k : Int) < (n2 : Int) := by omega
            clear HH hb hi2 hO hlt hle he hl2
            go_wp2_with fail
            refine (unhide HC).mono ?_
            rintro e w1 ⟨rfl, hww⟩
            obtain rfl : w = w1 := hww.symm
            clear hww
            go_wp2_with fail
            go_roundw
            case rel => exact ⟨n2, b + 1, rfl, by go_num, ⟨unhide HBL, unhide HI2, unhide HN⟩, by first | rfl | trivial⟩
            case measure => have := unhide HBL; simp [left256, intOf]; omega
        · have hb2 : b = 256 := by omega
          subst hb2
          have HN := hide hO.row
          have HI2 := hide hi2
          have HI3 : Hid (i < S) := Nat.lt_of_lt_of_le hi2 hO.hi
          clear HH hb hi2 hO hlt
          go_wp2_with fail
          go_roundw
          case rel => exact ⟨n2, i + 1, rfl, by go_num, ⟨unhide HI2, unhide HN⟩, by first | rfl | trivial⟩
          case measure => have := unhide HI3; simp [intOf]; omega
    · have hi2 : i = n := by omega
      subst hi2
      have hnS2 := hO.all (unhide HT).dfa
      subst hnS2
      have e0 := (unhide H).a0
      have e1 := (unhide H).a1
      clear HH hin hO hnS hlt HNX HO
      go_wp2_with fail
      go_loopw [7, 8] (fun cv bx wx => ∃ c b : Nat, cv = .int .i64 (c : Int) ∧ bx = .int .i64 (b : Int) ∧ Hid (b ≤ 256 ∧ ClsI C cl b c) ∧ wx = w) (fun _ bx _ => left256 bx)
      case atStart => exact ⟨0, 0, rfl, rfl, ⟨Nat.zero_le _, Nat.zero_le _, fun _ h => absurd h (Nat.not_lt_zero _)⟩, rfl⟩
      case round =>
        rename World => wx
        obtain ⟨c, b, rfl, rfl, HH, hwx⟩ := hrel
        obtain rfl : w = wx := hwx.symm
        clear hwx
        obtain ⟨hb, hO⟩ := unhide HH
        have hcC := hO.hi
        have hcI : (c : Int) ≤ 24 := by have := (unhide H).c24; omega
        by_cases hlt : b < 256
        · have hbI : (b : Int) < 256 := by omega
          have HBL := hide hlt
          have e2 := (unhide H).ac b hlt
          have k2 : (2 : Int) + (b : Int) < (t.size : Int) := by omega
          have hle := hO.le (unhide HT).cols hlt
          by_cases he : cl b = c
          · have HN := hide (hO.more (unhide HT).cols hlt he)
            rw [he] at e2
            clear HH hb hO hlt hle he hcC
            go_wp2_with fail
            go_roundw
            case rel => exact ⟨c + 1, b + 1, by go_num, by go_num, ⟨unhide HBL, unhide HN⟩, by first | rfl | trivial⟩
            case measure => have := unhide HBL; simp [left256, intOf]; omega
          · have hl2 : cl b < c := by omega
            have HN := hide (hO.same hl2)
            generalize cl b = k at *
            have hkI : (k : Int) < (c : Int) := by omega
            clear HH hb hO hlt hle he hl2 hcC
            go_wp2_with fail
            go_roundw
            case rel => exact ⟨c, b + 1, rfl, by go_num, ⟨unhide HBL, unhide HN⟩, by first | rfl | trivial⟩
            case measure => have := unhide HBL; simp [left256, intOf]; omega
        · have hb2 : b = 256 := by omega
          subst hb2
          have hC2 := hO.all (unhide HT).cols
          subst hC2
          clear HH hb hO hlt hcC
          go_wp2_with fail
          go_ret
          exact ⟨by first | rfl | (simp; done), rfl⟩

end Go.Proofs.Ytohefinejdfhaab
