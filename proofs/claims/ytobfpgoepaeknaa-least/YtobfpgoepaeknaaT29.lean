/-
  veil.Table: the table of a pattern, or its error.
  A table as a string: its bytes; veilkeep.next, veilkeep.granted.
-/
import Derived.Test.YtobfpgoepaeknaaT28
import Derived.Test.YtobfpgoepaeknaaVp
namespace Go.Proofs.Ytobfpgoepaeknaa
open Go.RowKit
attribute [local go_sem ↓] Go.wp_at_zero Go.wp_at_succ zvT
attribute [local go_sem] zcT_size zcT_ne cells_agg

theorem TabOf.bytes {L : List Nat → Prop} {S C : Nat} {nx : Nat → Nat → Nat} {gr : Nat → Bool} {cl : Nat → Nat} {nc : Nat → Nat → Nat} (_h : TabOf L S C nx gr cl nc) :
    bytesT ((List.range S).map gr).length C cl ((List.range S).map gr) ((List.range S).flatMap (fun i => (List.range C).map (nc i))) = layTab S C cl gr nc := by
  unfold bytesT layTab
  rw [List.length_map, List.length_range, List.map_map]
  rfl
theorem TabOf.nc_lt {L : List Nat → Prop} {S C : Nat} {nx : Nat → Nat → Nat} {gr : Nat → Bool} {cl : Nat → Nat} {nc : Nat → Nat → Nat} (h : TabOf L S C nx gr cl nc) {i c : Nat} (hi : i < S) (hc : c < C) : nc i c < S := by
  obtain ⟨b, hb, rfl⟩ := h.cols.all c hc
  rw [h.nc i b hi hb]; exact h.dfa.lt i b hi hb
theorem TabOf.ns_lt {L : List Nat → Prop} {S C : Nat} {nx : Nat → Nat → Nat} {gr : Nat → Bool} {cl : Nat → Nat} {nc : Nat → Nat → Nat} (h : TabOf L S C nx gr cl nc) : ∀ x ∈ (List.range S).flatMap (fun i => (List.range C).map (nc i)), x < 256 := fun x hx => by
  obtain ⟨i, hi, hx⟩ := List.mem_flatMap.1 hx
  obtain ⟨c, hc, rfl⟩ := List.mem_map.1 hx
  have := h.nc_lt (List.mem_range.1 hi) (List.mem_range.1 hc)
  have := h.sle
  omega

/-- What Table gives for a text that is a pattern. -/
def TblOk (e : Ending) (L : List Nat → Prop) : Prop := (∃ S C nx gr cl nc, e = .returned (.tuple #[.string (strN (layTab S C cl gr nc)), .int .i64 0]) ∧ TabOf L S C nx gr cl nc) ∨ (e = .returned (.tuple #[.string ⟨#[]⟩, .int .i64 3]) ∧ (ManyStates L ∨ ManyClasses L))

set_option maxRecDepth 20000 in
set_option maxHeartbeats 2000000 in
theorem VTable_any (w : World) (p : ByteArray) (hp : p.size ≤ 60) :
    Calls Try.prog 20 #[.string p] w fun e w' => Below w.heap.size w w' ∧ ∃ y i, Rds p 0 0 x0 (y, i) ∧ ((readErr p y).1 ≠ 0 → e = .returned (.tuple #[.string ⟨#[]⟩, .int .i64 (readErr p y).1])) ∧
      ((readErr p y).1 = 0 → ∃ R n rs k S, R.wt ≤ 12 ∧ Dn y.ns y.fs R ((y.ns.length : Int) - 1) ∧ rfF n 0 p 0 0 [] = some (rs, k) ∧ Dr rs S k ∧ R.L = S.L ∧ TblOk e R.L) := by
  have HR := hide (OfPattern_any w p hp)
  clear hp
  go_enter Try.func20, Try.ntmps20
  go_wp2_with fail
  refine (unhide HR).mono ?_
  rintro e w1 ⟨hw1, y, i, hr, hbad, hgood⟩
  clear HR
  have HD := hide hr
  by_cases h0 : (readErr p y).1 = 0
  · obtain ⟨R, n, rs, k, S, f1, f2, f3, f4, f5, hof⟩ := hgood h0
    have HF : Hid (∀ e, TblOk e R.L → ∃ R n rs k S, R.wt ≤ 12 ∧ Dn y.ns y.fs R ((y.ns.length : Int) - 1) ∧ rfF n 0 p 0 0 [] = some (rs, k) ∧ Dr rs S k ∧ R.L = S.L ∧ TblOk e R.L) := fun e he => ⟨R, n, rs, k, S, f1, f2, f3, f4, f5, he⟩
    have H0 := hide h0
    clear hbad hgood f1 f2 f3 f4 f5 hr
    rcases hof with ⟨v, rfl, S', C, nx, gr, cl, nc, gv, nv, rfl, r1, r2, htab⟩ | ⟨rfl, hmany⟩
    · have hb2 : ∀ o, Below w1.heap.size w1 (w1.alloc o) := fun o => (Below.refl _ _).alloc (Nat.le_refl _) _
      have HTB : Hid (∀ o, o = Obj.cells (tabA cl C gv nv) 68 → TabB (w1.alloc o) w1.heap.size cl C ((List.range S').map gr) ((List.range S').flatMap (fun i => (List.range C).map (nc i)))) := fun o ho => by
        subst ho
        exact ⟨gv, nv, heap_alloc_new _ _, (BRow.below r1 (hb2 _)).zero', (r2.below (hb2 _)).zero⟩
      have hby := htab.bytes
      have HBY : Hid (∀ o, o = Obj.cells (tabA cl C gv nv) 68 → Calls Try.prog 34 #[.pointer (some ⟨w1.heap.size, 0, none⟩)] (w1.alloc o) fun e w' => e = .returned (.string (strN (layTab S' C cl gr nc))) ∧ Below (w1.alloc o).heap.size (w1.alloc o) w') := fun o ho => by
        have := TBytes_any (w1.alloc o) w1.heap.size cl C _ _ (unhide HTB o ho) htab.cle (by rw [List.length_map, List.length_range]; exact htab.sle) (fun b hb => by have := htab.cols.lt b hb; have := htab.cle; omega) htab.ns_lt (by
          rw [flat_len]
          have := Nat.mul_le_mul htab.sle htab.cle
          omega)
        rw [hby] at this
        exact this
      have HT := hide htab
      have HB2 := hide (fun o => below_then hw1 o)
      obtain ⟨bs, hbs⟩ : ∃ bs, bs = (List.range S').map gr := ⟨_, rfl⟩
      obtain ⟨ns, hns⟩ : ∃ ns, ns = (List.range S').flatMap (fun i => (List.range C).map (nc i)) := ⟨_, rfl⟩
      rw [← hbs] at r1
      rw [← hns] at r2
      obtain ⟨ga, gc, rfl⟩ := r1.form
      obtain ⟨na, nc', rfl⟩ := r2.form
      have HBY2 := hide (unhide HBY _ rfl)
      have HB3 := hide (unhide HB2 (Obj.cells (tabA cl C (.slice ga bs.length gc) (.slice na ns.length nc')) 68))
      clear hw1 r1 r2 htab hby hb2 hbs hns HTB HBY HB2
      go_wp2_with (refine wpList_store_row0 rfl 68 _ _ rfl rfl w1.heap.size _ rfl rfl 68 _ (heap_alloc_new _ _) (by rw [tabA_size]; kernel_rfl) (by rw [tabA_size, zcT_size]) (tabA_one _ _ _ _ _ _ _ _) ?_; rw [setRow_alloc])
      refine (unhide HBY2).mono ?_
      rintro e w4 ⟨rfl, hw4⟩
      have HB4 := hide ((unhide HB3).trans (hw4.mono (unhide HB3).size))
      clear hw4
      go_wp2_with fail
      go_ret2
      exact ⟨unhide HB4, y, i, unhide HD, fun h => absurd (unhide H0) h, fun _ => unhide HF _ (.inl ⟨_, _, _, _, _, _, rfl, unhide HT⟩)⟩
    · have HMANY := hide hmany
      have HB2 := hide (fun o => below_then hw1 o)
      clear hw1 hmany
      go_wp2_with (refine wpList_store_row0 rfl 68 _ _ rfl rfl w1.heap.size _ rfl rfl 68 _ (heap_alloc_new _ _) (by rw [zcT_size]; kernel_rfl) (by rw [zcT_size]) (tabA_one _ _ _ _ _ _ _ _) ?_; rw [setRow_alloc])
      go_ret2
      exact ⟨unhide HB2 _, y, i, unhide HD, fun h => absurd (unhide H0) h, fun _ => unhide HF _ (.inr ⟨rfl, unhide HMANY⟩)⟩
  · have hb := hbad h0
    subst hb
    have HRE : Hid (∃ r, r = (readErr p y).1 ∧ r ≠ 0) := ⟨_, rfl, h0⟩
    have HB2 := hide (fun o => below_then hw1 o)
    clear hbad hgood hr h0 hw1
    obtain ⟨r, hr, hr0⟩ := unhide HRE
    rw [← hr]
    have HR := hide hr
    have hr0' : ¬ r = 0 := hr0
    clear HRE hr hr0
    go_wp2_with (refine wpList_store_row0 rfl 68 _ _ rfl rfl w1.heap.size _ rfl rfl 68 _ (heap_alloc_new _ _) (by rw [zcT_size]; kernel_rfl) (by rw [zcT_size]) (tabA_one _ _ _ _ _ _ _ _) ?_; rw [setRow_alloc])
    go_ret2
    exact ⟨unhide HB2 _, y, i, unhide HD, fun _ => by rw [← unhide HR]; rfl, fun h => absurd (by rw [← unhide HR] at h; exact h) hr0'⟩

end Go.Proofs.Ytobfpgoepaeknaa
namespace Go.Proofs.Ytobfpgoepaeknaa
open Go.RowKit

/-- The bytes of a table, as a string. -/
structure Tbl (t : ByteArray) (S C : Nat) (cl : Nat → Nat) (gr : Nat → Bool) (nc : Nat → Nat → Nat) : Prop where
  size : t.size = 258 + S + S * C
  s1 : 1 ≤ S
  s24 : S ≤ 24
  c1 : 1 ≤ C
  c24 : C ≤ 24
  cl_lt : ∀ b, b < 256 → cl b < C
  nc_lt : ∀ i c, i < S → c < C → nc i c < S
  a0 : ∀ h : 0 < t.size, (t[0]'h).toNat = S
  a1 : ∀ h : 1 < t.size, (t[1]'h).toNat = C
  ac : ∀ b, b < 256 → ∀ h : 2 + b < t.size, (t[2 + b]'h).toNat = cl b
  ag : ∀ i, i < S → ∀ h : 258 + i < t.size, (t[258 + i]'h).toNat = bitN (gr i)
  an : ∀ i c, i < S → c < C → ∀ h : 258 + S + i * C + c < t.size, (t[258 + S + i * C + c]'h).toNat = nc i c
theorem getElem_of_getD {l : List Nat} {k x : Nat} (h : l.getD k 0 = x) (hk : k < l.length) : l[k] = x := by
  rw [List.getD_eq_getElem?_getD, List.getElem?_eq_getElem hk] at h; exact h
theorem flat_getD (C : Nat) (nc : Nat → Nat → Nat) {c : Nat} (hc : c < C) : ∀ S i, i < S → ((List.range S).flatMap (fun i => (List.range C).map (nc i))).getD (i * C + c) 0 = nc i c
  | 0, i, h => absurd h (Nat.not_lt_zero _)
  | S + 1, i, h => by
    rw [flat_snoc, List.getD_eq_getElem?_getD]
    have hl := flat_len C nc S
    by_cases e : i = S
    · subst e
      rw [List.getElem?_append_right (by rw [hl]; omega), hl, Nat.add_sub_cancel_left, List.getElem?_map, List.getElem?_range hc]; rfl
    · have h2 : i < S := by omega
      have h3 : i * C + c < S * C := by
        have : (i + 1) * C ≤ S * C := Nat.mul_le_mul_right C h2
        rw [Nat.add_mul] at this; omega
      rw [List.getElem?_append_left (by rw [hl]; exact h3), ← List.getD_eq_getElem?_getD, flat_getD C nc hc S i h2]
theorem lay_parts (S C : Nat) (cl : Nat → Nat) (gr : Nat → Bool) (nc : Nat → Nat → Nat) : layTab S C cl gr nc = [S, C] ++ ((List.range 256).map cl ++ ((List.range S).map (fun i => if gr i then 1 else 0) ++ (List.range S).flatMap (fun i => (List.range C).map (nc i)))) := by
  unfold layTab
  rw [List.append_assoc, List.append_assoc]
theorem lay_len (S C : Nat) (cl : Nat → Nat) (gr : Nat → Bool) (nc : Nat → Nat → Nat) : (layTab S C cl gr nc).length = 258 + S + S * C := by
  rw [lay_parts]
  simp only [List.length_append, List.length_map, List.length_range, flat_len, List.length_cons, List.length_nil]
  omega
theorem getD_app_right {l m : List Nat} {k j : Nat} (h : l.length + j = k) : (l ++ m).getD k 0 = m.getD j 0 := by
  rw [List.getD_eq_getElem?_getD, List.getD_eq_getElem?_getD, List.getElem?_append_right (by omega)]
  rw [show k - l.length = j by omega]
theorem getD_app_left {l m : List Nat} {k : Nat} (h : k < l.length) : (l ++ m).getD k 0 = l.getD k 0 := by
  rw [List.getD_eq_getElem?_getD, List.getD_eq_getElem?_getD, List.getElem?_append_left h]
theorem getD_mapr (f : Nat → Nat) {n k : Nat} (h : k < n) : ((List.range n).map f).getD k 0 = f k := by
  rw [List.getD_eq_getElem?_getD, List.getElem?_map, List.getElem?_range h]; rfl
theorem TabOf.tbl {L : List Nat → Prop} {S C : Nat} {nx : Nat → Nat → Nat} {gr : Nat → Bool} {cl : Nat → Nat} {nc : Nat → Nat → Nat} (h : TabOf L S C nx gr cl nc) : Tbl (strN (layTab S C cl gr nc)) S C cl gr nc := by
  have s24 := h.sle
  have c24 := h.cle
  have hlt : ∀ x ∈ layTab S C cl gr nc, x < 256 := fun x hx => by
    rw [lay_parts] at hx
    rcases List.mem_append.1 hx with hx | hx
    · simp at hx; omega
    · rcases List.mem_append.1 hx with hx | hx
      · obtain ⟨b, hb, rfl⟩ := List.mem_map.1 hx
        have := h.cols.lt b (List.mem_range.1 hb); omega
      · rcases List.mem_append.1 hx with hx | hx
        · obtain ⟨b, hb, rfl⟩ := List.mem_map.1 hx
          split <;> omega
        · exact h.ns_lt x hx
  have hb := bytesN_strN hlt
  have hsz : (strN (layTab S C cl gr nc)).size = 258 + S + S * C := by rw [← bytesN_len, hb, lay_len]
  have key : ∀ {k x}, (layTab S C cl gr nc).getD k 0 = x → ∀ hk : k < (strN (layTab S C cl gr nc)).size, ((strN (layTab S C cl gr nc))[k]'hk).toNat = x := fun {k x} hx hk => by
    have hk2 : k < (bytesN (strN (layTab S C cl gr nc))).length := by rw [bytesN_len]; exact hk
    rw [← bytesN_at _ k hk hk2]
    refine getElem_of_getD ?_ hk2
    rw [hb]; exact hx
  refine ⟨hsz, h.dfa.pos, s24, ?_, c24, h.cols.lt, fun i c hi hc => h.nc_lt hi hc, fun _ => key rfl _, fun _ => key rfl _, fun b hb' _ => key ?_ _, fun i hi _ => key ?_ _, fun i c hi hc _ => key ?_ _⟩
  · have := h.cols.lt 0 (by omega); omega
  · rw [lay_parts, getD_app_right (j := b) (by simp), getD_app_left (by simpa using hb'), getD_mapr cl hb']
  · rw [lay_parts, getD_app_right (j := 256 + i) (by simp; omega), getD_app_right (j := i) (by simp), getD_app_left (by simpa using hi), getD_mapr _ hi]; rfl
  · rw [lay_parts, getD_app_right (j := 256 + S + (i * C + c)) (by simp; omega), getD_app_right (j := S + (i * C + c)) (by simp; omega), getD_app_right (j := i * C + c) (by simp), flat_getD C nc hc S i hi]
theorem Tbl.lt2 {t : ByteArray} {S C : Nat} {cl : Nat → Nat} {gr : Nat → Bool} {nc : Nat → Nat → Nat} (h : Tbl t S C cl gr nc) {i c : Nat} (hi : i < S) (hc : c < C) : 258 + S + i * C + c < t.size := by
  rw [h.size]
  have : (i + 1) * C ≤ S * C := Nat.mul_le_mul_right C hi
  rw [Nat.add_mul] at this; omega
theorem Tbl.mul_le {t : ByteArray} {S C : Nat} {cl : Nat → Nat} {gr : Nat → Bool} {nc : Nat → Nat → Nat} (h : Tbl t S C cl gr nc) : S * C ≤ 576 := Nat.mul_le_mul h.s24 h.c24

theorem Tbl.an' {t : ByteArray} {S C : Nat} {cl : Nat → Nat} {gr : Nat → Bool} {nc : Nat → Nat → Nat} (h : Tbl t S C cl gr nc) {i c m : Nat} (hi : i < S) (hc : c < C) (hm : i * C = m) (hl : 258 + S + m + c < t.size) : (t[258 + S + m + c]'hl).toNat = nc i c := by
  subst hm; exact h.an i c hi hc hl
theorem Tbl.lt3 {t : ByteArray} {S C : Nat} {cl : Nat → Nat} {gr : Nat → Bool} {nc : Nat → Nat → Nat} (h : Tbl t S C cl gr nc) {i c m : Nat} (hi : i < S) (hc : c < C) (hm : i * C = m) : 258 + S + m + c < t.size := by
  subst hm; exact h.lt2 hi hc
theorem mul_small {i C m S : Nat} (hm : i * C = m) (hi : i < S) (hS : S ≤ 24) (hC : C ≤ 24) : IntKind.i64.wrap ((i : Int) * (C : Int)) = (m : Int) ∧ (i : Int) * (C : Int) = (m : Int) ∧ m ≤ 576 := by
  have hm1 : i * C ≤ 24 * 24 := Nat.mul_le_mul (by omega) hC
  refine ⟨?_, by rw [← hm, Int.natCast_mul], by omega⟩
  rw [← Int.natCast_mul, hm]; exact wrap_i64 m (by unfold top; omega)

set_option maxRecDepth 20000 in
set_option maxHeartbeats 1000000 in
theorem tnext_any (w : World) (t : ByteArray) (S C : Nat) (cl : Nat → Nat) (gr : Nat → Bool) (nc : Nat → Nat → Nat) (h : Tbl t S C cl gr nc) (i b : Nat) (hi : i < S) (hb : b < 256) :
    Calls Try.prog 35 #[.string t, .int .i64 (i : Int), .int .i64 (b : Int)] w fun e w' => e = .returned (.int .i64 ((nc i (cl b) : Nat) : Int)) ∧ w' = w := by
  have hsz := h.size
  have h24 := h.s24
  have hc := h.cl_lt b hb
  obtain ⟨m, hm⟩ : ∃ m, i * C = m := ⟨_, rfl⟩
  have hl := h.lt3 hi hc hm
  have l0 : 0 < t.size := by omega
  have l1 : 1 < t.size := by omega
  have l2 : 2 + b < t.size := by omega
  have e0 := h.a0
  have e1 := h.a1
  have e2 := h.ac b hb
  have e3 := fun hl => h.an' hi hc hm hl
  have hr := h.nc_lt i (cl b) hi hc
  have hc24 := h.c24
  have hM := h.mul_le
  obtain ⟨hw, hmI, hm1⟩ := mul_small hm hi h.s24 h.c24
  generalize nc i (cl b) = r at *
  generalize cl b = c at *
  have k0 : (0 : Int) < (t.size : Int) := by omega
  have k1 : (1 : Int) < (t.size : Int) := by omega
  have k2 : (2 : Int) + (b : Int) < (t.size : Int) := by omega
  have k3 : (258 : Int) + (S : Int) + (m : Int) + (c : Int) < (t.size : Int) := by omega
  have k4 : (t.size : Int) ≤ 1000 := by omega
  have k5 : (S : Int) ≤ 24 := by omega
  have k6 : (C : Int) ≤ 24 := by omega
  have k7 : (m : Int) ≤ 576 := by omega
  have k8 : (c : Int) ≤ 24 := by omega
  have k9 : (b : Int) < 256 := by omega
  have k10 : (r : Int) ≤ 24 := by omega
  clear hr
  clear h hsz h24 hc hm hM hm1 hi hb hc24 hl l0 l1 l2
  go_enter Try.func35, Try.ntmps35
  go_wp2
  go_ret
  exact ⟨rfl, rfl⟩

theorem dRun_snoc (nx : Nat → Nat → Nat) (u : List Nat) (b i : Nat) : dRun nx i (u ++ [b]) = nx (dRun nx i u) b := by rw [dRun_append]; rfl
theorem bytesN_take (s : ByteArray) {k : Nat} (h : k < s.size) : (bytesN s).take (k + 1) = (bytesN s).take k ++ [s[k].toNat] := by
  have h2 : k < (bytesN s).length := by rw [bytesN_len]; exact h
  rw [List.take_add_one, List.getElem?_eq_getElem h2, bytesN_at s k h h2]; rfl
theorem Tbl.lt4 {t : ByteArray} {S C : Nat} {cl : Nat → Nat} {gr : Nat → Bool} {nc : Nat → Nat → Nat} (h : Tbl t S C cl gr nc) {i : Nat} (hi : i < S) : 258 + i < t.size := by
  rw [h.size]; omega

set_option maxRecDepth 20000 in
set_option maxHeartbeats 1000000 in
theorem tgranted_any (w : World) (t s : ByteArray) (S C : Nat) (cl : Nat → Nat) (gr : Nat → Bool) (nc nx : Nat → Nat → Nat) (h : Tbl t S C cl gr nc) (hnx : ∀ i b, i < S → b < 256 → nc i (cl b) = nx i b) (hs : s.size ≤ 16) :
    Calls Try.prog 22 #[.string t, .string s] w fun e w' => e = .returned (.bool (gr (dRun nx 0 (bytesN s)))) ∧ w' = w := by
  have H := hide h
  have HNX := hide hnx
  have hsI : (s.size : Int) ≤ 16 := by omega
  have HS := hide hs
  clear h hnx hs
  go_enter Try.func22, Try.ntmps22
  go_wp2_with fail
  go_loopw [5, 6] (fun kx ix wr => ∃ k i : Nat, kx = .int .i64 (k : Int) ∧ ix = .int .i64 (i : Int) ∧ Hid (i ≤ s.size ∧ k < S ∧ k = dRun nx 0 ((bytesN s).take i)) ∧ wr = w) (fun _ ix _ => s.size - (intOf ix).toNat)
  case atStart => exact ⟨0, 0, rfl, rfl, ⟨Nat.zero_le _, (unhide H).s1, rfl⟩, rfl⟩
  case round =>
    rename World => wr
    obtain ⟨k, i, rfl, rfl, HH, hwr⟩ := hrel
    obtain rfl : w = wr := hwr.symm
    clear hwr
    obtain ⟨hi, hk, he⟩ := unhide HH
    by_cases hlt : i < s.size
    · have hltI : (i : Int) < (s.size : Int) := by omega
      have HLT := hide hlt
      have hbt : s[i].toNat < 256 := s[i].toNat_lt
      have HC := hide (tnext_any w t S C cl gr nc (unhide H) k s[i].toNat hk hbt)
      have hx := unhide HNX k _ hk hbt
      have HSN : Hid (i + 1 ≤ s.size ∧ nc k (cl s[i].toNat) < S ∧ nc k (cl s[i].toNat) = dRun nx 0 ((bytesN s).take (i + 1))) := by
        refine ⟨hlt, (unhide H).nc_lt k _ hk ((unhide H).cl_lt _ hbt), ?_⟩
        rw [hx, bytesN_take s hlt, dRun_snoc, ← he]; rfl
      generalize nc k (cl s[i].toNat) = r at *
      have hbI : (s[i].toNat : Int) < 256 := by omega
      clear hi hk he HH hx hbt
      go_wp2_with fail
      refine (unhide HC).mono ?_
      rintro e w1 ⟨rfl, hww⟩
      obtain rfl : w = w1 := hww.symm
      clear hww
      go_wp2_with fail
      go_roundw
      case rel => exact ⟨r, i + 1, rfl, by go_num, unhide HSN, by first | rfl | trivial⟩
      case measure => have := unhide HLT; simp [intOf]; omega
    · have hi2 : i = s.size := by omega
      subst hi2
      have e4 := (unhide H).ag k hk
      have HE : Hid (k = dRun nx 0 (bytesN s)) := by
        rw [he]
        rw [← bytesN_len, List.take_length]; exact rfl
      have hl4 := (unhide H).lt4 hk
      have k4 : (258 : Int) + (k : Int) < (t.size : Int) := by omega
      have k5 : (k : Int) ≤ 24 := by have := (unhide H).s24; omega
      clear hi hk he HH hlt hl4
      cases hg : gr k
      · rw [hg] at e4
        have e5 : ∀ h, (t[258 + k]'h).toNat = 0 := e4
        have HG : Hid (gr (dRun nx 0 (bytesN s)) = false) := by rw [← unhide HE]; exact hg
        clear e4 hg HE
        go_wp2_with fail
        go_ret
        exact ⟨by rw [unhide HG]; rfl, rfl⟩
      · rw [hg] at e4
        have e5 : ∀ h, (t[258 + k]'h).toNat = 1 := e4
        have HG : Hid (gr (dRun nx 0 (bytesN s)) = true) := by rw [← unhide HE]; exact hg
        clear e4 hg HE
        go_wp2_with fail
        go_ret
        exact ⟨by rw [unhide HG]; rfl, rfl⟩

end Go.Proofs.Ytobfpgoepaeknaa
