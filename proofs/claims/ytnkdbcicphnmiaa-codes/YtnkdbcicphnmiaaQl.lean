/-
  veilref.Laid; veillaw.taken, veillaw.judged, veillaw.short.
-/
import Derived.Test.YtnkdbcicphnmiaaQk
import Derived.Test.YtnkdbcicphnmiaaT02
namespace Go.Proofs.Ytnkdbcicphnmiaa
namespace Mc
open Go.RowKit
attribute [local go_sem ↓] Go.wp_at_zero Go.wp_at_succ

/-- The memory into which a secret and data are laid. -/
def laidW (s : ByteArray) (ds : List Nat) : List Nat := memW s s.size ++ ds ++ List.replicate (4064 - ds.length) 0
def laid2 (s : ByteArray) (ds : List Nat) (j : Nat) : List Nat := memW s s.size ++ ds.take j ++ List.replicate (4064 - j) 0
theorem laid2_len (s : ByteArray) {ds : List Nat} {j : Nat} (h : j ≤ ds.length) (hl : ds.length ≤ 4064) : (laid2 s ds j).length = 4096 := by
  unfold laid2; rw [List.length_append, List.length_append, memW_len, List.length_take, List.length_replicate]; omega
theorem laid2_set (s : ByteArray) {ds : List Nat} {j : Nat} (h : j < ds.length) (hl : ds.length ≤ 4064) : (laid2 s ds j).set (32 + j) (ds.getD j 0) = laid2 s ds (j + 1) := by
  have ht : ds.take (j + 1) = ds.take j ++ [ds.getD j 0] := by rw [List.take_add_one, List.getD_eq_getElem?_getD, List.getElem?_eq_getElem h]; rfl
  unfold laid2
  rw [List.set_append_right _ _ (by rw [List.length_append, memW_len, List.length_take]; omega), List.length_append, memW_len, List.length_take, show 32 + j - (32 + min j ds.length) = 0 by omega, show 4064 - j = (4064 - (j + 1)) + 1 by omega, List.replicate_succ, List.set_cons_zero, ht]
  simp only [List.append_assoc, List.singleton_append]
theorem laid1_set (s : ByteArray) {i : Nat} (h : i < 16) : (memW s i ++ List.replicate 4064 0).set (1 + i) (bt s i) = memW s (i + 1) ++ List.replicate 4064 0 := by
  rw [List.set_append_left _ _ (by rw [memW_len]; omega)]; rfl
theorem memB_zeros (xs : List Nat) (n : Nat) (h : xs.length + n ≤ 4096) : memB ((xs ++ List.replicate n 0).map Int.ofNat) = memB (xs.map Int.ofNat) := by
  unfold memB
  rw [List.length_map, List.length_map, List.length_append, List.length_replicate, decide_eq_true (show xs.length + n ≤ 4096 from h), decide_eq_true (show xs.length ≤ 4096 by omega), List.map_append, List.all_append]
  have : (List.map Int.ofNat (List.replicate n 0)).all wordOk = true := by
    rw [List.all_eq_true]
    intro z hz
    rw [List.map_replicate] at hz
    rw [(List.mem_replicate.1 hz).2]; rfl
  rw [this, Bool.and_true]
theorem runAns_zeros (os : List OpI) (xs : List Nat) (n : Nat) (k : Int) (h : xs.length + n = 4096) : runAns os ((xs ++ List.replicate n 0).map Int.ofNat) k = runAns os (xs.map Int.ofNat) k := by
  have h1 := memB_zeros xs n (by omega)
  have h2 : mem0 ((xs ++ List.replicate n 0).map Int.ofNat) = mem0 (xs.map Int.ofNat) := by
    rw [mem0_nat, mem0_nat, List.length_append, List.length_replicate, show 4096 - (xs.length + n) = 0 by omega, show 4096 - xs.length = n by omega]
    simp
  unfold runAns takesE ms0
  rw [h1, h2]
theorem laid_runs (os : List OpI) (s : ByteArray) (ds : List Nat) (k : Int) (h : ds.length ≤ 4064) : runAns os ((laidW s ds).map Int.ofNat) k = runAns os ((memW s s.size ++ ds).map Int.ofNat) k :=
  runAns_zeros os (memW s s.size ++ ds) (4064 - ds.length) k (by rw [List.length_append, memW_len]; omega)
theorem runs_code {os : List OpI} {zs : List Int} {k : Int} (h : (runAns os zs k).e = 0) : codeB os = true := by
  cases hc : codeB os with
  | true => rfl
  | false =>
    exfalso
    unfold runAns at h
    rw [show takesE os zs k = 8 by unfold takesE; rw [if_pos hc], if_pos (by decide)] at h
    exact absurd h (by decide)

set_option maxRecDepth 20000 in
set_option maxHeartbeats 1000000 in
theorem Laid_any (w : World) (s : ByteArray) (B0 : Nat) (dv : Value) (ds : List Nat) (hd : NR w B0 dv ds) (hp : 0 < ds.length) (hl : ds.length ≤ 4000) (hs : s.size ≤ 16) :
    Calls Try.prog 64 #[.string s, dv] w fun e w' => ∃ v, e = .returned v ∧ Below w.heap.size w w' ∧ NR w' w.heap.size v (laidW s ds) := by
  obtain ⟨gd, capd, rfl⟩ := own_form (show w.ownsRow B0 3 1 dv ds.length (ncs ds) from hd) hp
  obtain ⟨mc, hmk, HNR⟩ : ∃ mc, (Instr.makeSlice 23 (.int .i64 4096) (.int .i64 4096)).run Try.prog w = .ok (.slice (some ⟨w.heap.size, 0, none⟩) 4096 4096) (w.alloc (.cells mc 3)) ∧ Hid (NR (w.alloc (.cells mc 3)) w.heap.size (.slice (some ⟨w.heap.size, 0, none⟩) 4096 4096) (List.replicate 4096 0)) := by
    obtain ⟨i, i0, i1, i2, i3⟩ := info_of infoI
    have := run_make (P := Try.prog) w 23 3 i (.int .i64 0) Try.underlying23 i0 i1 .i64 .i64 4096 4096 (by decide) (by decide) (by rw [i3]; decide) (by decide)
    rw [i2] at this
    refine ⟨_, this, ?_⟩
    have h2 := NR.new (w := w) (n := 4096) (Nat.le_refl _) (by unfold maxLen; omega)
    exact h2
  have HB0 : Hid (Below w.heap.size w (w.alloc (.cells mc 3))) := (Below.refl _ _).alloc (Nat.le_refl _) _
  have HD := hide (fun w' (hb : Below w.heap.size w w') => (Fr.ofBelow hb).own hd (by simp))
  have HL0 : Hid (∀ i, i ≤ 16 → (memW s i ++ List.replicate 4064 0).length = 4096) := fun i _ => by rw [List.length_append, memW_len, List.length_replicate]
  have hrep : (List.replicate 4096 0).set 0 s.size = memW s 0 ++ List.replicate 4064 0 := by
    rw [show (List.replicate 4096 0 : List Nat) = List.replicate 32 0 ++ List.replicate 4064 0 by rw [List.replicate_append_replicate], List.set_append_left _ _ (by simp)]; rfl
  have hput : NR ((w.alloc (.cells mc 3)).setCell ⟨w.heap.size, 0, none⟩ (.int .i64 (s.size : Int))) w.heap.size (.slice (some ⟨w.heap.size, 0, none⟩) 4096 4096) ((List.replicate 4096 0).set 0 s.size) := by
    have h3 : NR (w.alloc (.cells mc 3)) w.heap.size (.slice (some ⟨w.heap.size, 0, none⟩) (List.replicate 4096 0).length 4096) (List.replicate 4096 0) := by rw [List.length_replicate]; exact unhide HNR
    have := h3.put 0 s.size
    rwa [List.length_replicate] at this
  rw [hrep] at hput
  have HR1 := hide hput
  have HB1 : Hid (Below w.heap.size w ((w.alloc (.cells mc 3)).setCell ⟨w.heap.size, 0, none⟩ (.int .i64 (s.size : Int)))) := below_set (unhide HB0) (Nat.le_refl _)
  have hat : ∃ g cap, Value.slice (some ⟨w.heap.size, 0, none⟩) 4096 4096 = .slice (some ⟨g, 0, none⟩) 4096 cap ∧ (w.alloc (.cells mc 3)).cell? ⟨g, 0, none⟩ = some (.int .i64 (((List.replicate 4096 0).getD 0 0 : Nat) : Int)) := by
    have h3 : NR (w.alloc (.cells mc 3)) w.heap.size (.slice (some ⟨w.heap.size, 0, none⟩) (List.replicate 4096 0).length 4096) (List.replicate 4096 0) := by rw [List.length_replicate]; exact unhide HNR
    have := h3.at (k := 0) (by rw [List.length_replicate]; decide)
    rwa [List.length_replicate] at this
  obtain ⟨g', cap', he, c0⟩ := hat
  simp only [Value.slice.injEq, Option.some.injEq, Addr.mk.injEq, and_true, true_and] at he
  obtain ⟨rfl, rfl⟩ := he
  rw [getD_rep] at c0
  have f0 : (w.alloc (.cells mc 3)).frozen? ⟨w.heap.size, 0, none⟩ = false := frozen_of_row _ _ _ _ _ (heap_alloc_new _ _)
  have hsI : (s.size : Int) ≤ 16 := by omega
  have hdI : (ds.length : Int) ≤ 4000 := by omega
  have HL := hide hl
  have HS := hide hs
  clear hd hl hp hs hput hrep
  generalize hgH : w.heap.size = H at *
  have HGH := hide hgH
  clear hgH
  go_enter Try.func64, Try.ntmps64
  go_wp2_with fail
  generalize (w.alloc (.cells mc 3)).setCell ⟨H, 0, none⟩ (.int .i64 (s.size : Int)) = w1 at *
  clear hmk HNR HB0 c0 f0
  go_loopw [6] (fun ix wr => ∃ i : Nat, ix = .int .i64 (i : Int) ∧ Hid (i ≤ s.size ∧ Below H w wr ∧ NR wr H (.slice (some ⟨H, 0, none⟩) 4096 4096) (memW s i ++ List.replicate 4064 0))) (fun ix _ => lenLeft s.size ix)
  case atStart => exact ⟨0, rfl, Nat.zero_le _, unhide HB1, unhide HR1⟩
  case round =>
    clear HB1 HR1
    rename World => wr
    obtain ⟨i, rfl, HH⟩ := hrel
    obtain ⟨hi, hB, hR⟩ := unhide HH
    clear HH
    by_cases hlt : i < s.size
    · have hltI : (i : Int) < (s.size : Int) := by omega
      have hb := bt_at s i
      have hbI : ((bt s i : Nat) : Int) < 256 := by have := bt_le s i; omega
      have h0 : (0 : Int) ≤ (i : Int) := by omega
      have h1 : ((i : Int)).toNat = i := by omega
      have e1 : (1 : Int) + (i : Int) = ((1 + i : Nat) : Int) := by omega
      have ew : IntKind.i64.wrap ((1 + i : Nat) : Int) = ((1 + i : Nat) : Int) := wrap_i64 (1 + i) (by have := unhide HS; omega)
      have hx0 : (0 : Int) ≤ ((1 + i : Nat) : Int) := by omega
      have hx1 : (((1 + i : Nat) : Int)).toNat = 1 + i := by omega
      have hx2 : ((1 + i : Nat) : Int) < 4096 := by omega
      have hx3 : 1 + i < 4096 := by have := unhide HS; omega
      have hlen := unhide HL0 i (by have := unhide HS; omega)
      have h3 : NR wr H (.slice (some ⟨H, 0, none⟩) (memW s i ++ List.replicate 4064 0).length 4096) (memW s i ++ List.replicate 4064 0) := by rw [hlen]; exact hR
      obtain ⟨g', cap', he, c1⟩ := h3.at (k := 1 + i) (by omega)
      simp only [Value.slice.injEq, Option.some.injEq, Addr.mk.injEq, and_true] at he
      obtain ⟨rfl, -, rfl⟩ := he
      have f1 := own_free (show wr.ownsRow H 3 1 (.slice (some ⟨H, 0, none⟩) _ 4096) _ _ from h3) (1 + i)
      have HN : Hid (NR (wr.setCell ⟨H, 1 + i, none⟩ (.int .i64 ((bt s i : Nat) : Int))) H (.slice (some ⟨H, 0, none⟩) 4096 4096) (memW s (i + 1) ++ List.replicate 4064 0)) := by
        have := h3.put (1 + i) (bt s i)
        rw [hlen, laid1_set s (by have := unhide HS; omega)] at this
        exact this
      have HB2 : Hid (Below H w (wr.setCell ⟨H, 1 + i, none⟩ (.int .i64 ((bt s i : Nat) : Int)))) := below_set hB (Nat.le_refl _)
      have HLT := hide hlt
      clear hi hB hR h3 hlen
      generalize (memW s i ++ List.replicate 4064 0).getD (1 + i) 0 = y at *
      generalize hk : 1 + i = k at *
      go_wp2_with fail
      go_roundw
      case rel => exact ⟨i + 1, by go_num, unhide HLT, unhide HB2, unhide HN⟩
      case measure => have := unhide HLT; simp [lenLeft, intOf]; omega
    · have hi2 : i = s.size := by omega
      subst hi2
      have HB := hide hB
      have HR : Hid (NR wr H (.slice (some ⟨H, 0, none⟩) 4096 4096) (laid2 s ds 0)) := by
        show NR _ _ _ _
        have : laid2 s ds 0 = memW s s.size ++ List.replicate 4064 0 := by unfold laid2; simp
        rw [this]; exact hR
      clear hi hB hR hlt
      go_wp2_with fail
      go_loopw [7] (fun jx wq => ∃ j : Nat, jx = .int .i64 (j : Int) ∧ Hid (j ≤ ds.length ∧ Below H w wq ∧ NR wq H (.slice (some ⟨H, 0, none⟩) 4096 4096) (laid2 s ds j))) (fun jx _ => lenLeft ds.length jx)
      case atStart => exact ⟨0, rfl, Nat.zero_le _, unhide HB, unhide HR⟩
      case round =>
        clear HB HR
        rename World => wq
        obtain ⟨j, rfl, HH⟩ := hrel
        obtain ⟨hj, hB, hR⟩ := unhide HH
        clear HH
        by_cases hlt : j < ds.length
        · have hltI : (j : Int) < (ds.length : Int) := by omega
          have h0 : (0 : Int) ≤ (j : Int) := by omega
          have h1 : ((j : Int)).toNat = j := by omega
          have e1 : (32 : Int) + (j : Int) = ((32 + j : Nat) : Int) := by omega
          have ew : IntKind.i64.wrap ((32 + j : Nat) : Int) = ((32 + j : Nat) : Int) := wrap_i64 (32 + j) (by have := unhide HL; omega)
          have hx0 : (0 : Int) ≤ ((32 + j : Nat) : Int) := by omega
          have hx1 : (((32 + j : Nat) : Int)).toNat = 32 + j := by omega
          have hx2 : ((32 + j : Nat) : Int) < 4096 := by omega
          have hx3 : 32 + j < 4096 := by have := unhide HL; omega
          have hlen := laid2_len s (Nat.le_of_lt hlt) (by have := unhide HL; omega)
          have h3 : NR wq H (.slice (some ⟨H, 0, none⟩) (laid2 s ds j).length 4096) (laid2 s ds j) := by rw [hlen]; exact hR
          obtain ⟨g', cap', he, c1⟩ := h3.at (k := 32 + j) (by omega)
          simp only [Value.slice.injEq, Option.some.injEq, Addr.mk.injEq, and_true] at he
          obtain ⟨rfl, -, rfl⟩ := he
          have f1 := own_free (show wq.ownsRow H 3 1 (.slice (some ⟨H, 0, none⟩) _ 4096) _ _ from h3) (32 + j)
          have hdr : NR wq B0 (.slice (some ⟨gd, 0, none⟩) ds.length capd) ds := unhide HD wq hB
          obtain ⟨g'', cap'', he, c2⟩ := hdr.at hlt
          simp only [Value.slice.injEq, Option.some.injEq, Addr.mk.injEq, and_true, true_and] at he
          obtain ⟨rfl, rfl⟩ := he
          have HN : Hid (NR (wq.setCell ⟨H, 32 + j, none⟩ (.int .i64 ((ds.getD j 0 : Nat) : Int))) H (.slice (some ⟨H, 0, none⟩) 4096 4096) (laid2 s ds (j + 1))) := by
            have := h3.put (32 + j) (ds.getD j 0)
            rw [hlen, laid2_set s hlt (by have := unhide HL; omega)] at this
            exact this
          have HB2 : Hid (Below H w (wq.setCell ⟨H, 32 + j, none⟩ (.int .i64 ((ds.getD j 0 : Nat) : Int)))) := below_set hB (Nat.le_refl _)
          have HLT := hide hlt
          clear hj hB hR h3 hlen hdr
          generalize (laid2 s ds j).getD (32 + j) 0 = y at *
          generalize ds.getD j 0 = d at *
          generalize hk : 32 + j = k at *
          go_wp2_with fail
          go_roundw
          case rel => exact ⟨j + 1, by go_num, unhide HLT, unhide HB2, unhide HN⟩
          case measure => have := unhide HLT; simp [lenLeft, intOf]; omega
        · have hj2 : j = ds.length := by omega
          subst hj2
          have HB := hide hB
          have HR : Hid (NR wq H (.slice (some ⟨H, 0, none⟩) 4096 4096) (laidW s ds)) := by
            show NR _ _ _ _
            have : laidW s ds = laid2 s ds ds.length := by unfold laidW laid2; rw [List.take_length]
            rw [this]; exact hR
          clear hj hB hR hlt
          go_wp2_with fail
          go_ret
          exact ⟨_, rfl, unhide HB, unhide HR⟩

set_option maxRecDepth 20000 in
set_option maxHeartbeats 1000000 in
theorem taken_any (w : World) (cv dv : Value) (B0 : Nat) (os : List OpI) (ds : List Nat) (hc : OAt w cv os) (hd : NR w B0 dv ds) (hl : ds.length ≤ 4000) (ht : takesE os (ds.map Int.ofNat) 2097152 = 0) :
    Calls Try.prog 39 #[cv, dv] w fun e w' => e = .returned (.bool true) ∧ Below w.heap.size w w' := by
  have HT := hide (Takes_any w cv dv os (ds.map Int.ofNat) 2097152 hc hd.iat)
  rw [ht] at HT
  obtain ⟨da, dc, rfl⟩ := hd.form
  obtain ⟨ca, cc, rfl, -⟩ := hc
  have hlI : (ds.length : Int) ≤ 4000 := by omega
  clear hd hl ht
  go_enter Try.func39, Try.ntmps39
  go_wp2_with fail
  refine (unhide HT).mono ?_
  rintro e w1 ⟨rfl, hb⟩
  have HB := hide hb
  clear hb HT
  go_wp2_with fail
  go_ret
  exact ⟨rfl, unhide HB⟩

set_option maxRecDepth 20000 in
set_option maxHeartbeats 1000000 in
theorem judged_any (w : World) (cv dv : Value) (B0 : Nat) (os : List OpI) (ds : List Nat) (s : ByteArray) (M : List Nat) (y : Bool) (T : List Nat) (hc : OAt w cv os) (hd : NR w B0 dv ds) (hp : 0 < ds.length) (hl : ds.length ≤ 4000) (hs : s.size ≤ 16) (hM : M.length = 4096) (hr : runAns os ((memW s s.size ++ ds).map Int.ofNat) 2097152 = ⟨0, M.set 17 y.toNat, T⟩) :
    Calls Try.prog 41 #[cv, dv, .string s] w fun e w' => ∃ tv, e = .returned (.tuple #[.bool y, tv, .bool true]) ∧ Below w.heap.size w w' ∧ NR w' w.heap.size tv T ∧ T.length ≤ 2097152 := by
  have HLA := hide (Laid_any w s B0 dv ds hd hp hl hs)
  rw [← laid_runs os s ds _ (by omega)] at hr
  have HOA := hide hc
  obtain ⟨da, dc, rfl⟩ := hd.form
  obtain ⟨ca, cc, rfl, -⟩ := hc
  have HML := hide hM
  have HANS := hide hr
  clear hd hp hl hs hM hr
  go_enter Try.func41, Try.ntmps41
  go_wp2_with fail
  refine (unhide HLA).mono ?_
  rintro e w3 ⟨mv, rfl, hb3, hn3⟩
  have HRU := hide (RRun_any w3 _ mv os _ 2097152 ((unhide HOA).below hb3) hn3.iat)
  rw [unhide HANS] at HRU
  obtain ⟨ma, mc, rfl⟩ := hn3.form
  have HB3 := hide hb3
  clear hb3 hn3 HLA
  generalize laidW s ds = zs at *
  go_wp2_with fail
  refine (unhide HRU).mono ?_
  rintro e w4 ⟨ov, tv, rfl, hr⟩
  obtain ⟨g5, cap5, he, c5⟩ := hr.out.at (k := 17) (by show 17 < (M.set 17 _).length; rw [List.length_set]; have := unhide HML; omega)
  subst he
  have hln : (M.set 17 y.toNat).length = 4096 := by rw [List.length_set]; exact unhide HML
  have hc5 : w4.cell? ⟨g5, 17, none⟩ = some (.int .i64 ((y.toNat : Nat) : Int)) := by
    rw [c5]
    show some (Value.int _ (((M.set 17 y.toNat).getD 17 0 : Nat) : Int)) = _
    rw [getD_set_eq (by have := unhide HML; omega)]
  obtain ⟨ta, tc5, rfl⟩ := hr.tr.form
  have HTR : Hid (NR w4 w3.heap.size (.slice ta T.length tc5) T) := hr.tr
  have HTL : Hid (T.length ≤ 2097152) := hr.lt
  have HB4 : Hid (Below w.heap.size w w4) := (unhide HB3).trans (hr.below.mono (unhide HB3).size)
  have HSZ : Hid (w.heap.size ≤ w3.heap.size) := (unhide HB3).size
  simp only [hln]
  clear hr c5 hln HRU HB3 HANS
  cases y
  · simp only [Bool.toNat_false] at hc5
    go_wp2_with fail
    refine bodyPost_ret (v := .tuple #[.bool false, .slice ta T.length tc5, .bool true]) (by simp [results, Try.results41, go_sem]) rfl ?_
    exact ⟨_, rfl, unhide HB4, (unhide HTR).less (unhide HSZ), unhide HTL⟩
  · simp only [Bool.toNat_true] at hc5
    go_wp2_with fail
    refine bodyPost_ret (v := .tuple #[.bool true, .slice ta T.length tc5, .bool true]) (by simp [results, Try.results41, go_sem]) rfl ?_
    exact ⟨_, rfl, unhide HB4, (unhide HTR).less (unhide HSZ), unhide HTL⟩

/-- At most so many bytes of a string. -/
def shortS (s : ByteArray) (n : Nat) : ByteArray := if n < s.size then s.extract 0 n else s
theorem shortS_le (s : ByteArray) (n : Nat) : (shortS s n).size ≤ n := by
  unfold shortS
  split
  · rw [ByteArray.size_extract]; omega
  · omega
set_option maxRecDepth 20000 in
theorem short_any (w : World) (s : ByteArray) (n : Nat) (hs : s.size ≤ 9223372036854775807) (hn : n ≤ 1000) : Calls Try.prog 40 #[.string s, .int .i64 (n : Int)] w fun e w' => e = .returned (.string (shortS s n)) ∧ w' = w := by
  have hsI : (s.size : Int) ≤ 9223372036854775807 := by omega
  have hnI : (n : Int) ≤ 1000 := by omega
  have h0 : (0 : Int) ≤ (n : Int) := by omega
  have h1 : ((n : Int)).toNat = n := by omega
  unfold shortS
  by_cases h : n < s.size
  · rw [if_pos h]
    have hI : (n : Int) < (s.size : Int) := by omega
    have hI2 : (n : Int) ≤ (s.size : Int) := by omega
    clear h hs hn
    go_enter Try.func40, Try.ntmps40
    go_wp2_with fail
    go_ret
    exact ⟨rfl, rfl⟩
  · rw [if_neg h]
    have hI : (s.size : Int) ≤ (n : Int) := by omega
    clear h hs hn
    go_enter Try.func40, Try.ntmps40
    go_wp2_with fail
    go_ret
    exact ⟨rfl, rfl⟩

end Mc
end Go.Proofs.Ytnkdbcicphnmiaa
