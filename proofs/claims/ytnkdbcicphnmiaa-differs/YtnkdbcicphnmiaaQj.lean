/-
  veilref.Image.Grants.
-/
import Derived.Test.YtnkdbcicphnmiaaT11
import Derived.Test.YtnkdbcicphnmiaaQf
namespace Go.Proofs.Ytnkdbcicphnmiaa
namespace Mc
open Go.RowKit
attribute [local go_sem ↓] Go.wp_at_zero Go.wp_at_succ

theorem ruleT_succ (k : Nat) (ts : Nat → TabN) (bs : List Nat) : ruleT (k + 1) ts bs = ruleT k ts bs ++ [(ts k).gr ((ts k).run bs)] := by unfold ruleT; rw [map_snoc]
theorem ruleT_len (k : Nat) (ts : Nat → TabN) (bs : List Nat) : (ruleT k ts bs).length = k := by unfold ruleT; simp
theorem btsN_lt (s : ByteArray) : ∀ b ∈ btsN s, b < 256 := fun b hb => by
  obtain ⟨k, _, rfl⟩ := List.mem_map.1 hb
  exact bt_le s k
theorem run_take_succ (t : TabN) (s : ByteArray) {i : Nat} (hi : i < s.size) : t.run ((btsN s).take (i + 1)) = t.nx (t.run ((btsN s).take i)) (t.cl (bt s i)) := by
  have hg : (btsN s)[i]? = some (bt s i) := by unfold btsN; rw [List.getElem?_map, List.getElem?_range hi]; rfl
  rw [List.take_add_one, hg]
  exact t.run_snoc _ _
theorem run_take_all (t : TabN) (s : ByteArray) : t.run ((btsN s).take s.size) = t.run (btsN s) := by rw [List.take_of_length_le (by rw [btsN_len]; exact Nat.le_refl _)]

theorem orb (tr : List Bool) (k : Nat) (hk : tr.length = k) (h4 : k < 4) : bits BinOp.or IntKind.i64 ((sumG 0 tr : Nat) : Int) (wrap64 (2 ^ k)) = ((sumG 0 (tr ++ [true]) : Nat) : Int) := by
  have e1 : wrap64 ((2 : Int) ^ k) = ((2 ^ k : Nat) : Int) := by
    have e0 : ((2 ^ k : Nat) : Int) = (2 : Int) ^ k := by rw [Int.natCast_pow]; rfl
    have h1 : 2 ^ k ≤ 2 ^ 4 := Nat.pow_le_pow_right (by decide) (by omega)
    rw [← e0]
    generalize 2 ^ k = y at *
    unfold wrap64; omega
  have hm := sumG_le tr (by omega)
  have hp : 2 ^ k ≤ 2 ^ 4 := Nat.pow_le_pow_right (by decide) (by omega)
  rw [e1, or_nat _ _ (by omega) (by omega), ← hk, sumG_or, sumG_snoc, if_pos rfl, Nat.zero_add]

set_option maxRecDepth 20000 in
set_option maxHeartbeats 2000000 in
theorem VGrants_any (w : World) (x : ByteArray) (hok : ImOk x) (g tc : Nat) (hc : ∀ i, i < bt x 3 → w.cell? ⟨g, i, none⟩ = some (.string (tblX x (tpos x (5 + bt x 4) i)))) (s : ByteArray) (hs : s.size ≤ 1000) :
    Calls Try.prog 42 #[.agg #[.int .i64 ((bt x 2 : Nat) : Int), .string (imF x), .slice (some ⟨g, 0, none⟩) (bt x 3) tc], .string s] w fun e w' => e = .returned (.bool (imV x s)) ∧ Below w.heap.size w w' := by
  have hsI : (s.size : Int) ≤ 1000 := by omega
  have HOK := hide hok
  have HTO : Hid (∀ i, i < bt x 3 → TOk x (tpos x (5 + bt x 4) i)) := hok.ts.1
  have hr4 := hok.r2
  have HVF := hide (fun (tr : List Bool) (hl : tr.length ≤ 4) => vform_true tr hl hok.r2 (by rw [imF_size hok.fl]; have := hok.f2; omega) hok.fm)
  have HC := hide hc
  obtain ⟨r, hr⟩ : ∃ r, bt x 3 = r := ⟨_, rfl⟩
  obtain ⟨N, hN⟩ : ∃ N, bt x 2 = N := ⟨_, rfl⟩
  have HIV : Hid (imV x s = trueF (imF x) (ruleT r (imT x) (btsN s))) := by show _ = _; unfold imV; rw [hr]
  rw [hr] at hr4 HC HTO
  rw [hr, hN]
  have hrI : (r : Int) ≤ 4 := by omega
  have HR4 := hide hr4
  clear hok hc hr hN hr4 hs
  have HBX : Hid ((w.alloc (.cells #[.int .i64 (N : Int), .string (imF x), .slice (some ⟨g, 0, none⟩) r tc] 75)).heap[w.heap.size]? = some (.cells #[.int .i64 (N : Int), .string (imF x), .slice (some ⟨g, 0, none⟩) r tc] 75 (0, 0))) := heap_alloc_new _ _
  have HB1 : Hid (Below w.heap.size w (w.alloc (.cells #[.int .i64 (N : Int), .string (imF x), .slice (some ⟨g, 0, none⟩) r tc] 75))) := (Below.refl _ _).alloc (Nat.le_refl _) _
  generalize imF x = f at *
  go_enter Try.func42, Try.ntmps42
  go_wp2_with fail
  generalize hw1 : w.alloc (.cells #[.int .i64 (N : Int), .string f, .slice (some ⟨g, 0, none⟩) r tc] 75) = w1 at *
  have HH : Hid (w1.heap.size = w.heap.size + 1) := by show _ = _; rw [← hw1]; simp
  clear hw1
  go_loopw [5, 6] (fun mx kx wr => ∃ k : Nat, mx = .int .i64 ((sumG 0 (ruleT k (imT x) (btsN s)) : Nat) : Int) ∧ kx = .int .i64 (k : Int) ∧ Hid (k ≤ r ∧ Below w1.heap.size w1 wr)) (fun _ kx _ => lenLeft r kx)
  case atStart => exact ⟨0, rfl, rfl, Nat.zero_le _, Below.refl _ _⟩
  case round =>
    rename World => wr
    obtain ⟨k, rfl, rfl, HI⟩ := hrel
    obtain ⟨hk, hB⟩ := unhide HI
    have hbx : wr.heap[w.heap.size]? = _ := (hB.block _ (by have := unhide HH; omega)).trans (unhide HBX)
    have c1 : wr.cell? ⟨w.heap.size, 1, none⟩ = some (.string f) := by rw [cell_of_row _ _ _ _ _ _ hbx]; rfl
    have c2 : wr.cell? ⟨w.heap.size, 2, none⟩ = some (.slice (some ⟨g, 0, none⟩) r tc) := by rw [cell_of_row _ _ _ _ _ _ hbx]; rfl
    clear HI
    by_cases hlt : k < r
    · have hltI : (k : Int) < (r : Int) := by omega
      have hk0 : (0 : Int) ≤ (k : Int) := by omega
      have hkn : ((k : Int)).toNat = k := by omega
      have HLT := hide hlt
      have HB := hide hB
      clear hbx hk hB hlt
      go_wp2_with fail
      go_loopw [7, 8] (fun ax ix wq => ∃ i : Nat, ax = .int .i64 (((imT x k).run ((btsN s).take i) : Nat) : Int) ∧ ix = .int .i64 (i : Int) ∧ Hid (i ≤ s.size ∧ Below w1.heap.size w1 wq)) (fun _ ix _ => lenLeft s.size ix)
      case atStart => exact ⟨0, rfl, rfl, Nat.zero_le _, unhide HB⟩
      case round =>
        clear c1 c2 HB
        rename World => wq
        obtain ⟨i, rfl, rfl, HI⟩ := hrel
        obtain ⟨hi, hB⟩ := unhide HI
        have hbx : wq.heap[w.heap.size]? = _ := (hB.block _ (by have := unhide HH; omega)).trans (unhide HBX)
        have c2 : wq.cell? ⟨w.heap.size, 2, none⟩ = some (.slice (some ⟨g, 0, none⟩) r tc) := by rw [cell_of_row _ _ _ _ _ _ hbx]; rfl
        have hB0 : Below w.heap.size w wq := (unhide HB1).trans (hB.mono (by have := unhide HH; omega))
        have c3 : wq.cell? ⟨g, k, none⟩ = some (.string (tblX x (tpos x (5 + bt x 4) k))) := below_cell hB0 (unhide HC k (unhide HLT))
        have hrn : (imT x k).run ((btsN s).take i) < (imT x k).S := TabN.run_take_lt (unhide HTO k (unhide HLT)).ok (btsN_lt s) i
        have HB := hide hB
        clear HI
        by_cases hlti : i < s.size
        · have hltiI : (i : Int) < (s.size : Int) := by omega
          have hi0 : (0 : Int) ≤ (i : Int) := by omega
          have hin : ((i : Int)).toNat = i := by omega
          have hbt := bt_at s i
          have hbtI : ((bt s i : Nat) : Int) < 256 := by have := bt_le s i; omega
          have hbw : IntKind.i64.wrap ((bt s i : Nat) : Int) = ((bt s i : Nat) : Int) := wrap_i64 _ (by have := bt_le s i; omega)
          have HST := hide (fun W => step_any W x (tpos x (5 + bt x 4) k) ((imT x k).run ((btsN s).take i)) (bt s i) (unhide HTO k (unhide HLT)) hrn (bt_le s i))
          have HNX : Hid ((tabAt x (tpos x (5 + bt x 4) k)).nx ((imT x k).run ((btsN s).take i)) ((tabAt x (tpos x (5 + bt x 4) k)).cl (bt s i)) = (imT x k).run ((btsN s).take (i + 1))) := (run_take_succ (imT x k) s hlti).symm
          have HLTI := hide hlti
          clear hbx hi hB hlti hB0 hrn
          generalize (tabAt x (tpos x (5 + bt x 4) k)).nx ((imT x k).run ((btsN s).take i)) ((tabAt x (tpos x (5 + bt x 4) k)).cl (bt s i)) = q2 at *
          generalize (imT x k).run ((btsN s).take i) = q at *
          generalize tblX x (tpos x (5 + bt x 4) k) = t at *
          generalize bt s i = b at *
          go_wp2_with fail
          go_region_law (go_simp; go_at_call 65; refine (unhide HST _).mono ?_; rintro e w' ⟨rfl, hww⟩; obtain rfl : wq.drew = w' := hww.symm; clear hww)
          all_goals
            go_wp2_with fail
            go_roundw
            case rel => exact ⟨i + 1, by rw [← unhide HNX], by go_num, unhide HLTI, (unhide HB).drew⟩
            case measure => have := unhide HLTI; simp [lenLeft, intOf]; omega
        · have hi2 : i = s.size := by omega
          subst hi2
          have hltiI : ¬ (s.size : Int) < (s.size : Int) := by omega
          rw [run_take_all] at hrn
          have HGR := hide (fun W => granted_any W x (tpos x (5 + bt x 4) k) ((imT x k).run (btsN s)) (unhide HTO k (unhide HLT)) hrn)
          have HSN : Hid (ruleT (k + 1) (imT x) (btsN s) = ruleT k (imT x) (btsN s) ++ [(tabAt x (tpos x (5 + bt x 4) k)).gr ((imT x k).run (btsN s))]) := ruleT_succ k (imT x) (btsN s)
          have HLEN := hide (ruleT_len k (imT x) (btsN s))
          clear hbx hi hB hlti hB0 hrn
          generalize ruleT k (imT x) (btsN s) = tr at *
          generalize tblX x (tpos x (5 + bt x 4) k) = t at *
          generalize (tabAt x (tpos x (5 + bt x 4) k)).gr ((imT x k).run (btsN s)) = v at *
          rw [run_take_all]
          generalize (imT x k).run (btsN s) = q at *
          go_wp2_with fail
          refine (unhide HGR _).mono ?_
          rintro e w' ⟨rfl, hww⟩
          obtain rfl : wq = w' := hww.symm
          clear hww
          cases v
          · go_wp2_with fail
            go_roundw
            case rel => exact ⟨k + 1, by rw [unhide HSN, sumG_snoc]; simp, by go_num, unhide HLT, unhide HB⟩
            case measure => have := unhide HLT; simp [lenLeft, intOf]; omega
          · go_wp2_with fail
            go_roundw
            case rel => exact ⟨k + 1, by rw [unhide HSN, orb tr k (unhide HLEN) (by have := unhide HLT; have := unhide HR4; omega)], by go_num, unhide HLT, unhide HB⟩
            case measure => have := unhide HLT; simp [lenLeft, intOf]; omega
    · have hk2 : k = r := by omega
      subst hk2
      have hltI : ¬ (k : Int) < (k : Int) := by omega
      have HB0 : Hid (Below w.heap.size w wr) := (unhide HB1).trans (hB.mono (by have := unhide HH; omega))
      have HV := hide (unhide HVF (ruleT k (imT x) (btsN s)) (by rw [ruleT_len]; exact unhide HR4) wr)
      rw [← unhide HIV] at HV
      clear hbx hk hB hlt
      generalize ruleT k (imT x) (btsN s) = tr at *
      go_wp2_with fail
      refine (unhide HV).mono ?_
      rintro e w' ⟨rfl, hww⟩
      obtain rfl : wr = w' := hww.symm
      clear hww
      go_wp2_with fail
      go_ret
      exact ⟨rfl, unhide HB0⟩

end Mc
end Go.Proofs.Ytnkdbcicphnmiaa
