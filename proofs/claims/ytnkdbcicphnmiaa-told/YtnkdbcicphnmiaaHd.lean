/-
  veilkeep.Tab.reads.
-/
import Derived.Test.YtnkdbcicphnmiaaHc
import Derived.Test.YtnkdbcicphnmiaaT10
namespace Go.Proofs.Ytnkdbcicphnmiaa
namespace Mc
open Go.RowKit

theorem ktake_succ (t : TabN) (s : ByteArray) {i : Nat} (hi : i < s.size) : t.run ((btsN s).take (i + 1)) = t.nx (t.run ((btsN s).take i)) (t.cl (bt s i)) := by
  have hg : (btsN s)[i]? = some (bt s i) := by unfold btsN; rw [List.getElem?_map, List.getElem?_range hi]; rfl
  rw [List.take_add_one, hg]
  exact t.run_snoc _ _
theorem ktake_all (t : TabN) (s : ByteArray) : t.run ((btsN s).take s.size) = t.run (btsN s) := by rw [List.take_of_length_le (by rw [btsN_len]; exact Nat.le_refl _)]
theorem kbts_lt (s : ByteArray) : ∀ b ∈ btsN s, b < 256 := fun b hb => by
  obtain ⟨k, _, rfl⟩ := List.mem_map.1 hb
  exact bt_le s k
/-- A small table. -/
structure KOk (t : TabN) : Prop where
  ok : t.Ok
  s4 : t.S ≤ 4
  c3 : t.C ≤ 3
theorem kT_kok (raw : ByteArray) (f : Nat) : KOk (kT raw f) := ⟨kT_ok raw f, (kS_le raw f).2, (kCl_le raw f).2⟩
theorem kCells_size (t : TabN) : (kCells t).size = 274 := arr_size _
theorem kCells_one (t : TabN) : (kCells t).all (·.oneCell') = true := kV_one _ _ _ _ _

section
attribute [local go_sem ↓] Go.wp_at_zero Go.wp_at_succ
attribute [local go_sem] aggcells
set_option maxRecDepth 20000 in
set_option maxHeartbeats 2000000 in
theorem kreads_big (w : World) (t : TabN) (hk : KOk t) (s : ByteArray) (hs : s.size ≤ 9223372036854775807) :
    Calls Try.prog 55 #[.agg (kCells t), .string s] w fun e w' => e = .returned (.bool (t.gr (t.run (btsN s)))) ∧ Below w.heap.size w w' := by
  have HKO := hide hk
  have hsI : (s.size : Int) ≤ 9223372036854775807 := by omega
  have HK0 : Hid (KI w.heap.size w (w.alloc (.cells (kCells t) 46)) t.S t.C t.cl t.gr (fun j => t.nx (j / 3) (j % 3))) := ⟨(Below.refl _ _).alloc (Nat.le_refl _) _, heap_alloc_new _ _⟩
  clear hk hs
  generalize hcs : kCells t = cs at *
  clear hcs
  go_enter Try.func55, Try.ntmps55
  go_wp2_with fail
  generalize w.alloc (.cells cs 46) = w1 at *
  generalize hH : w.heap.size = H at *
  have HHe := hide hH
  clear hH
  go_loopw [5, 6] (fun kx ix wr => ∃ i : Nat, kx = .int .i64 ((t.run ((btsN s).take i) : Nat) : Int) ∧ ix = .int .i64 (i : Int) ∧ Hid (i ≤ s.size ∧ KI H w wr t.S t.C t.cl t.gr (fun j => t.nx (j / 3) (j % 3)))) (fun _ ix _ => lenLeft s.size ix)
  case atStart => exact ⟨0, rfl, rfl, Nat.zero_le _, unhide HK0⟩
  case round =>
    clear HK0
    rename World => wr
    obtain ⟨i, rfl, rfl, HH⟩ := hrel
    obtain ⟨hi, hK⟩ := unhide HH
    clear HH
    have hrun := TabN.run_take_lt (unhide HKO).ok (kbts_lt s) i
    have h4 := (unhide HKO).s4
    have h3 := (unhide HKO).c3
    by_cases hlt : i < s.size
    · have hltI : (i : Int) < (s.size : Int) := by omega
      have HLT := hide hlt
      have h0 : (0 : Int) ≤ (i : Int) := by omega
      have h1 : ((i : Int)).toNat = i := by omega
      have hb := bt_at s i
      have hbl := bt_le s i
      have hbI : ((bt s i : Nat) : Int) < 256 := by omega
      have hcl := (unhide HKO).ok.cl (bt s i) hbl
      have cc := hK.cc hbl
      have cn := hK.cn (b := t.run ((btsN s).take i) * 3 + t.cl (bt s i)) (by omega)
      rw [show (t.run ((btsN s).take i) * 3 + t.cl (bt s i)) / 3 = t.run ((btsN s).take i) by omega, show (t.run ((btsN s).take i) * 3 + t.cl (bt s i)) % 3 = t.cl (bt s i) by omega, ← Nat.add_assoc] at cn
      have HN := hide (ktake_succ t s hlt)
      have HK := hide hK
      have hqI : ((t.run ((btsN s).take i) : Nat) : Int) < 4 := by omega
      have hcI : ((t.cl (bt s i) : Nat) : Int) < 3 := by omega
      have q0 : (0 : Int) ≤ ((t.run ((btsN s).take i) : Nat) : Int) := by omega
      have q1 : (0 : Int) ≤ ((t.cl (bt s i) : Nat) : Int) := by omega
      have q2 : (0 : Int) ≤ ((bt s i : Nat) : Int) := by omega
      clear hi hK hlt hrun h4 h3 hbl hcl
      generalize t.nx (t.run ((btsN s).take i)) (t.cl (bt s i)) = q' at *
      generalize t.run ((btsN s).take i) = q at *
      generalize t.cl (bt s i) = c at *
      generalize bt s i = b at *
      go_wp2_with fail
      go_region
      all_goals
        go_wp2_with fail
        go_roundw
        case rel => exact ⟨i + 1, by rw [unhide HN], by go_num, unhide HLT, (unhide HK).drew⟩
        case measure => have := unhide HLT; simp [lenLeft, intOf]; omega
    · have hi2 : i = s.size := by omega
      subst hi2
      have hltI : ¬ (s.size : Int) < (s.size : Int) := by omega
      rw [ktake_all] at hrun ⊢
      have cg := hK.cg (b := t.run (btsN s)) (by omega)
      have hqI : ((t.run (btsN s) : Nat) : Int) < 4 := by omega
      have q0 : (0 : Int) ≤ ((t.run (btsN s) : Nat) : Int) := by omega
      have HB := hide hK.below
      clear hi hK hlt hrun h4 h3
      obtain ⟨v, hv⟩ : ∃ v, t.gr (t.run (btsN s)) = v := ⟨_, rfl⟩
      rw [hv] at cg
      have HVV := hide hv
      clear hv
      generalize hq : t.run (btsN s) = q at cg hqI q0 ⊢
      clear hq
      go_wp2_with fail
      go_ret
      exact ⟨by rw [unhide HVV]; rfl, by rw [unhide HHe]; exact unhide HB⟩
end
theorem kreads_any (w : World) (t : TabN) (hk : KOk t) (s : ByteArray) (hs : s.size ≤ 1000) :
    Calls Try.prog 55 #[.agg (kCells t), .string s] w fun e w' => e = .returned (.bool (t.gr (t.run (btsN s)))) ∧ Below w.heap.size w w' := kreads_big w t hk s (by omega)

end Mc
end Go.Proofs.Ytnkdbcicphnmiaa
