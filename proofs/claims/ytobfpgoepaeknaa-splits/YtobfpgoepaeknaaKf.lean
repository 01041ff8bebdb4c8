/-
  The patterns that are made: turned.
-/
import Derived.Test.YtobfpgoepaeknaaKe
namespace Go.Proofs.Ytobfpgoepaeknaa
open Go.RowKit
attribute [local go_sem ↓] Go.wp_at_zero Go.wp_at_succ

/-- What turned gives. -/
def Turned (e : Ending) : Prop := ∃ (q : ByteArray) (x : Int) (u : Val), e = .returned (.tuple #[.string q, .int .i64 x]) ∧ Gq (bytesN q) u ∧ u.2 = x ∧ 1 ≤ x ∧ x ≤ 4000 ∧ q.size ≤ 100

theorem par_bytes (t : ByteArray) : bytesN (({ data := #[40] } : ByteArray) ++ t ++ { data := #[41] }) = parT (bytesN t) := by
  rw [bytesN_app, bytesN_app]; rfl
theorem par_size (t : ByteArray) : (({ data := #[40] } : ByteArray) ++ t ++ { data := #[41] }).size = t.size + 2 := by
  rw [ByteArray.size_append, ByteArray.size_append]; show 1 + t.size + 1 = _; omega

set_option maxHeartbeats 1000000 in
theorem turned_0 (w : World) (t : ByteArray) (wt : Int) (c k : Nat) (v : Val) (hG : Gq (bytesN t) v) (hv : v.2 = wt) (h0 : 1 ≤ wt) (h1 : wt ≤ 1000) (ht : t.size ≤ 60) (hk : k ≤ 31) (e1 : (c : Int) / 8 = (k : Int)) (e2 : (c : Int) % 8 = 0) (hc : (c : Int) < 256) :
    Calls Try.prog 32 #[.string t, .int .i64 wt, .int .i64 (c : Int)] w fun e w' => Turned e ∧ Below w.heap.size w w' := by
  have HA := hide (atom_any w k (by omega))
  have HG := hide hG
  have HV := hide hv
  have HK := hide (show k % 16 < 16 by omega)
  have HT := hide ht
  clear hG hv hk
  go_enter Try.func32, Try.ntmps32
  go_wp2_with fail
  refine (unhide HA).mono ?_
  rintro e w1 ⟨⟨a, rfl, ha⟩, hw1⟩
  have has : a.size ≤ 9 := by rw [← bytesN_len, ha]; exact atom_size _ (unhide HK)
  have HAB := hide ha
  have HW := hide hw1
  clear ha hw1 HA
  go_wp2
  go_ret2
  obtain ⟨ua, hA, hw⟩ := atom_tab _ (unhide HK)
  have hv := unhide HV
  have ht := unhide HT
  refine ⟨⟨({ data := #[40] } ++ t ++ { data := #[41] }) ++ a, wt + 1, catV v ua, rfl, ?_, ?_, by omega, by omega, ?_⟩, unhide HW⟩
  · rw [bytesN_app, par_bytes, unhide HAB]
    exact ((Gp.par (unhide HG).1).i.cat hA.i.b hA.1).q
  · show v.2 + ua.2 = _; omega
  · rw [ByteArray.size_append, par_size]; omega

set_option maxHeartbeats 1000000 in
theorem turned_1 (w : World) (t : ByteArray) (wt : Int) (c k : Nat) (v : Val) (hG : Gq (bytesN t) v) (hv : v.2 = wt) (h0 : 1 ≤ wt) (h1 : wt ≤ 1000) (ht : t.size ≤ 60) (hk : k ≤ 31) (e1 : (c : Int) / 8 = (k : Int)) (e2 : (c : Int) % 8 = 1) (hc : (c : Int) < 256) :
    Calls Try.prog 32 #[.string t, .int .i64 wt, .int .i64 (c : Int)] w fun e w' => Turned e ∧ Below w.heap.size w w' := by
  have HA := hide (atom_any w k (by omega))
  have HG := hide hG
  have HV := hide hv
  have HK := hide (show k % 16 < 16 by omega)
  have HT := hide ht
  clear hG hv hk
  go_enter Try.func32, Try.ntmps32
  go_wp2_with fail
  refine (unhide HA).mono ?_
  rintro e w1 ⟨⟨a, rfl, ha⟩, hw1⟩
  have has : a.size ≤ 9 := by rw [← bytesN_len, ha]; exact atom_size _ (unhide HK)
  have HAB := hide ha
  have HW := hide hw1
  clear ha hw1 HA
  go_wp2
  go_ret2
  obtain ⟨ua, hA, hw⟩ := atom_tab _ (unhide HK)
  have hv := unhide HV
  have ht := unhide HT
  refine ⟨⟨t ++ { data := #[124] } ++ a, wt + 1, altV v ua, rfl, ?_, ?_, by omega, by omega, ?_⟩, unhide HW⟩
  · rw [bytesN_app, bytesN_app, unhide HAB, List.append_assoc]
    exact (unhide HG).alt hA.i.b
  · show v.2 + ua.2 = _; omega
  · rw [ByteArray.size_append, ByteArray.size_append]; show t.size + 1 + a.size ≤ 100; omega

set_option maxHeartbeats 1000000 in
theorem turned_2 (w : World) (t : ByteArray) (wt : Int) (c k : Nat) (v : Val) (hG : Gq (bytesN t) v) (hv : v.2 = wt) (h0 : 1 ≤ wt) (h1 : wt ≤ 1000) (ht : t.size ≤ 60) (hk : k ≤ 31) (e1 : (c : Int) / 8 = (k : Int)) (e2 : (c : Int) % 8 = 2) (hc : (c : Int) < 256) :
    Calls Try.prog 32 #[.string t, .int .i64 wt, .int .i64 (c : Int)] w fun e w' => Turned e ∧ Below w.heap.size w w' := by
  have HA := hide (atom_any w k (by omega))
  have HG := hide hG
  have HV := hide hv
  have HK := hide (show k % 16 < 16 by omega)
  have HT := hide ht
  clear hG hv hk
  go_enter Try.func32, Try.ntmps32
  go_wp2_with fail
  refine (unhide HA).mono ?_
  rintro e w1 ⟨⟨a, rfl, ha⟩, hw1⟩
  have has : a.size ≤ 9 := by rw [← bytesN_len, ha]; exact atom_size _ (unhide HK)
  have HAB := hide ha
  have HW := hide hw1
  clear ha hw1 HA
  go_wp2
  go_ret2
  have hv := unhide HV
  have ht := unhide HT
  refine ⟨⟨({ data := #[40] } ++ t ++ { data := #[41] }) ++ { data := #[42] }, wt, starV v, rfl, ?_, ?_, by omega, by omega, ?_⟩, unhide HW⟩
  · rw [bytesN_app, par_bytes]
    exact (Gi.of (Gp.par (unhide HG).1) Gs.star).b.q
  · exact hv
  · rw [ByteArray.size_append, par_size]; show t.size + 2 + 1 ≤ 100; omega

set_option maxHeartbeats 1000000 in
theorem turned_3 (w : World) (t : ByteArray) (wt : Int) (c k : Nat) (v : Val) (hG : Gq (bytesN t) v) (hv : v.2 = wt) (h0 : 1 ≤ wt) (h1 : wt ≤ 1000) (ht : t.size ≤ 60) (hk : k ≤ 31) (e1 : (c : Int) / 8 = (k : Int)) (e2 : (c : Int) % 8 = 3) (hc : (c : Int) < 256) :
    Calls Try.prog 32 #[.string t, .int .i64 wt, .int .i64 (c : Int)] w fun e w' => Turned e ∧ Below w.heap.size w w' := by
  have HA := hide (atom_any w k (by omega))
  have HG := hide hG
  have HV := hide hv
  have HK := hide (show k % 16 < 16 by omega)
  have HT := hide ht
  clear hG hv hk
  go_enter Try.func32, Try.ntmps32
  go_wp2_with fail
  refine (unhide HA).mono ?_
  rintro e w1 ⟨⟨a, rfl, ha⟩, hw1⟩
  have has : a.size ≤ 9 := by rw [← bytesN_len, ha]; exact atom_size _ (unhide HK)
  have HAB := hide ha
  have HW := hide hw1
  clear ha hw1 HA
  go_wp2
  go_ret2
  have hv := unhide HV
  have ht := unhide HT
  refine ⟨⟨({ data := #[40] } ++ t ++ { data := #[41] }) ++ { data := #[63] }, wt, optV v, rfl, ?_, ?_, by omega, by omega, ?_⟩, unhide HW⟩
  · rw [bytesN_app, par_bytes]
    exact (Gi.of (Gp.par (unhide HG).1) Gs.opt).b.q
  · exact hv
  · rw [ByteArray.size_append, par_size]; show t.size + 2 + 1 ≤ 100; omega

set_option maxHeartbeats 1000000 in
theorem turned_6 (w : World) (t : ByteArray) (wt : Int) (c k : Nat) (v : Val) (hG : Gq (bytesN t) v) (hv : v.2 = wt) (h0 : 1 ≤ wt) (h1 : wt ≤ 1000) (ht : t.size ≤ 60) (hk : k ≤ 31) (e1 : (c : Int) / 8 = (k : Int)) (e2 : (c : Int) % 8 = 6) (hc : (c : Int) < 256) :
    Calls Try.prog 32 #[.string t, .int .i64 wt, .int .i64 (c : Int)] w fun e w' => Turned e ∧ Below w.heap.size w w' := by
  have HA := hide (atom_any w k (by omega))
  have HG := hide hG
  have HV := hide hv
  have HK := hide (show k % 16 < 16 by omega)
  have HT := hide ht
  clear hG hv hk
  go_enter Try.func32, Try.ntmps32
  go_wp2_with fail
  refine (unhide HA).mono ?_
  rintro e w1 ⟨⟨a, rfl, ha⟩, hw1⟩
  have has : a.size ≤ 9 := by rw [← bytesN_len, ha]; exact atom_size _ (unhide HK)
  have HAB := hide ha
  have HW := hide hw1
  clear ha hw1 HA
  go_wp2
  go_ret2
  have hv := unhide HV
  have ht := unhide HT
  refine ⟨⟨({ data := #[40] } ++ t ++ { data := #[41] }) ++ { data := #[43] }, wt, plusV v, rfl, ?_, ?_, by omega, by omega, ?_⟩, unhide HW⟩
  · rw [bytesN_app, par_bytes]
    exact (Gi.of (Gp.par (unhide HG).1) Gs.plus).b.q
  · exact hv
  · rw [ByteArray.size_append, par_size]; show t.size + 2 + 1 ≤ 100; omega

set_option maxHeartbeats 1000000 in
theorem turned_5 (w : World) (t : ByteArray) (wt : Int) (c k : Nat) (v : Val) (hG : Gq (bytesN t) v) (hv : v.2 = wt) (h0 : 1 ≤ wt) (h1 : wt ≤ 1000) (ht : t.size ≤ 60) (hk : k ≤ 31) (e1 : (c : Int) / 8 = (k : Int)) (e2 : (c : Int) % 8 = 5) (hc : (c : Int) < 256) :
    Calls Try.prog 32 #[.string t, .int .i64 wt, .int .i64 (c : Int)] w fun e w' => Turned e ∧ Below w.heap.size w w' := by
  have HA := hide (atom_any w k (by omega))
  have HG := hide hG
  have HV := hide hv
  have HK := hide (show k % 16 < 16 by omega)
  have HT := hide ht
  clear hG hv hk
  go_enter Try.func32, Try.ntmps32
  go_wp2_with fail
  refine (unhide HA).mono ?_
  rintro e w1 ⟨⟨a, rfl, ha⟩, hw1⟩
  have has : a.size ≤ 9 := by rw [← bytesN_len, ha]; exact atom_size _ (unhide HK)
  have HAB := hide ha
  have HW := hide hw1
  clear ha hw1 HA
  go_wp2
  go_ret2
  obtain ⟨ua, hA, hw⟩ := atom_tab _ (unhide HK)
  have hv := unhide HV
  have ht := unhide HT
  refine ⟨⟨a ++ ({ data := #[40] } ++ t ++ { data := #[41] }), wt + 1, catV ua v, rfl, ?_, ?_, by omega, by omega, ?_⟩, unhide HW⟩
  · rw [bytesN_app, par_bytes, unhide HAB]
    exact (hA.i.cat (Gp.par (unhide HG).1).i.b (parT_lead _)).q
  · show ua.2 + v.2 = _; omega
  · rw [ByteArray.size_append, par_size]; omega

set_option maxHeartbeats 1000000 in
theorem turned_7 (w : World) (t : ByteArray) (wt : Int) (c k : Nat) (v : Val) (hG : Gq (bytesN t) v) (hv : v.2 = wt) (_h0 : 1 ≤ wt) (_h1 : wt ≤ 1000) (ht : t.size ≤ 60) (hk : k ≤ 31) (e1 : (c : Int) / 8 = (k : Int)) (e2 : (c : Int) % 8 = 7) (hc : (c : Int) < 256) :
    Calls Try.prog 32 #[.string t, .int .i64 wt, .int .i64 (c : Int)] w fun e w' => Turned e ∧ Below w.heap.size w w' := by
  have HA := hide (atom_any w k (by omega))
  have HG := hide hG
  have HV := hide hv
  have HK := hide (show k % 16 < 16 by omega)
  have HT := hide ht
  clear hG hv hk
  go_enter Try.func32, Try.ntmps32
  go_wp2_with fail
  refine (unhide HA).mono ?_
  rintro e w1 ⟨⟨a, rfl, ha⟩, hw1⟩
  have has : a.size ≤ 9 := by rw [← bytesN_len, ha]; exact atom_size _ (unhide HK)
  have HAB := hide ha
  have HW := hide hw1
  clear ha hw1 HA
  go_wp2
  go_ret2
  obtain ⟨ua, hA, hw⟩ := atom_tab _ (unhide HK)
  refine ⟨⟨a, 1, ua, rfl, ?_, ?_, by omega, by omega, ?_⟩, unhide HW⟩
  · rw [unhide HAB]
    exact hA.i.b.q
  · exact hw
  · omega

end Go.Proofs.Ytobfpgoepaeknaa
