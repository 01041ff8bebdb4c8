/-
  The look over a text: place.
-/
import Derived.Test.YtohefinejdfhaaaRc
namespace Go.Proofs.Ytohefinejdfhaaa
open Go.RowKit

set_option maxHeartbeats 400000 in
theorem place_any (w : World) (t : ByteArray) (ht : t.size ≤ 60) :
    Calls Try.prog 33 #[.string t] w fun e w' => e = .returned (.int .i64 (placeS t)) ∧ Below w.heap.size w w' := by
  have ht' : (t.size : Int) ≤ 60 := by omega
  have S0 : ScB (w.alloc (Obj.cells #[.int .i64 0, .int .i64 0, .int .i64 0] 125)) w.heap.size ⟨0, 0, 0⟩ := heap_alloc_new w _
  have HS := hide (ScP.refl S0)
  have HW : Hid (Below w.heap.size w (w.alloc (Obj.cells #[.int .i64 0, .int .i64 0, .int .i64 0] 125))) := (Below.refl _ _).alloc (Nat.le_refl _) _
  clear S0
  go_enter Try.func33, Try.ntmps33
  go_wp2
  go_loopw [4] (fun i wr => ∃ (k : Nat) (x : Sc), i = .int .i64 k ∧ k ≤ t.size ∧ Hid (ScOk k x ∧ scanS t (t.size - k) k x = placeS t ∧ ScB wr w.heap.size x ∧ Below w.heap.size w wr)) (fun i _ => t.size - (intOf i).toNat)
  case atStart => exact ⟨0, ⟨0, 0, 0⟩, rfl, Nat.zero_le _, ⟨by decide, by decide, by decide, by decide, by decide, by decide⟩, rfl, (unhide HS).2, unhide HW⟩
  case round =>
    rename_i wr
    obtain ⟨k, x, rfl, hk, H⟩ := hrel
    obtain ⟨hok, hsc, hb, hbel⟩ := unhide H
    obtain ⟨k0, k1, k2⟩ := hb.cells
    by_cases hlt : k < t.size
    · have HG := hide (goes_any wr w.heap.size x (t[k].toNat : Int) hb (by have := hok.2.2.2.2.1; omega) (by have := hok.2.2.2.2.2; omega) hok.1 hok.2.1)
      obtain ⟨m, hm⟩ : ∃ m, t.size - k = m + 1 := ⟨t.size - k - 1, by omega⟩
      have hbe := byteAt_eq hlt
      by_cases hg : (goesS x (t[k].toNat : Int)).1 = true
      · have hn : scanS t (t.size - (k + 1)) (k + 1) (goesS x (t[k].toNat : Int)).2 = placeS t := by
          rw [← hsc, hm, scanS, hbe, if_pos hg, show t.size - (k + 1) = m from by omega]
        have HN := hide (And.intro (goesS_ok hok hg) hn)
        have HB := hide hbel
        have HGG := hide hg
        clear hok hsc hb hbel hn hbe hm k0 k1 k2 H
        generalize goesS x (t[k].toNat : Int) = r at *
        obtain ⟨r1, r2⟩ := r
        simp only at hg
        subst hg
        go_wp2_with (go_at_call 64; refine (unhide HG).mono ?_; rintro e w1 ⟨rfl, hw1⟩)
        go_roundw
        case rel => exact ⟨k + 1, r2, by go_num, by omega, (unhide HN).1, (unhide HN).2, hw1.2, (unhide HB).grown hw1.1 (unhide HB).size (fun k' hk' => by simp at hk'; omega)⟩
        case measure => simp [intOf]; omega
      · have hg' : (goesS x (t[k].toNat : Int)).1 = false := by simpa using hg
        have hn : placeS t = (k : Int) := by
          rw [← hsc, hm, scanS, hbe, if_neg hg]
        have HN := hide hn
        have HB := hide hbel
        clear hok hsc hb hbel hn hbe hm k0 k1 k2 H hg
        generalize goesS x (t[k].toNat : Int) = r at *
        obtain ⟨r1, r2⟩ := r
        simp only at hg'
        subst hg'
        go_wp2_with (go_at_call 64; refine (unhide HG).mono ?_; rintro e w1 ⟨rfl, hw1⟩)
        go_ret
        exact ⟨ret_int (unhide HN).symm, (unhide HB).grown hw1.1 (unhide HB).size (fun k' hk' => by simp at hk'; omega)⟩
    · have hk2 : t.size - k = 0 := by omega
      rw [hk2, scanS] at hsc
      have HSC := hide hsc
      have HB := hide hbel
      clear hsc hbel hb hok H hk2
      obtain ⟨md, dp, bk⟩ := x
      simp only at k0 k1 k2 HSC
      by_cases hd : 0 < dp
      · have HF : Hid (placeS t = (t.size : Int)) := by have := unhide HSC; rw [if_pos (by simp [hd])] at this; exact this.symm
        clear HSC
        go_wp2
        go_ret
        exact ⟨ret_int (unhide HF).symm, unhide HB⟩
      · by_cases hm : 1 < md
        · have HF : Hid (placeS t = (t.size : Int)) := by have := unhide HSC; rw [if_pos (by simp [hm])] at this; exact this.symm
          clear HSC
          go_wp2
          go_ret
          exact ⟨ret_int (unhide HF).symm, unhide HB⟩
        · have HF : Hid (placeS t = -1) := by have := unhide HSC; rw [if_neg (by simp; omega)] at this; exact this.symm
          clear HSC
          go_wp2
          go_ret
          exact ⟨ret_int (unhide HF).symm, unhide HB⟩

end Go.Proofs.Ytohefinejdfhaaa
