/-
  tuples.classesOf, next, isLetter, isFound.
-/
import Derived.Test.YtlafngfoejngaaaJb
namespace Go.Proofs.Ytlafngfoejngaaa
namespace Mc
open Go.RowKit
attribute [local go_sem ↓] Go.wp_at_zero Go.wp_at_succ

theorem VR.nil (w : World) (B : Nat) : VR w B (.slice none 0 0) [] := World.ownsRow_nil w B _ _
theorem mkV_ne {a b : List Nat} (ha : Byt a) (hb : Byt b) (h : a ≠ b) : ((mkV a).toList == (mkV b).toList) = false := by
  rw [beq_eq_false_iff_ne]
  intro e
  rw [ByteArray.toList_eq, ByteArray.toList_eq] at e
  exact h (mkV_inj ha hb (ByteArray.ext (Array.toList_inj.1 e)))
/-- A row of bytes in the making. -/
structure VrI (w wr : World) (va : Option Addr) (vc : Nat) (xs : List Nat) : Prop where
  below : Below w.heap.size w wr
  row : VR wr w.heap.size (.slice va xs.length vc) xs
section
variable {w wr w2 : World} {va : Option Addr} {vc : Nat} {xs : List Nat}
theorem VrI.start (w : World) : VrI w w none 0 [] := ⟨Below.refl _ _, VR.nil _ _⟩
theorem VrI.alloc (h : VrI w wr va vc xs) (o : Obj) : VrI w (wr.alloc o) va vc xs := ⟨h.below.alloc h.below.size _, (Fr.ofAlloc wr o).own h.row (by simp)⟩
theorem VrI.drewN (h : VrI w wr va vc xs) (n : Nat) : VrI w (wr.drewN n) va vc xs := ⟨⟨h.below.os, h.below.tape, h.below.output, h.below.size, h.below.block⟩, h.row⟩
theorem VrI.push (h : VrI w wr va vc xs) {g cap y : Nat} (hgrow : wr.grownBy w2 (.slice va xs.length vc : Value).ownBlock) (ho : w2.ownsRow w.heap.size 5 1 (.slice (some ⟨g, 0, none⟩) (xs.length + 1) cap) (xs.length + 1) (vcs xs ++ [.int .u8 (y : Int)])) : VrI w w2 (some ⟨g, 0, none⟩) cap (xs ++ [y]) := by
  refine ⟨below_grown h.below hgrow h.below.size (fun q hq => (h.row.lt q hq).1), ?_⟩
  rw [List.length_append]
  exact VR.of ho
theorem VrI.form (h : VrI w wr va vc xs) (hp : 0 < xs.length) : ∃ g, va = some ⟨g, 0, none⟩ := by
  obtain ⟨g0, cap0, he⟩ := own_form (show wr.ownsRow w.heap.size 5 1 (.slice va xs.length vc) xs.length _ from h.row) hp
  simp only [Value.slice.injEq, true_and] at he
  exact ⟨g0, he.1⟩
end

theorem Byt.rmap {m : Nat} {f : Nat → Nat} (h : ∀ i, i < m → f i < 256) : Byt ((List.range m).map f) := fun b hb => by
  obtain ⟨i, hi, rfl⟩ := List.mem_map.1 hb
  exact h i (List.mem_range.1 hi)

set_option maxRecDepth 20000 in
set_option maxHeartbeats 1000000 in
theorem classesOf_any (w : World) (B g m tc : Nat) (ts : Nat → TabN) (ht : Tbs w B g m ts) (hB : B ≤ w.heap.size) (h1 : 1 ≤ m) (h8 : m ≤ 8) (hok : ∀ i, i < m → (ts i).Ok) (b : Nat) (hb : b < 256) :
    Calls Try.prog 59 #[.slice (some ⟨g, 0, none⟩) m tc, .int .u8 (b : Int)] w fun e w' => e = .returned (.string (mkV (clT m ts b))) ∧ Below w.heap.size w w' := by
  have hmI : (m : Int) ≤ 8 := by omega
  have hbI : (b : Int) < 256 := by omega
  have HT := hide ht
  have HB := hide hB
  have H1 := hide h1
  have H8 := hide h8
  have HOK := hide hok
  have HBB := hide hb
  clear ht hB h1 h8 hok hb
  go_enter Try.func59, Try.ntmps59
  go_wp2_with fail
  go_loopw [5, 6] (fun vx ix wr => ∃ (i : Nat) (va : Option Addr) (vc : Nat), vx = .slice va i vc ∧ ix = .int .i64 (i : Int) ∧ Hid (i ≤ m ∧ VrI w wr va vc ((List.range i).map fun j => (ts j).cl b))) (fun _ ix _ => lenLeft m ix)
  case atStart => exact ⟨0, none, 0, rfl, rfl, Nat.zero_le _, VrI.start w⟩
  case round =>
    rename World => wr
    obtain ⟨i, va, vc, rfl, rfl, HH⟩ := hrel
    obtain ⟨hi, hI⟩ := unhide HH
    clear HH
    by_cases hlt : i < m
    · have hiI : (i : Int) < (m : Int) := by omega
      have hi0 : (0 : Int) ≤ (i : Int) := by omega
      have hi1 : ((i : Int)).toNat = i := by omega
      have hgl : g < wr.heap.size := by have := (unhide HT).lt; have := unhide HB; have := hI.below.size; omega
      have HTA := hide (((unhide HT).below (hI.below.mono (unhide HB))).tba hlt)
      have hw := u8_wrap ((ts i).cl b) (by have h1 := (unhide HOK i hlt).cl b (unhide HBB); have := (unhide HOK i hlt).c2; omega)
      have HSN := hide (rmap_snoc i (fun j => (ts j).cl b))
      have HLN := hide (rmap_len i (fun j => (ts j).cl b))
      have HLT := hide hlt
      have HC := hide (Class_at wr B g (i * 259) (ts i) (unhide HTA) b (unhide HBB))
      have HXA := hide (fun y : Nat => hI.alloc (Obj.cells #[.int .u8 (y : Int)] 5))
      have HSZ : Hid (w.heap.size ≤ wr.heap.size) := hI.below.size
      clear hlt hi hI HTA
      generalize (ts i).cl b = y at *
      generalize (List.range i).map (fun j => (ts j).cl b) = xs at *
      have hxl := unhide HLN
      subst hxl
      go_wp2_with fail
      refine (unhide HC).mono ?_
      rintro e w1 ⟨rfl, rfl⟩
      clear HC
      go_wp2_with (at_builtin; refine appV rfl (.tmp 19) (.tmp 22) rfl w.heap.size _ xs rfl (unhide HXA y).row w1.heap.size _ rfl (new_cell rfl) (by have := unhide HLT; have := unhide H8; omega) (by have := unhide HSZ; simp; omega) (w1.heap.size + 1) (by simp) ?_; intro g5 cap5 w8 ho hgrow hlies hlt5; have HP9 := hide ((unhide HXA y).push hgrow ho); clear ho hgrow hlies)
      go_roundw
      case rel => exact ⟨xs.length + 1, some ⟨g5, 0, none⟩, cap5, rfl, by go_num, unhide HLT, by rw [unhide HSN]; exact unhide HP9⟩
      case measure => have := unhide HLT; simp [lenLeft, intOf]; omega
    · have hi2 : i = m := by omega
      subst hi2
      have hiI : ¬ (i : Int) < (i : Int) := by omega
      have hln := rmap_len i (fun j => (ts j).cl b)
      obtain ⟨g0, rfl⟩ := hI.form (by rw [hln]; exact unhide H1)
      have hby : Byt ((List.range i).map fun j => (ts j).cl b) := Byt.rmap fun j hj => by have h1 := (unhide HOK j hj).cl b (unhide HBB); have := (unhide HOK j hj).c2; omega
      have hcv := conv_mv hI.row hby
      rw [hln] at hcv
      have HBW := hide hI.below
      clear hlt hi hI hln hby
      go_wp2_with fail
      go_ret
      exact ⟨rfl, unhide HBW⟩

end Mc
end Go.Proofs.Ytlafngfoejngaaa
