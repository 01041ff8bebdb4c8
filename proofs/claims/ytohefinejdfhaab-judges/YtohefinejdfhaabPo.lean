/-
  judge.memory: what a secret and the code's data are laid into.
-/
import Derived.Test.YtohefinejdfhaabPm
import Derived.Test.YtohefinejdfhaabPn
namespace Go.Proofs.Ytohefinejdfhaab
namespace Mc
open Go.RowKit
attribute [local go_sem ↓] Go.wp_at_zero Go.wp_at_succ

/-- The words ahead of the data, with so many bytes of the secret. -/
def memW (s : ByteArray) : Nat → List Nat
  | 0 => (List.replicate 32 0).set 0 s.size
  | i + 1 => (memW s i).set (1 + i) (bt s i)
theorem memW_len (s : ByteArray) : ∀ i, (memW s i).length = 32
  | 0 => by rw [memW, List.length_set, List.length_replicate]
  | i + 1 => by rw [memW, List.length_set, memW_len s i]
/-- A row of numbers is appended. -/
theorem appR {ops : Array Oper} {rest : List Oper} {o : Oper} {a : Act} {W : World} {Q : Exit → Act → World → Prop} (hgd : o.guard = none) (s x : Operand)
    (ho : o.op = .call { callee := .builtin .append, args := #[s, x], argTypes := #[48, 48] }) (B : Nat) (v : Value) (xs : List Nat) (hs : a.eval s = v) (hown : NR W B v xs) (g0 cap0 B0 : Nat) (ys : List Nat)
    (hx : a.eval x = .slice (some ⟨g0, 0, none⟩) ys.length cap0) (hy : NR W B0 (.slice (some ⟨g0, 0, none⟩) ys.length cap0) ys) (hp : 0 < ys.length) (hlen : xs.length + ys.length ≤ 3000000) (hB : B ≤ W.heap.size) (H : Nat) (hH : W.heap.size = H)
    (h : ∀ g cap w', NR w' B (.slice (some ⟨g, 0, none⟩) (xs.length + ys.length) cap) (xs ++ ys) → W.grownBy w' v.ownBlock → (v.ownBlock = some g ∨ g = H) → g < w'.heap.size → wpList Try.prog ops Q rest (a.put o.dst (.slice (some ⟨g, 0, none⟩) (xs.length + ys.length) cap)) w') : wpList Try.prog ops Q (o :: rest) a W := by
  obtain ⟨i, i0, i1, i2, i3⟩ := info_of infoI
  refine wpList_append_lies W hgd s x 48 ho B 3 i (.int .i64 0) 1 8 Try.underlying48 i0 i1 i2 i3 rfl (by decide) v xs.length (ncs xs) hs hown ⟨g0, 0, none⟩ ys.length cap0 (ncs ys) hx (by rw [ncs_len, Nat.mul_one]) ?_ (ncs_one ys) hp (by unfold maxLen; omega) (by omega) hB H hH ?_
  · intro j u hj
    have hy' : W.ownsRow B0 3 1 (.slice (some ⟨g0, 0, none⟩) ys.length cap0) ys.length (ncs ys) := hy
    exact hy'.cells (g := g0) rfl j u hj
  · intro g cap w' h1 h2 h3 h4
    refine h g cap w' ?_ h2 h3 h4
    unfold NR
    rw [List.length_append, show ncs (xs ++ ys) = ncs xs ++ ncs ys from by unfold ncs; rw [List.map_append]]
    exact h1

set_option maxRecDepth 20000 in
set_option maxHeartbeats 1000000 in
theorem memory_any (w : World) (s : ByteArray) (B0 : Nat) (dv : Value) (ds : List Nat) (hd : NR w B0 dv ds) (hp : 0 < ds.length) (hl : ds.length ≤ 4000) (hs : s.size ≤ 16) :
    Calls Try.prog 68 #[.string s, dv] w fun e w' => ∃ v, e = .returned v ∧ Below w.heap.size w w' ∧ NR w' w.heap.size v (memW s s.size ++ ds) := by
  obtain ⟨gd, capd, rfl⟩ := own_form (show w.ownsRow B0 3 1 dv ds.length (ncs ds) from hd) hp
  obtain ⟨mc, hmk, HNR⟩ : ∃ mc, (Instr.makeSlice 48 (.int .i64 32) (.int .i64 32)).run Try.prog w = .ok (.slice (some ⟨w.heap.size, 0, none⟩) 32 32) (w.alloc (.cells mc 3)) ∧ Hid (NR (w.alloc (.cells mc 3)) w.heap.size (.slice (some ⟨w.heap.size, 0, none⟩) 32 32) (List.replicate 32 0)) := by
    obtain ⟨i, i0, i1, i2, i3⟩ := info_of infoI
    have := run_make (P := Try.prog) w 48 3 i (.int .i64 0) Try.underlying48 i0 i1 .i64 .i64 32 32 (by decide) (by decide) (by rw [i3]; decide) (by decide)
    rw [i2] at this
    exact ⟨_, this, NR.new (n := 32) (Nat.le_refl _) (by unfold maxLen; omega)⟩
  have HB0 : Hid (Below w.heap.size w (w.alloc (.cells mc 3))) := (Below.refl _ _).alloc (Nat.le_refl _) _
  have HD := hide (fun w' (hb : Below w.heap.size w w') => (Fr.ofBelow hb).own hd (by simp))
  have HR1 : Hid (NR ((w.alloc (.cells mc 3)).setCell ⟨w.heap.size, 0, none⟩ (.int .i64 (s.size : Int))) w.heap.size (.slice (some ⟨w.heap.size, 0, none⟩) 32 32) (memW s 0)) := (unhide HNR).put 0 s.size
  have HB1 : Hid (Below w.heap.size w ((w.alloc (.cells mc 3)).setCell ⟨w.heap.size, 0, none⟩ (.int .i64 (s.size : Int)))) := below_set (unhide HB0) (Nat.le_refl _)
  obtain ⟨g', cap', he, c0⟩ := (unhide HNR).at (k := 0) (by simp)
  simp only [Value.slice.injEq, Option.some.injEq, Addr.mk.injEq, and_true] at he
  obtain ⟨rfl, -, rfl⟩ := he
  have f0 := own_free (unhide HNR) 0
  have hsI : (s.size : Int) ≤ 16 := by omega
  have HL := hide hl
  have HP := hide hp
  clear hd hl hp
  generalize hgH : w.heap.size = H at *
  have HGH := hide hgH
  clear hgH
  go_enter Try.func68, Try.ntmps68
  go_wp2_with fail
  generalize (w.alloc (.cells mc 3)).setCell ⟨H, 0, none⟩ (.int .i64 (s.size : Int)) = w1 at *
  clear hmk HNR HB0 c0 f0
  go_loopw [6] (fun ix wr => ∃ i : Nat, ix = .int .i64 (i : Int) ∧ Hid (i ≤ s.size ∧ Below H w wr ∧ NR wr H (.slice (some ⟨H, 0, none⟩) 32 32) (memW s i))) (fun ix _ => lenLeft s.size ix)
  case atStart => exact ⟨0, rfl, Nat.zero_le _, unhide HB1, unhide HR1⟩
  case round =>
    clear HB1 HR1
    rename World => wr
    obtain ⟨i, rfl, HH⟩ := hrel
    obtain ⟨hi, hB, hR⟩ := unhide HH
    clear HH
    by_cases hlt : i < s.size
    · have hltI : (i : Int) < (s.size : Int) := by omega
      have hi16 : (i : Int) < 16 := by omega
      have hb := bt_at s i
      have hbI : ((bt s i : Nat) : Int) < 256 := by have := bt_le s i; omega
      have h0 : (0 : Int) ≤ (i : Int) := by omega
      have h1 : ((i : Int)).toNat = i := by omega
      have e1 : (1 : Int) + (i : Int) = ((1 + i : Nat) : Int) := by omega
      have ew : IntKind.i64.wrap ((1 + i : Nat) : Int) = ((1 + i : Nat) : Int) := wrap_i64 (1 + i) (by omega)
      have hx0 : (0 : Int) ≤ ((1 + i : Nat) : Int) := by omega
      have hx1 : (((1 + i : Nat) : Int)).toNat = 1 + i := by omega
      have hx2 : ((1 + i : Nat) : Int) < 32 := by omega
      have hx3 : 1 + i < 32 := by omega
      obtain ⟨g', cap', he, c1⟩ := hR.at (k := 1 + i) (by rw [memW_len]; omega)
      simp only [Value.slice.injEq, Option.some.injEq, Addr.mk.injEq, and_true] at he
      obtain ⟨rfl, -, rfl⟩ := he
      have f1 := own_free (show wr.ownsRow H 3 1 (.slice (some ⟨H, 0, none⟩) 32 32) 32 (ncs (memW s i)) from by have : NR wr H (.slice (some ⟨H, 0, none⟩) 32 32) (memW s i) := hR; unfold NR at this; rwa [memW_len] at this) (1 + i)
      have HN : Hid (NR (wr.setCell ⟨H, 1 + i, none⟩ (.int .i64 ((bt s i : Nat) : Int))) H (.slice (some ⟨H, 0, none⟩) 32 32) (memW s (i + 1))) := by
        have h3 : NR wr H (.slice (some ⟨H, 0, none⟩) (memW s i).length 32) (memW s i) := by rw [memW_len]; exact hR
        have := h3.put (1 + i) (bt s i)
        rw [memW_len] at this
        exact this
      have HB2 : Hid (Below H w (wr.setCell ⟨H, 1 + i, none⟩ (.int .i64 ((bt s i : Nat) : Int)))) := below_set hB (Nat.le_refl _)
      have HLT := hide hlt
      clear hi hB hR
      generalize (memW s i).getD (1 + i) 0 = y at *
      generalize hk : 1 + i = k at *
      go_wp2_with fail
      go_roundw
      case rel => exact ⟨i + 1, by go_num, unhide HLT, unhide HB2, unhide HN⟩
      case measure => have := unhide HLT; simp [lenLeft, intOf]; omega
    · have hi2 : i = s.size := by omega
      subst hi2
      have HB := hide hB
      have HR : Hid (NR wr H (.slice (some ⟨H, 0, none⟩) (memW s s.size).length 32) (memW s s.size)) := by rw [memW_len]; exact hR
      have HSZ : Hid (H ≤ wr.heap.size) := by have := hB.size; have := unhide HGH; show _ ≤ _; omega
      have HML := hide (memW_len s s.size)
      clear hi hB hR hlt
      generalize hms : memW s s.size = ms at *
      have HMS := hide hms
      clear hms
      go_wp2_with (at_builtin; refine appR rfl (.tmp 30) (.tmp 31) rfl H (.slice (some ⟨H, 0, none⟩) 32 32) ms rfl (by have := unhide HR; rwa [unhide HML] at this) gd capd B0 ds rfl (unhide HD wr (unhide HB)) (unhide HP) (by have := unhide HL; have := unhide HML; omega) (unhide HSZ) wr.heap.size rfl ?_; intro g5 cap5 w8 ho hgrow hlies hlt5; have HO := hide ho; have HB8 := hide (below_grown (unhide HB) hgrow (unhide HSZ) (fun q hq => by have : H = q := (by simpa [Value.ownBlock] using hq); omega)); clear ho hgrow hlies)
      go_ret
      rw [unhide HMS]
      exact ⟨_, rfl, unhide HB8, unhide HO⟩

end Mc
end Go.Proofs.Ytohefinejdfhaab
