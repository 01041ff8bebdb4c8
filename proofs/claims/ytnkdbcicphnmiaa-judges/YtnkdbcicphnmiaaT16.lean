/-
  veilkeep.laid, veilkeep.sameOps.
  What Judges does with the lists that came out.
-/
import Derived.Test.YtnkdbcicphnmiaaHn
namespace Go.Proofs.Ytnkdbcicphnmiaa
namespace Mc
open Go.RowKit
attribute [local go_sem ↓] Go.wp_at_zero Go.wp_at_succ

set_option maxRecDepth 20000 in
set_option maxHeartbeats 1000000 in
theorem klaid_any (w : World) (s : ByteArray) (B0 : Nat) (dv : Value) (ds : List Nat) (hd : NR w B0 dv ds) (hp : 0 < ds.length) (hl : ds.length ≤ 4000) (hs : s.size ≤ 16) :
    Calls Try.prog 27 #[.string s, dv] w fun e w' => ∃ v, e = .returned (.tuple #[v, .bool true]) ∧ Below w.heap.size w w' ∧ NR w' w.heap.size v (memW s s.size ++ ds) := by
  obtain ⟨gd, capd, rfl⟩ := own_form (show w.ownsRow B0 3 1 dv ds.length (ncs ds) from hd) hp
  obtain ⟨mc, hmk, HNR⟩ : ∃ mc, (Instr.makeSlice 23 (.int .i64 32) (.int .i64 32)).run Try.prog w = .ok (.slice (some ⟨w.heap.size, 0, none⟩) 32 32) (w.alloc (.cells mc 3)) ∧ Hid (NR (w.alloc (.cells mc 3)) w.heap.size (.slice (some ⟨w.heap.size, 0, none⟩) 32 32) (List.replicate 32 0)) := by
    obtain ⟨i, i0, i1, i2, i3⟩ := info_of infoI
    have := run_make (P := Try.prog) w 23 3 i (.int .i64 0) Try.underlying23 i0 i1 .i64 .i64 32 32 (by decide) (by decide) (by rw [i3]; decide) (by decide)
    rw [i2] at this
    exact ⟨_, this, NR.new (n := 32) (Nat.le_refl _) (by unfold maxLen; omega)⟩
  have HB0 : Hid (Below w.heap.size w (w.alloc (.cells mc 3))) := (Below.refl _ _).alloc (Nat.le_refl _) _
  have HD := hide (fun w' (hb : Below w.heap.size w w') => (Fr.ofBelow hb).own hd (by simp))
  have HR1 : Hid (NR ((w.alloc (.cells mc 3)).setCell ⟨w.heap.size, 0, none⟩ (.int .i64 (s.size : Int))) w.heap.size (.slice (some ⟨w.heap.size, 0, none⟩) 32 32) (memW s 0)) := (unhide HNR).put 0 s.size
  have HB1 : Hid (Below w.heap.size w ((w.alloc (.cells mc 3)).setCell ⟨w.heap.size, 0, none⟩ (.int .i64 (s.size : Int)))) := below_set (unhide HB0) (Nat.le_refl _)
  obtain ⟨g', cap', he, c0⟩ := (unhide HNR).at (k := 0) (by simp)
  simp only [Value.slice.injEq, Option.some.injEq, Addr.mk.injEq, and_true] at he
  obtain ⟨rfl, -, rfl⟩ := he
  have f0 := own_free (unhide HNR) 0
  have hsI : (s.size : Int) ≤ 16 := by omega
  have hdI : (ds.length : Int) ≤ 4000 := by omega
  have HL := hide hl
  have HP := hide hp
  clear hd hl hp
  generalize hgH : w.heap.size = H at *
  have HGH := hide hgH
  clear hgH
  go_enter Try.func27, Try.ntmps27
  go_wp2_with fail
  generalize (w.alloc (.cells mc 3)).setCell ⟨H, 0, none⟩ (.int .i64 (s.size : Int)) = w1 at *
  clear hmk HNR HB0 c0 f0
  go_loopw [7] (fun ix wr => ∃ i : Nat, ix = .int .i64 (i : Int) ∧ Hid (i ≤ s.size ∧ Below H w wr ∧ NR wr H (.slice (some ⟨H, 0, none⟩) 32 32) (memW s i))) (fun ix _ => lenLeft s.size ix)
  case atStart => exact ⟨0, rfl, Nat.zero_le _, unhide HB1, unhide HR1⟩
  case round =>
    clear HB1 HR1
    rename World => wr
    obtain ⟨i, rfl, HH⟩ := hrel
    obtain ⟨hi, hB, hR⟩ := unhide HH
    clear HH
    by_cases hlt : i < s.size
    · have hltI : (i : Int) < (s.size : Int) := by omega
      have hi16 : (i : Int) < 16 := by omega
      have hb := bt_at s i
      have hbI : ((bt s i : Nat) : Int) < 256 := by have := bt_le s i; omega
      have h0 : (0 : Int) ≤ (i : Int) := by omega
      have h1 : ((i : Int)).toNat = i := by omega
      have e1 : (1 : Int) + (i : Int) = ((1 + i : Nat) : Int) := by omega
      have ew : IntKind.i64.wrap ((1 + i : Nat) : Int) = ((1 + i : Nat) : Int) := wrap_i64 (1 + i) (by omega)
      have hx0 : (0 : Int) ≤ ((1 + i : Nat) : Int) := by omega
      have hx1 : (((1 + i : Nat) : Int)).toNat = 1 + i := by omega
      have hx2 : ((1 + i : Nat) : Int) < 32 := by omega
      have hx3 : 1 + i < 32 := by omega
      obtain ⟨g', cap', he, c1⟩ := hR.at (k := 1 + i) (by rw [memW_len]; omega)
      simp only [Value.slice.injEq, Option.some.injEq, Addr.mk.injEq, and_true] at he
      obtain ⟨rfl, -, rfl⟩ := he
      have f1 := own_free (show wr.ownsRow H 3 1 (.slice (some ⟨H, 0, none⟩) 32 32) 32 (ncs (memW s i)) from by have : NR wr H (.slice (some ⟨H, 0, none⟩) 32 32) (memW s i) := hR; unfold NR at this; rwa [memW_len] at this) (1 + i)
      have HN : Hid (NR (wr.setCell ⟨H, 1 + i, none⟩ (.int .i64 ((bt s i : Nat) : Int))) H (.slice (some ⟨H, 0, none⟩) 32 32) (memW s (i + 1))) := by
        have h3 : NR wr H (.slice (some ⟨H, 0, none⟩) (memW s i).length 32) (memW s i) := by rw [memW_len]; exact hR
        have := h3.put (1 + i) (bt s i)
        rw [memW_len] at this
        exact this
      have HB2 : Hid (Below H w (wr.setCell ⟨H, 1 + i, none⟩ (.int .i64 ((bt s i : Nat) : Int)))) := below_set hB (Nat.le_refl _)
      have HLT := hide hlt
      clear hi hB hR
      generalize (memW s i).getD (1 + i) 0 = y at *
      generalize hk : 1 + i = k at *
      go_wp2_with fail
      go_roundw
      case rel => exact ⟨i + 1, by go_num, unhide HLT, unhide HB2, unhide HN⟩
      case measure => have := unhide HLT; simp [lenLeft, intOf]; omega
    · have hi2 : i = s.size := by omega
      subst hi2
      have HB := hide hB
      have HR : Hid (NR wr H (.slice (some ⟨H, 0, none⟩) (memW s s.size).length 32) (memW s s.size)) := by rw [memW_len]; exact hR
      have HSZ : Hid (H ≤ wr.heap.size) := by have := hB.size; have := unhide HGH; show _ ≤ _; omega
      have HML := hide (memW_len s s.size)
      clear hi hB hR hlt
      generalize hms : memW s s.size = ms at *
      have HMS := hide hms
      clear hms
      go_wp2_with (at_builtin; refine appR rfl (.tmp 30) (.tmp 31) rfl H (.slice (some ⟨H, 0, none⟩) 32 32) ms rfl (by have := unhide HR; rwa [unhide HML] at this) gd capd B0 ds rfl (unhide HD wr (unhide HB)) (unhide HP) (by have := unhide HL; have := unhide HML; omega) (unhide HSZ) wr.heap.size rfl ?_; intro g5 cap5 w8 ho hgrow hlies hlt5; have HO := hide ho; have HB8 := hide (below_grown (unhide HB) hgrow (unhide HSZ) (fun q hq => by have : H = q := (by simpa [Value.ownBlock] using hq); omega)); clear ho hgrow hlies)
      refine bodyPost_ret (v := .tuple #[.slice (some ⟨g5, 0, none⟩) (ms.length + ds.length) cap5, .bool true]) (by simp [results, Try.results27, go_sem]) rfl ?_
      rw [unhide HMS]
      exact ⟨_, rfl, unhide HB8, unhide HO⟩

set_option maxRecDepth 20000 in
set_option maxHeartbeats 1000000 in
theorem ksameOps_any (w : World) (av bv : Value) (os : List OpI) (ha : OAt w av os) (hb : OAt w bv os) (hz : os.length ≤ 4398046511104) :
    Calls Try.prog 29 #[av, bv] w fun e w' => e = .returned (.bool true) ∧ Below w.heap.size w w' := by
  obtain ⟨aa, ac, rfl, hac⟩ := ha
  obtain ⟨ba, bc, rfl, hbc⟩ := hb
  have HA := hide hac
  have HB := hide hbc
  have hzI : (os.length : Int) ≤ 4398046511104 := by omega
  clear hac hbc hz
  go_enter Try.func29, Try.ntmps29
  go_wp2_with fail
  go_loopw [5] (fun ix wr => ∃ i : Nat, ix = .int .i64 (i : Int) ∧ Hid (i ≤ os.length ∧ Below w.heap.size w wr)) (fun ix _ => lenLeft os.length ix)
  case atStart => exact ⟨0, rfl, Nat.zero_le _, Below.refl _ _⟩
  case round =>
    rename World => wr
    obtain ⟨i, rfl, HH⟩ := hrel
    obtain ⟨hi, hBw⟩ := unhide HH
    have HBW := hide hBw
    by_cases hlt : i < os.length
    · obtain ⟨b1, o1, rfl, h1⟩ := unhide HA (by omega)
      obtain ⟨b2, o2, rfl, h2⟩ := unhide HB (by omega)
      obtain ⟨c0, c1, c2, c3⟩ := (h1 i hlt).below hBw
      obtain ⟨d0, d1, d2, d3⟩ := (h2 i hlt).below hBw
      have hiI : (i : Int) < (os.length : Int) := by omega
      have HLT := hide hlt
      clear HH hi hBw hlt h1 h2
      generalize os.getD i op0 = o at *
      go_wp2_with fail
      go_region
      all_goals
        go_wp2_with fail
        go_roundw
        case rel => exact ⟨i + 1, by go_num, unhide HLT, (unhide HBW).drew⟩
        case measure => have := unhide HLT; simp [lenLeft, intOf]; omega
    · have hi2 : i = os.length := by omega
      subst hi2
      clear HH hi hBw hlt
      go_wp2_with fail
      go_ret
      exact ⟨rfl, unhide HBW⟩


end Mc
end Go.Proofs.Ytnkdbcicphnmiaa
namespace Go.Proofs.Ytnkdbcicphnmiaa
namespace Mc
open Go.RowKit

theorem kOpIn_set {cu : Array Value} {i j : Nat} {o : OpI} (h : OpIn cu i o) (hne : i ≠ j) (u0 u1 u2 u3 : Value) : OpIn ((((cu.setIfInBounds (j * 4) u0).setIfInBounds (j * 4 + 1) u1).setIfInBounds (j * 4 + 2) u2).setIfInBounds (j * 4 + 3) u3) i o := by
  obtain ⟨h0, h1, h2, h3⟩ := h
  have e : ∀ d, d < 4 → ((((cu.setIfInBounds (j * 4) u0).setIfInBounds (j * 4 + 1) u1).setIfInBounds (j * 4 + 2) u2).setIfInBounds (j * 4 + 3) u3)[i * 4 + d]? = cu[i * 4 + d]? := fun d hd => by
    rw [Array.getElem?_setIfInBounds_ne (by omega), Array.getElem?_setIfInBounds_ne (by omega), Array.getElem?_setIfInBounds_ne (by omega), Array.getElem?_setIfInBounds_ne (by omega)]
  exact ⟨(e 0 (by omega)).trans h0, (e 1 (by omega)).trans h1, (e 2 (by omega)).trans h2, (e 3 (by omega)).trans h3⟩
theorem kOpIn_new {cu : Array Value} {j : Nat} (hj : j * 4 + 3 < cu.size) (o : OpI) : OpIn ((((cu.setIfInBounds (j * 4) (.int .i64 o.k)).setIfInBounds (j * 4 + 1) (.int .i64 o.a)).setIfInBounds (j * 4 + 2) (.int .i64 o.b)).setIfInBounds (j * 4 + 3) (.int .i64 o.c)) j o := by
  refine ⟨?_, ?_, ?_, ?_⟩
  · rw [Array.getElem?_setIfInBounds_ne (by omega), Array.getElem?_setIfInBounds_ne (by omega), Array.getElem?_setIfInBounds_ne (by omega), Array.getElem?_setIfInBounds, if_pos rfl, if_pos (by omega)]
  · rw [Array.getElem?_setIfInBounds_ne (by omega), Array.getElem?_setIfInBounds_ne (by omega), Array.getElem?_setIfInBounds, if_pos rfl, if_pos (by simp; omega)]
  · rw [Array.getElem?_setIfInBounds_ne (by omega), Array.getElem?_setIfInBounds, if_pos rfl, if_pos (by simp; omega)]
  · rw [Array.getElem?_setIfInBounds, if_pos rfl, if_pos (by simp; omega)]

/-- The first so many places of a row of operations hold one operation. -/
def KFull (w : World) (g cap n : Nat) (o : OpI) : Prop := ∃ cu, w.heap[g]? = some (.cells cu 62 (0, 0)) ∧ cu.size = cap * 4 ∧ ∀ j, j < n → OpIn cu j o
theorem KFull.fr {w w' : World} {g cap n : Nat} {o : OpI} {S : List Nat} (h : KFull w g cap n o) (f : Fr S w w') (hn : g ∉ S) : KFull w' g cap n o := by
  obtain ⟨cu, h1, h2⟩ := h
  exact ⟨cu, f.at h1 hn, h2⟩
theorem KFull.cells {w : World} {g cap n : Nat} {o : OpI} (h : KFull w g cap n o) {j : Nat} (hj : j < n) : w.cell? ⟨g, j * 4, none⟩ = some (.int .i64 o.k) ∧ w.cell? ⟨g, j * 4 + 1, none⟩ = some (.int .i64 o.a) ∧ w.cell? ⟨g, j * 4 + 2, none⟩ = some (.int .i64 o.b) ∧ w.cell? ⟨g, j * 4 + 3, none⟩ = some (.int .i64 o.c) := by
  obtain ⟨cu, h1, h2, h3⟩ := h
  obtain ⟨a, b, c, d⟩ := h3 j hj
  refine ⟨?_, ?_, ?_, ?_⟩ <;> rw [cell_of_row _ _ _ _ _ _ h1] <;> assumption
theorem KFull.any {w : World} {g cap n : Nat} {o : OpI} (h : KFull w g cap n o) {j : Nat} (hj : j < cap) (hn : n = j) : ∃ y0 y1 y2 y3, (w.cell? ⟨g, j * 4, none⟩ = some y0 ∧ w.cell? ⟨g, j * 4 + 1, none⟩ = some y1 ∧ w.cell? ⟨g, j * 4 + 2, none⟩ = some y2 ∧ w.cell? ⟨g, j * 4 + 3, none⟩ = some y3) ∧ (∀ k, w.frozen? ⟨g, k, none⟩ = false) ∧
    KFull ((((w.setCell ⟨g, j * 4, none⟩ (.int .i64 o.k)).setCell ⟨g, j * 4 + 1, none⟩ (.int .i64 o.a)).setCell ⟨g, j * 4 + 2, none⟩ (.int .i64 o.b)).setCell ⟨g, j * 4 + 3, none⟩ (.int .i64 o.c)) g cap (j + 1) o := by
  subst hn
  obtain ⟨cu, hg, hs, hb⟩ := h
  refine ⟨cu[n * 4]'(by omega), cu[n * 4 + 1]'(by omega), cu[n * 4 + 2]'(by omega), cu[n * 4 + 3]'(by omega), ⟨?_, ?_, ?_, ?_⟩, fun k => frozen_of_row _ _ _ _ _ hg, ?_⟩
  · rw [cell_of_row _ _ _ _ _ _ hg]; exact Array.getElem?_eq_getElem _
  · rw [cell_of_row _ _ _ _ _ _ hg]; exact Array.getElem?_eq_getElem _
  · rw [cell_of_row _ _ _ _ _ _ hg]; exact Array.getElem?_eq_getElem _
  · rw [cell_of_row _ _ _ _ _ _ hg]; exact Array.getElem?_eq_getElem _
  · refine ⟨_, heap_setCell_same _ _ _ _ _ _ (heap_setCell_same _ _ _ _ _ _ (heap_setCell_same _ _ _ _ _ _ (heap_setCell_same _ _ _ _ _ _ hg))), by simpa using hs, fun i h1 => ?_⟩
    by_cases e : i = n
    · subst e; exact kOpIn_new (by omega) o
    · exact kOpIn_set (hb i (by omega)) e _ _ _ _
theorem kset4_fr (w : World) (g j : Nat) (a b c d : Value) : Fr [g] w ((((w.setCell ⟨g, j * 4, none⟩ a).setCell ⟨g, j * 4 + 1, none⟩ b).setCell ⟨g, j * 4 + 2, none⟩ c).setCell ⟨g, j * 4 + 3, none⟩ d) :=
  ((((Fr.refl [g] w).set (Or.inl (by simp)) _ _).set (Or.inl (by simp)) _ _).set (Or.inl (by simp)) _ _).set (Or.inl (by simp)) _ _

theorem kfull_of {w : World} {B g n cap : Nat} {os : List OpI} (h : OR w B (.slice (some ⟨g, 0, none⟩) n cap) os) (o : OpI) : KFull w g cap 0 o ∧ n ≤ cap ∧ cap ≤ maxLen := by
  have h' : w.ownsRow B 62 4 (.slice (some ⟨g, 0, none⟩) n cap) os.length _ := h
  rcases h'.2 with ⟨e, _⟩ | ⟨g2, cap2, cur, e, _, hg, h1, h2, h3, _⟩
  · cases e
  · cases e
    exact ⟨⟨cur, hg, h3, fun j hj => by omega⟩, h1, h2⟩
/-- A row of numbers that is written over. -/
def KInts (w : World) (g cap : Nat) : Prop := ∃ cu, w.heap[g]? = some (.cells cu 3 (0, 0)) ∧ cu.size = cap
theorem KInts.fr {w w' : World} {g cap : Nat} {S : List Nat} (h : KInts w g cap) (f : Fr S w w') (hn : g ∉ S) : KInts w' g cap := by
  obtain ⟨cu, h1, h2⟩ := h
  exact ⟨cu, f.at h1 hn, h2⟩
theorem KInts.any {w : World} {g cap : Nat} (h : KInts w g cap) {j : Nat} (hj : j < cap) (v : Value) : (∃ y, w.cell? ⟨g, j, none⟩ = some y) ∧ w.frozen? ⟨g, j, none⟩ = false ∧ KInts (w.setCell ⟨g, j, none⟩ v) g cap := by
  obtain ⟨cu, hg, hs⟩ := h
  exact ⟨⟨cu[j]'(by omega), by rw [cell_of_row _ _ _ _ _ _ hg]; exact Array.getElem?_eq_getElem _⟩, frozen_of_row _ _ _ _ _ hg, _, heap_setCell_same _ _ _ _ _ _ hg, by simpa using hs⟩
theorem kints_of {w : World} {B g n cap : Nat} {xs : List Nat} (h : NR w B (.slice (some ⟨g, 0, none⟩) n cap) xs) : KInts w g cap ∧ n ≤ cap ∧ cap ≤ maxLen := by
  have h' : w.ownsRow B 3 1 (.slice (some ⟨g, 0, none⟩) n cap) xs.length _ := h
  rcases h'.2 with ⟨e, _⟩ | ⟨g2, cap2, cur, e, _, hg, h1, h2, h3, _⟩
  · cases e
  · cases e
    exact ⟨⟨cur, hg, by omega⟩, h1, h2⟩
theorem oCells_one (os : List OpI) : ∀ u ∈ oCells os, u.oneCell' = true := by
  intro v hv
  unfold oCells at hv
  obtain ⟨o, _, ho⟩ := List.mem_flatMap.1 hv
  simp [ocs] at ho
  rcases ho with rfl | rfl | rfl | rfl <;> rfl
/-- A row of operations is appended to nothing. -/
theorem kappO {ops : Array Oper} {rest : List Oper} {o : Oper} {a : Act} {W : World} {Q : Exit → Act → World → Prop} (hgd : o.guard = none) (s x : Operand)
    (ho : o.op = .call { callee := .builtin .append, args := #[s, x], argTypes := #[22, 22] }) (B : Nat) (hs : a.eval s = .slice none 0 0) (g0 cap0 B0 : Nat) (os : List OpI)
    (hx : a.eval x = .slice (some ⟨g0, 0, none⟩) os.length cap0) (hy : OR W B0 (.slice (some ⟨g0, 0, none⟩) os.length cap0) os) (hp : 0 < os.length) (hlen : os.length ≤ 4000) (hB : B ≤ W.heap.size) (H : Nat) (hH : W.heap.size = H)
    (h : ∀ g cap w', OR w' B (.slice (some ⟨g, 0, none⟩) os.length cap) os → W.grownBy w' none → g = H → wpList Try.prog ops Q rest (a.put o.dst (.slice (some ⟨g, 0, none⟩) os.length cap)) w') : wpList Try.prog ops Q (o :: rest) a W := by
  obtain ⟨i, i0, i1, i2, i3⟩ := info_of infoO
  refine wpList_append_lies W hgd s x 22 ho B 62 i _ 4 32 Try.underlying22 i0 i1 i2 i3 rfl (by decide) (.slice none 0 0) 0 [] hs (World.ownsRow_nil _ _ _ _) ⟨g0, 0, none⟩ os.length cap0 (oCells os) hx (oCells_len os) ?_ (oCells_one os) hp (by unfold maxLen; omega) (by omega) hB H hH ?_
  · intro j u hj
    have hy' : W.ownsRow B0 62 4 (.slice (some ⟨g0, 0, none⟩) os.length cap0) os.length (oCells os) := hy
    exact hy'.cells (g := g0) rfl j u hj
  · intro g cap w' h1 h2 h3 _
    rw [Nat.zero_add] at h1
    rw [Nat.zero_add]
    refine h g cap w' h1 h2 ?_
    rcases h3 with h3 | h3
    · cases h3
    · exact h3

end Mc
end Go.Proofs.Ytnkdbcicphnmiaa
