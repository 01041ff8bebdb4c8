/-
  machine.joined; machine.machine.do: one step of the program's machine.
-/
import Derived.Test.YtnkdbcicphnmiaaNe
namespace Go.Proofs.Ytnkdbcicphnmiaa
namespace Mc
open Go.RowKit
attribute [local go_sem ↓] Go.wp_at_zero Go.wp_at_succ

theorem join_add {x y : Nat} (hx : x ≤ 65535) (hy : y ≤ 65535) : joinN 1 x y = if x + y ≤ 65535 then x + y else x + y - 65536 := by
  unfold joinN; rw [if_pos rfl]; split <;> omega
theorem join_and (x y : Nat) : joinN 2 x y = x &&& y := by unfold joinN; rw [if_neg (by decide), if_pos rfl]
theorem join_or (x y : Nat) : joinN 3 x y = x ||| y := by unfold joinN; rw [if_neg (by decide), if_neg (by decide), if_pos rfl]
theorem join_xor (x y : Nat) : joinN 4 x y = x ^^^ y := by unfold joinN; rw [if_neg (by decide), if_neg (by decide), if_neg (by decide), if_pos rfl]
theorem join_eq (x y : Nat) : joinN 5 x y = if x = y then 65535 else 0 := by unfold joinN; rw [if_neg (by decide), if_neg (by decide), if_neg (by decide), if_neg (by decide)]
theorem k15 {k : Int} (h : 1 ≤ k ∧ k ≤ 5) : k = 1 ∨ k = 2 ∨ k = 3 ∨ k = 4 ∨ k = 5 := by omega

set_option maxHeartbeats 1000000 in
theorem joined_any (k : Int) (hk : 1 ≤ k ∧ k ≤ 5) (x y : Nat) (hx : x ≤ 65535) (hy : y ≤ 65535) (w : World) :
    Calls Try.prog 126 #[.int .i64 k, .int .i64 (x : Int), .int .i64 (y : Int)] w fun e w' => e = .returned (.int .i64 ((joinN k x y : Nat) : Int)) ∧ w' = w := by
  have hxI : (x : Int) ≤ 65535 := by omega
  have hyI : (y : Int) ≤ 65535 := by omega
  rcases k15 hk with rfl | rfl | rfl | rfl | rfl
  · rw [join_add hx hy]
    have HX := hide hx
    have HY := hide hy
    clear hx hy hk
    by_cases h : (x : Int) + (y : Int) ≤ 65535
    · rw [if_pos (by omega)]
      go_enter Try.func126, Try.ntmps126
      go_wp2
      go_ret
      exact ⟨ret_int (by push_cast; rfl), rfl⟩
    · have h2 : (65535 : Int) < (x : Int) + (y : Int) := by omega
      rw [if_neg (by omega)]
      clear h
      go_enter Try.func126, Try.ntmps126
      go_wp2
      go_ret
      exact ⟨ret_int (by omega), rfl⟩
  · rw [join_and]
    have he := and_nat x y hx hy
    clear hx hy hk
    go_enter Try.func126, Try.ntmps126
    go_wp2
    go_ret
    exact ⟨rfl, rfl⟩
  · rw [join_or]
    have he := or_nat x y hx hy
    clear hx hy hk
    go_enter Try.func126, Try.ntmps126
    go_wp2
    go_ret
    exact ⟨rfl, rfl⟩
  · rw [join_xor]
    have he := xor_nat x y hx hy
    clear hx hy hk
    go_enter Try.func126, Try.ntmps126
    go_wp2
    go_ret
    exact ⟨rfl, rfl⟩
  · rw [join_eq]
    clear hx hy hk
    by_cases h : x = y
    · subst h
      rw [if_pos rfl]
      go_enter Try.func126, Try.ntmps126
      go_wp2
      go_ret
      exact ⟨rfl, rfl⟩
    · have hne : ¬ (x : Int) = (y : Int) := by omega
      rw [if_neg h]
      clear h
      go_enter Try.func126, Try.ntmps126
      go_wp2
      go_ret
      exact ⟨rfl, rfl⟩

/-- What the machine's block is behind a store. -/
theorem regA {x : Int} (h : regOk x = true) : ∃ A : Nat, x = (A : Int) ∧ A < 16 := by
  simp [regOk] at h
  exact ⟨x.toNat, by omega, by omega⟩

section
variable {w : World} {B gm gmem : Nat} {tv : Value} {s : MS}
theorem PMx.cr (h : PMx w B gm gmem tv s) (hr : s.R.length = 16) {k : Nat} (hk : k < 16) : w.cell? ⟨gm, k, none⟩ = some (.int .i64 ((s.R.getD k 0 : Nat) : Int)) := by rw [cell_of_row _ _ _ _ _ _ h.heap]; exact pmC_r hr hk
theorem PMx.cm (h : PMx w B gm gmem tv s) (hr : s.R.length = 16) : w.cell? ⟨gm, 16, none⟩ = some (.slice (some ⟨gmem, 0, none⟩) 4096 4096) := by rw [cell_of_row _ _ _ _ _ _ h.heap]; exact pmC_tail hr 0
theorem PMx.ct (h : PMx w B gm gmem tv s) (hr : s.R.length = 16) : w.cell? ⟨gm, 17, none⟩ = some tv := by rw [cell_of_row _ _ _ _ _ _ h.heap]; exact pmC_tail hr 1
theorem PMx.cp (h : PMx w B gm gmem tv s) (hr : s.R.length = 16) : w.cell? ⟨gm, 18, none⟩ = some (.int .i64 (s.p : Int)) := by rw [cell_of_row _ _ _ _ _ _ h.heap]; exact pmC_tail hr 2
theorem PMx.free (h : PMx w B gm gmem tv s) (k : Nat) : w.frozen? ⟨gm, k, none⟩ = false := frozen_of_row _ _ _ _ _ h.heap
theorem PMx.cw (h : PMx w B gm gmem tv s) (hm : s.M.length = 4096) {k : Nat} (hk : k < 4096) : w.cell? ⟨gmem, k, none⟩ = some (.int .i64 ((s.M.getD k 0 : Nat) : Int)) := by
  obtain ⟨g, cap, he, hc⟩ := h.mem.at (k := k) (by omega)
  simp only [Value.slice.injEq, Option.some.injEq, Addr.mk.injEq, and_true] at he
  obtain ⟨rfl, _⟩ := he
  exact hc
theorem PMx.freeM (h : PMx w B gm gmem tv s) (hm : s.M.length = 4096) (k : Nat) : w.frozen? ⟨gmem, k, none⟩ = false := by
  have := h.mem
  unfold NR at this
  rw [hm] at this
  exact own_free this k
theorem PMx.grown17 {w' : World} (h : PMx w B gm gmem tv s) (hr : s.R.length = 16) (hgrow : w.grownBy w' tv.ownBlock) : w'.cell? ⟨gm, 17, none⟩ = some tv ∧ w'.frozen? ⟨gm, 17, none⟩ = false := by
  have a1 : w'.heap[gm]? = _ := (Fr.ofGrown hgrow).at h.heap (fun hm => by rw [Option.mem_toList] at hm; exact h.neT _ hm rfl)
  exact ⟨by rw [cell_of_row _ _ _ _ _ _ a1]; exact pmC_tail hr 1, frozen_of_row _ _ _ _ _ a1⟩
theorem PMx.below (h : PMx w B gm gmem tv s) {w0 w' : World} (hb : Below B w0 w) (hgrow : w.grownBy w' tv.ownBlock) (v : Value) : Below B w0 (w'.setCell ⟨gm, 17, none⟩ v) :=
  below_set (below_grown hb hgrow (Nat.le_trans h.hB (Nat.le_of_lt h.lt)) (fun k hk => (h.tr.lt k hk).1)) h.hB
end
theorem own_drew {w : World} {B e z : Nat} {v : Value} {n : Nat} {xs : List Value} (h : w.ownsRow B e z v n xs) : w.drew.ownsRow B e z v n xs := h

set_option maxRecDepth 20000 in
set_option maxHeartbeats 1000000 in
theorem do_set (w : World) (B gm : Nat) (s : MS) (n : Nat) (A x : Nat) (hA : A < 16) (c : Int) (h : PM w B gm s) (hs : s.Ok n) (hn : n ≤ 4096) :
    Calls Try.prog 115 #[.pointer (some ⟨gm, 0, none⟩), opV ⟨0, (A : Int), (x : Int), c⟩] w fun e w' => e = .returned (.tuple #[]) ∧ Below B w w' ∧ PM w' B gm ⟨s.R.set A x, s.M, s.p + 1, s.T⟩ := by
  obtain ⟨gmem, tv, hx⟩ := h
  have hgm := hx.lt
  have cp := hx.cp hs.lr
  have cA := hx.cr hs.lr hA
  have fp := hx.free 18
  have fA := hx.free A
  have hpI : (s.p : Int) ≤ 4096 := by have := hs.p; omega
  have hAI : (A : Int) < 16 := by omega
  have HX := hide hx
  have HS := hide hs
  have HA := hide hA
  unfold opV
  clear hx hs hA
  go_enter Try.func115, Try.ntmps115
  go_wp2_with fail
  go_region
  all_goals
    go_wp2_with fail
    go_end0
    exact ⟨rfl, (below_set (below_set (Below.refl _ _) (unhide HX).hB) (unhide HX).hB).alloc (by have := (unhide HX).hB; simp; omega) _ |>.drew, gmem, tv, ((((unhide HX).setP (unhide HS).lr (s.p + 1)).setR (unhide HS).lr (unhide HA) x).alloc _).drew⟩

set_option maxRecDepth 20000 in
set_option maxHeartbeats 1000000 in
theorem do_load (w : World) (B gm : Nat) (s : MS) (n : Nat) (A X : Nat) (hA : A < 16) (hX : X < 16) (c : Int) (ha : s.R.getD X 0 < 4096) (h : PM w B gm s) (hs : s.Ok n) (hn : n ≤ 4096) (hT : s.T.length ≤ 3000000) :
    Calls Try.prog 115 #[.pointer (some ⟨gm, 0, none⟩), opV ⟨6, (A : Int), (X : Int), c⟩] w fun e w' => e = .returned (.tuple #[]) ∧ Below B w w' ∧ PM w' B gm ⟨s.R.set A (s.M.getD (s.R.getD X 0) 0), s.M, s.p + 1, s.T ++ [s.R.getD X 0]⟩ := by
  obtain ⟨gmem, tv, hx⟩ := h
  obtain ⟨ta, tc, rfl⟩ := hx.tr.form
  have hgm := hx.lt
  have hgmem := hx.ltm
  have hne1 : ¬ gmem = gm := hx.neM
  have hne2 : ¬ gm = gmem := fun e => hx.neM e.symm
  have cp := hx.cp hs.lr
  have ct := hx.ct hs.lr
  have cm := hx.cm hs.lr
  have cA := hx.cr hs.lr hA
  have cX := hx.cr hs.lr hX
  have cM := hx.cw hs.lm ha
  have fp := hx.free 18
  have fA := hx.free A
  have fT := hx.free 17
  have hpI : (s.p : Int) ≤ 4096 := by have := hs.p; omega
  have hAI : (A : Int) < 16 := by omega
  have hXI : (X : Int) < 16 := by omega
  have haI : ((s.R.getD X 0 : Nat) : Int) < 4096 := by omega
  have HX := hide hx
  have HS := hide hs
  have HA := hide hA
  have HT := hide hT
  obtain ⟨i, i0, i1, i2, i3⟩ := info_of infoI
  have HI := hide (And.intro i0 (And.intro i1 (And.intro i2 i3)))
  generalize s.M.getD (s.R.getD X 0) 0 = z at *
  generalize s.R.getD X 0 = x at *
  unfold opV
  clear hx hs hA hX ha hT i0 i1 i2 i3
  go_enter Try.func115, Try.ntmps115
  have HP := hide (((((unhide HX).setP (unhide HS).lr (s.p + 1)).setR (unhide HS).lr (unhide HA) z).alloc (Obj.cells #[.int .i64 6, .int .i64 (A : Int), .int .i64 (X : Int), .int .i64 c] 62)))
  have HP2 := hide (((unhide HP).alloc (Obj.cells #[.int .i64 (x : Int)] 3)).drew.drew)
  have HBL : Hid (Below B w (((((w.setCell ⟨gm, 18, none⟩ (.int .i64 ((s.p + 1 : Nat) : Int))).setCell ⟨gm, A, none⟩ (.int .i64 (z : Int))).alloc (Obj.cells #[.int .i64 6, .int .i64 (A : Int), .int .i64 (X : Int), .int .i64 c] 62)).alloc (Obj.cells #[.int .i64 (x : Int)] 3)).drew.drew)) := by
    have hB := (unhide HX).hB
    exact (((below_set (below_set (Below.refl _ _) hB) hB).alloc (by simp; omega) _).alloc (by simp; omega) _).drew.drew
  have HSZ : Hid (B ≤ w.heap.size) := by have := (unhide HX).hB; show _ ≤ _; omega
  have HC : Hid ((((((w.setCell ⟨gm, 18, none⟩ (.int .i64 ((s.p + 1 : Nat) : Int))).setCell ⟨gm, A, none⟩ (.int .i64 (z : Int))).alloc (Obj.cells #[.int .i64 6, .int .i64 (A : Int), .int .i64 (X : Int), .int .i64 c] 62)).alloc (Obj.cells #[.int .i64 (x : Int)] 3)).drew.drew).cell? ⟨w.heap.size + 1, 0, none⟩ = some (.int .i64 (x : Int))) := by show _ = _; rw [cell_drew, cell_drew]; exact new_cell (by simp)
  go_wp2_with fail
  go_region
  go_wp2_with fail
  go_region
  go_wp2_with (at_builtin; refine app1 rfl (.tmp 74) (.tmp 76) rfl B _ _ rfl (unhide HP2).tr (w.heap.size + 1) x rfl (unhide HC) (unhide HT) (by have := unhide HSZ; simp; omega) (w.heap.size + 2) (by simp) ?_; intro g5 cap5 w8 ho hgrow hlies hlt5; obtain ⟨c17, f17⟩ := (unhide HP2).grown17 (by simpa using (unhide HS).lr) hgrow; have HN := hide ((unhide HP2).push (by simpa using (unhide HS).lr) hgrow ho (hlies.elim Or.inl (fun e => Or.inr (by rw [e]; simp)))); have HB2 := hide ((unhide HP2).below (unhide HBL) hgrow (.slice (some ⟨g5, 0, none⟩) (s.T.length + 1) cap5)); clear ho hgrow hlies)
  go_end0
  exact ⟨rfl, unhide HB2, gmem, _, unhide HN⟩

set_option maxRecDepth 20000 in
set_option maxHeartbeats 1000000 in
theorem do_store (w : World) (B gm : Nat) (s : MS) (n : Nat) (A X : Nat) (hA : A < 16) (hX : X < 16) (c : Int) (ha : s.R.getD X 0 < 4096) (h : PM w B gm s) (hs : s.Ok n) (hn : n ≤ 4096) (hT : s.T.length ≤ 3000000) :
    Calls Try.prog 115 #[.pointer (some ⟨gm, 0, none⟩), opV ⟨7, (A : Int), (X : Int), c⟩] w fun e w' => e = .returned (.tuple #[]) ∧ Below B w w' ∧ PM w' B gm ⟨s.R, s.M.set (s.R.getD X 0) (s.R.getD A 0), s.p + 1, s.T ++ [10000 + s.R.getD X 0]⟩ := by
  obtain ⟨gmem, tv, hx⟩ := h
  obtain ⟨ta, tc, rfl⟩ := hx.tr.form
  have hgm := hx.lt
  have hgmem := hx.ltm
  have hne1 : ¬ gmem = gm := hx.neM
  have hne2 : ¬ gm = gmem := fun e => hx.neM e.symm
  have cp := hx.cp hs.lr
  have ct := hx.ct hs.lr
  have cm := hx.cm hs.lr
  have cA := hx.cr hs.lr hA
  have cX := hx.cr hs.lr hX
  have cM := hx.cw hs.lm ha
  have fp := hx.free 18
  have fT := hx.free 17
  have fM := hx.freeM hs.lm (s.R.getD X 0)
  have hpI : (s.p : Int) ≤ 4096 := by have := hs.p; omega
  have hAI : (A : Int) < 16 := by omega
  have hXI : (X : Int) < 16 := by omega
  have haI : ((s.R.getD X 0 : Nat) : Int) < 4096 := by omega
  have HX := hide hx
  have HS := hide hs
  have HT := hide hT
  have HGM : Hid (B ≤ gmem) := (hx.mem.lt gmem rfl).1
  generalize s.R.getD X 0 = x at *
  generalize s.R.getD A 0 = y at *
  unfold opV
  clear hx hs hA hX ha hT
  go_enter Try.func115, Try.ntmps115
  have HP := hide (((((unhide HX).setP (unhide HS).lr (s.p + 1)).setM (unhide HS).lm x y).alloc (Obj.cells #[.int .i64 7, .int .i64 (A : Int), .int .i64 (X : Int), .int .i64 c] 62)))
  have HP2 := hide (((unhide HP).alloc (Obj.cells #[.int .i64 (10000 + (x : Int))] 3)).drew.drew)
  have HBL : Hid (Below B w (((((w.setCell ⟨gm, 18, none⟩ (.int .i64 ((s.p + 1 : Nat) : Int))).setCell ⟨gmem, x, none⟩ (.int .i64 (y : Int))).alloc (Obj.cells #[.int .i64 7, .int .i64 (A : Int), .int .i64 (X : Int), .int .i64 c] 62)).alloc (Obj.cells #[.int .i64 (10000 + (x : Int))] 3)).drew.drew)) := by
    have hB := (unhide HX).hB
    exact (((below_set (below_set (Below.refl _ _) hB) (unhide HGM)).alloc (by simp; omega) _).alloc (by simp; omega) _).drew.drew
  have HSZ : Hid (B ≤ w.heap.size) := by have := (unhide HX).hB; show _ ≤ _; omega
  have HC : Hid ((((((w.setCell ⟨gm, 18, none⟩ (.int .i64 ((s.p + 1 : Nat) : Int))).setCell ⟨gmem, x, none⟩ (.int .i64 (y : Int))).alloc (Obj.cells #[.int .i64 7, .int .i64 (A : Int), .int .i64 (X : Int), .int .i64 c] 62)).alloc (Obj.cells #[.int .i64 (10000 + (x : Int))] 3)).drew.drew).cell? ⟨w.heap.size + 1, 0, none⟩ = some (.int .i64 ((10000 + x : Nat) : Int))) := by show _ = _; rw [cell_drew, cell_drew, new_cell (by simp), Int.natCast_add]; rfl
  go_wp2_with fail
  go_region
  go_wp2_with fail
  go_region
  go_wp2_with (at_builtin; refine app1 rfl (.tmp 106) (.tmp 109) rfl B _ _ rfl (unhide HP2).tr (w.heap.size + 1) (10000 + x) rfl (unhide HC) (unhide HT) (by have := unhide HSZ; simp; omega) (w.heap.size + 2) (by simp) ?_; intro g5 cap5 w8 ho hgrow hlies hlt5; obtain ⟨c17, f17⟩ := (unhide HP2).grown17 (by simpa using (unhide HS).lr) hgrow; have HN := hide ((unhide HP2).push (by simpa using (unhide HS).lr) hgrow ho (hlies.elim Or.inl (fun e => Or.inr (by rw [e]; simp)))); have HB2 := hide ((unhide HP2).below (unhide HBL) hgrow (.slice (some ⟨g5, 0, none⟩) (s.T.length + 1) cap5)); clear ho hgrow hlies)
  go_end0
  exact ⟨rfl, unhide HB2, gmem, _, unhide HN⟩

end Mc
end Go.Proofs.Ytnkdbcicphnmiaa
