/-
  machine.Run, veil.Run: what the program answers.
-/
import Derived.Test.YtnkdbcicphnmiaaNj
namespace Go.Proofs.Ytnkdbcicphnmiaa
namespace Mc
open Go.RowKit
attribute [local go_sem ↓] Go.wp_at_zero Go.wp_at_succ

/-- The memory while it is laid. -/
def memI (zs : List Int) (i : Nat) : List Nat := (zs.take i).map Int.toNat ++ List.replicate (4096 - i) 0
theorem memI_len {zs : List Int} {i : Nat} (h : i ≤ zs.length) (h2 : zs.length ≤ 4096) : (memI zs i).length = 4096 := by simp [memI]; omega
theorem memI_zero (zs : List Int) : memI zs 0 = List.replicate 4096 0 := by unfold memI; rw [List.take_zero, List.map_nil, List.nil_append]
theorem memI_all (zs : List Int) : memI zs zs.length = mem0 zs := by simp [memI, mem0]
theorem memI_step {zs : List Int} {i : Nat} (h : i < zs.length) (h2 : zs.length ≤ 4096) : (memI zs i).set i (zs.getD i 0).toNat = memI zs (i + 1) := by
  unfold memI
  rw [List.set_append_right _ _ (by simp; omega)]
  obtain ⟨m, hm⟩ : ∃ m, 4096 - i = m + 1 := ⟨4096 - i - 1, by omega⟩
  rw [hm, show 4096 - (i + 1) = m by omega, List.replicate_succ]
  have e : i - (List.map Int.toNat (zs.take i)).length = 0 := by simp; omega
  rw [e, List.set_cons_zero, List.take_add_one, List.getElem?_eq_getElem h, List.getD_eq_getElem?_getD, List.getElem?_eq_getElem h, List.map_append, List.append_assoc]
  rfl
def DjV (u v : Value) : Prop := ∀ q, u.ownBlock = some q → v.ownBlock = some q → False
/-- The cells of a made row. -/
def zc4 : Array Value := madeCells #[.int .i64 0] 4096
theorem run_make4 (w : World) : (Instr.makeSlice 23 (.int .i64 4096) (.int .i64 4096)).run Try.prog w = .ok (.slice (some ⟨w.heap.size, 0, none⟩) 4096 4096) (w.alloc (.cells zc4 3)) := by
  obtain ⟨i, i0, i1, i2, i3⟩ := info_of infoI
  have := run_make (P := Try.prog) w 23 3 i (.int .i64 0) Try.underlying23 i0 i1 .i64 .i64 4096 4096 (by decide) (by decide) (by rw [i3]; decide) (by decide)
  rw [i2] at this
  exact this
theorem NR.new4 {w : World} {B : Nat} (hB : B ≤ w.heap.size) : NR (w.alloc (.cells zc4 3)) B (.slice (some ⟨w.heap.size, 0, none⟩) 4096 4096) (List.replicate 4096 0) := NR.new (n := 4096) hB (by unfold maxLen; omega)
/-- The zero machine. -/
def zcP : Array Value := pmC (List.replicate 16 0) (.slice none 0 0) (.slice none 0 0) 0
theorem zvP (w : World) : (zeroValue 153).run Try.prog w = .ok (.agg zcP) w := by kernel_rfl
theorem zcP_size : zcP.size = 19 := pmC_size (by simp)
theorem zcP_ne : zcP ≠ #[] := fun e => by have := zcP_size; rw [e] at this; cases this
theorem pmC_setMem {R : List Nat} {mv tv : Value} {p : Nat} (h : R.length = 16) (v : Value) : (pmC R mv tv p).setIfInBounds 16 v = pmC R v tv p := by
  unfold pmC
  rw [List.setIfInBounds_toArray, List.set_append_right _ _ (by rw [ncs_len]; omega), ncs_len, h]; rfl
theorem zcP_build (v : Value) : zcP.setIfInBounds 16 v = pmC (List.replicate 16 0) v (.slice none 0 0) 0 := pmC_setMem (by simp) v
theorem ncs_one (R : List Nat) : ∀ v ∈ ncs R, v.oneCell' = true := by
  intro v hv
  unfold ncs at hv
  obtain ⟨x, _, rfl⟩ := List.mem_map.1 hv
  rfl
theorem pmC_one {R : List Nat} {a b : Option Addr} {n m c d : Nat} {p : Nat} : (pmC R (.slice a n c) (.slice b m d) p).all (·.oneCell') = true := by
  unfold pmC
  rw [List.all_toArray]
  simp only [List.all_append, Bool.and_eq_true]
  exact ⟨List.all_eq_true.2 (ncs_one R), rfl⟩
theorem setRow_alloc2' (w : World) (o : Obj) (A B : Array Value) (t : TypeId) : ((w.alloc o).alloc (Obj.cells A t)).setRow (w.heap.size + 1) B = (w.alloc o).alloc (Obj.cells B t) := by
  have hs : (w.alloc o).heap.size = w.heap.size + 1 := by simp
  rw [← hs]
  generalize w.alloc o = W
  simp only [World.setRow, World.alloc]
  congr 1
  apply Array.ext_getElem?
  intro i
  rw [Array.getElem?_modify, Array.getElem?_push, Array.getElem?_push]
  by_cases h : i = W.heap.size
  · subst h; simp
  · rw [if_neg (fun e => h e.symm), if_neg h, if_neg h]
theorem wpList_store_whole {P : Program} {ops : Array Oper} {rest : List Oper} {o : Oper} {a : Act} {w : World} {Q : Exit → Act → World → Prop} (hgd : o.guard = none) (ty : TypeId) (x y : Operand) (ho : o.op = .store ty x y) (hd : o.dst = none)
    (g : Nat) (cells : Array Value) (hx : a.eval x = .pointer (some ⟨g, 0, none⟩)) (hy : a.eval y = .agg cells)
    (t : TypeId) (old : Array Value) (hg : w.heap[g]? = some (.cells old t (0, 0))) (hi : (P.info? ty).map (·.size) = some cells.size)
    (hold : old.size = cells.size) (h1 : cells.all (·.oneCell') = true)
    (h : wpList P ops Q rest a (w.setRow g cells)) : wpList P ops Q (o :: rest) a w :=
  wpList_store_row hgd ty x y ho g cells hx hy t old hg hi hold h1 (by rw [hd]; exact h)
structure RunOut (w w' : World) (ans : RunAns) (ov tv : Value) : Prop where
  below : Below w.heap.size w w'
  out : NR w' w.heap.size ov ans.M
  tr : NR w' w.heap.size tv ans.T
  dj : DjV ov tv
  lt : ans.T.length ≤ 2097152
  lm : ans.M.length ≤ 4096
theorem RunOut.nil {w w' : World} (h : Below w.heap.size w w') (e : Int) : RunOut w w' ⟨e, [], []⟩ (.slice none 0 0) (.slice none 0 0) := ⟨h, NR.nil _ _, NR.nil _ _, (fun q hq _ => by cases hq), Nat.zero_le _, Nat.zero_le _⟩
theorem takes8 {os : List OpI} {zs : List Int} {k : Int} (h : codeB os = false) : runAns os zs k = ⟨8, [], []⟩ := by
  have : takesE os zs k = 8 := by unfold takesE; rw [if_pos h]
  unfold runAns; rw [this, if_pos (by decide)]
theorem takes9 {os : List OpI} {zs : List Int} {k : Int} (h : codeB os = true) (h2 : memB zs = false) : runAns os zs k = ⟨9, [], []⟩ := by
  have : takesE os zs k = 9 := by unfold takesE; rw [h, if_neg (by decide), if_pos h2]
  unfold runAns; rw [this, if_pos (by decide)]
theorem takes4 {os : List OpI} {zs : List Int} {k : Int} (h : codeB os = true) (h2 : memB zs = true) (h3 : stepsB k = false) : runAns os zs k = ⟨4, [], []⟩ := by
  have : takesE os zs k = 4 := by unfold takesE; rw [h, if_neg (by decide), h2, if_neg (by decide), if_pos h3]
  unfold runAns; rw [this, if_pos (by decide)]
theorem takes0 {os : List OpI} {zs : List Int} {k : Int} (h : codeB os = true) (h2 : memB zs = true) (h3 : stepsB k = true) : runAns os zs k = endAns (runN os k.toNat (ms0 zs)) := by
  have : takesE os zs k = 0 := by unfold takesE; rw [h, if_neg (by decide), h2, if_neg (by decide), h3, if_neg (by decide)]
  unfold runAns; rw [this, if_neg (by decide)]

set_option maxRecDepth 20000 in
set_option maxHeartbeats 1000000 in
theorem Run_bad (w : World) (cv mv : Value) (os : List OpI) (zs : List Int) (k : Int) (hc : OAt w cv os) (hm : IAt w mv zs) (hbad : codeB os = false ∨ memB zs = false ∨ stepsB k = false) :
    Calls Try.prog 58 #[cv, mv, .int .i64 k] w fun e w' => ∃ ov tv, e = .returned (.tuple #[ov, tv, .int .i64 (runAns os zs k).e]) ∧ RunOut w w' (runAns os zs k) ov tv := by
  have HIC := hide (isCode_any w cv os hc)
  have HIM := hide (fun w' (h : Below w.heap.size w w') => isMemory_any w' mv zs (hm.below h))
  obtain ⟨ca, cc, rfl, -⟩ := hc
  obtain ⟨ma, mc, rfl, -⟩ := hm
  cases hcb : codeB os with
  | false =>
    rw [takes8 hcb]
    rw [hcb] at HIC
    clear hbad hcb HIM
    go_enter Try.func58, Try.ntmps58
    go_wp2_with fail
    refine (unhide HIC).mono ?_
    rintro e w1 ⟨rfl, hb1⟩
    have HB1 := hide hb1
    clear hb1
    go_wp2_with fail
    refine bodyPost_ret (v := .tuple #[.slice none 0 0, .slice none 0 0, .int .i64 8]) (by simp [results, Try.results58, go_sem]) rfl ?_
    exact ⟨_, _, rfl, RunOut.nil (unhide HB1) _⟩
  | true =>
    rw [hcb] at HIC
    cases hmb : memB zs with
    | false =>
      rw [takes9 hcb hmb]
      rw [hmb] at HIM
      clear hbad hcb hmb
      go_enter Try.func58, Try.ntmps58
      go_wp2_with fail
      refine (unhide HIC).mono ?_
      rintro e w1 ⟨rfl, hb1⟩
      have HB1 := hide hb1
      have HIM1 := hide (unhide HIM w1 hb1)
      clear hb1
      go_wp2_with fail
      refine (unhide HIM1).mono ?_
      rintro e w2 ⟨rfl, rfl⟩
      go_wp2_with fail
      refine bodyPost_ret (v := .tuple #[.slice none 0 0, .slice none 0 0, .int .i64 9]) (by simp [results, Try.results58, go_sem]) rfl ?_
      exact ⟨_, _, rfl, RunOut.nil (unhide HB1) _⟩
    | true =>
      have hsb : stepsB k = false := by rcases hbad with h | h | h <;> simp_all
      rw [takes4 hcb hmb hsb]
      rw [hmb] at HIM
      have hk : k < 0 ∨ 2097152 < k := by simp [stepsB] at hsb; omega
      clear hbad hcb hmb hsb
      rcases hk with hk | hk
      all_goals
        go_enter Try.func58, Try.ntmps58
        go_wp2_with fail
        refine (unhide HIC).mono ?_
        rintro e w1 ⟨rfl, hb1⟩
        have HB1 := hide hb1
        have HIM1 := hide (unhide HIM w1 hb1)
        clear hb1
        go_wp2_with fail
        refine (unhide HIM1).mono ?_
        rintro e w2 ⟨rfl, rfl⟩
        go_wp2_with fail
        refine bodyPost_ret (v := .tuple #[.slice none 0 0, .slice none 0 0, .int .i64 4]) (by simp [results, Try.results58, go_sem]) rfl ?_
        exact ⟨_, _, rfl, RunOut.nil (unhide HB1) _⟩

attribute [local go_sem ↓] zvP
attribute [local go_sem] zcP_size zcP_ne
set_option maxRecDepth 20000 in
set_option maxHeartbeats 1000000 in
theorem Run_good (w : World) (cv mv : Value) (os : List OpI) (zs : List Int) (k : Nat) (hc : OAt w cv os) (hm : IAt w mv zs) (hcb : codeB os = true) (hmb : memB zs = true) (hk : k ≤ 2097152) :
    Calls Try.prog 58 #[cv, mv, .int .i64 (k : Int)] w fun e w' => ∃ ov tv, e = .returned (.tuple #[ov, tv, .int .i64 (endAns (runN os k (ms0 zs))).e]) ∧ RunOut w w' (endAns (runN os k (ms0 zs))) ov tv := by
  have hco := (codeB_iff os).1 hcb
  have hme := (memB_iff zs).1 hmb
  have HIC := hide (isCode_any w cv os hc)
  have HIM := hide (fun w' (h : Below w.heap.size w w') => isMemory_any w' mv zs (hm.below h))
  have HOA := hide hc
  have HMA := hide hm
  rw [hcb] at HIC
  rw [hmb] at HIM
  have HCO := hide hco
  have HME := hide hme
  have HK := hide hk
  have hkI : (k : Int) ≤ 2097152 := by omega
  have hk0 : (0 : Int) ≤ (k : Int) := by omega
  have hzI : (zs.length : Int) ≤ 4096 := by have := hme.1; omega
  obtain ⟨ca, cc, rfl, -⟩ := hc
  obtain ⟨ma, mc, rfl, -⟩ := hm
  generalize hR : runN os k (ms0 zs) = R
  have HRR := hide hR
  clear hcb hmb hco hme hk hR
  go_enter Try.func58, Try.ntmps58
  go_wp2_with fail
  refine (unhide HIC).mono ?_
  rintro e w1 ⟨rfl, hb1⟩
  have HB1 := hide hb1
  have HIM1 := hide (unhide HIM w1 hb1)
  clear hb1
  go_wp2_with fail
  refine (unhide HIM1).mono ?_
  rintro e w2 ⟨rfl, hww⟩
  obtain rfl : w1 = w2 := hww.symm
  clear hww
  obtain ⟨mc4, hmk, HNR⟩ : ∃ mc4, (Instr.makeSlice 23 (.int .i64 4096) (.int .i64 4096)).run Try.prog w1 = .ok (.slice (some ⟨w1.heap.size, 0, none⟩) 4096 4096) (w1.alloc (.cells mc4 3)) ∧ Hid (NR (w1.alloc (.cells mc4 3)) w.heap.size (.slice (some ⟨w1.heap.size, 0, none⟩) 4096 4096) (List.replicate 4096 0)) := ⟨zc4, run_make4 w1, NR.new4 (unhide HB1).size⟩
  go_wp2_with (refine wpList_store_whole rfl 153 _ _ rfl rfl (w1.heap.size + 1) _ rfl rfl 153 _ (heap_alloc2_new w1 _ (Obj.cells zcP 153)) (by rw [zcP_build, pmC_size (by simp)]; kernel_rfl) (by rw [zcP_build, pmC_size (by simp), zcP_size]) (by rw [zcP_build]; exact pmC_one) ?_; rw [zcP_build, setRow_alloc2'])
  have H0 : Hid (Below w.heap.size w ((w1.alloc (Obj.cells mc4 3)).alloc (Obj.cells (pmC (List.replicate 16 0) (.slice (some ⟨w1.heap.size, 0, none⟩) 4096 4096) (.slice none 0 0) 0) 153)) ∧ PMx ((w1.alloc (Obj.cells mc4 3)).alloc (Obj.cells (pmC (List.replicate 16 0) (.slice (some ⟨w1.heap.size, 0, none⟩) 4096 4096) (.slice none 0 0) 0) 153)) w.heap.size (w1.heap.size + 1) w1.heap.size (.slice none 0 0) ⟨List.replicate 16 0, memI zs 0, 0, []⟩) := by
    have hsz := (unhide HB1).size
    refine ⟨((unhide HB1).alloc hsz _).alloc (by simp; omega) _, ⟨by omega, heap_alloc2_new _ _ _, ?_, NR.nil _ _, fun e => by cases e⟩⟩
    rw [memI_zero]
    exact (Fr.ofAlloc _ _).own (unhide HNR) (by simp)
  generalize w1.heap.size + 1 = gm at *
  generalize w1.heap.size = gmem at *
  clear hmk HNR HIM HIM1 HIC
  go_loopw [10] (fun ix wr => ∃ i : Nat, ix = .int .i64 (i : Int) ∧ Hid (i ≤ zs.length ∧ Below w.heap.size w wr ∧ PMx wr w.heap.size gm gmem (.slice none 0 0) ⟨List.replicate 16 0, memI zs i, 0, []⟩)) (fun ix _ => lenLeft zs.length ix)
  case atStart => exact ⟨0, rfl, Nat.zero_le _, (unhide H0).1, (unhide H0).2⟩
  case round =>
    clear H0
    rename World => wr
    obtain ⟨i, rfl, HH⟩ := hrel
    obtain ⟨hi, hBw, hx⟩ := unhide HH
    have HX := hide hx
    have HBW := hide hBw
    have cm := hx.cm (by simp)
    have hgm := hx.lt
    have hgmem := hx.ltm
    have hne1 : ¬ gmem = gm := hx.neM
    have hne2 : ¬ gm = gmem := fun e => hx.neM e.symm
    by_cases hlt : i < zs.length
    · obtain ⟨ma2, mc2, he, hcs⟩ := (unhide HMA).below hBw
      simp only [Value.slice.injEq, true_and] at he
      obtain ⟨rfl, rfl⟩ := he
      obtain ⟨b, off, rfl, hcs2⟩ := hcs (by omega)
      have cz := hcs2 i hlt
      obtain ⟨z, hz, hz2⟩ : ∃ z : Nat, zs.getD i 0 = (z : Int) ∧ (zs.getD i 0).toNat = z := by
        have := (unhide HME).2 i hlt
        simp [wordOk] at this
        exact ⟨(zs.getD i 0).toNat, by rw [List.getD_eq_getElem?_getD]; omega, rfl⟩
      rw [hz] at cz
      have cM := hx.cw (memI_len hi (unhide HME).1) (k := i) (by have := (unhide HME).1; omega)
      have fM := hx.freeM (memI_len hi (unhide HME).1) i
      have hiI : (i : Int) < (zs.length : Int) := by omega
      have hi4 : (i : Int) < 4096 := by omega
      have HLT := hide hlt
      have HNX : Hid (PMx (wr.setCell ⟨gmem, i, none⟩ (.int .i64 (z : Int))) w.heap.size gm gmem (.slice none 0 0) ⟨List.replicate 16 0, memI zs (i + 1), 0, []⟩) := by
        have := hx.setM (memI_len hi (unhide HME).1) i z
        simp only at this
        rw [← hz2, memI_step hlt (unhide HME).1] at this
        rw [hz2] at this
        exact this
      have HGM : Hid (w.heap.size ≤ gmem) := (hx.mem.lt gmem rfl).1
      clear HH hi hBw hx hlt hcs hcs2 hz hz2
      generalize (memI zs i).getD i 0 = y at *
      go_wp2_with fail
      go_region
      all_goals
        go_wp2_with fail
        go_roundw
        case rel => exact ⟨i + 1, by go_num, unhide HLT, (below_set (unhide HBW) (unhide HGM)).drew, (unhide HNX).drew⟩
        case measure => have := unhide HLT; simp [lenLeft, intOf]; omega
    · have hi2 : i = zs.length := by omega
      subst hi2
      rw [memI_all] at hx
      have HRA := hide (run_any wr w.heap.size gm (.slice ca os.length cc) os k (ms0 zs) (fun W hW => (unhide HOA).below (hBw.trans hW)) (unhide HCO) ⟨gmem, _, hx⟩ (ms0_ok (unhide HME) _) (unhide HK) rfl)
      rw [unhide HRR] at HRA
      clear HH hi hBw hx hlt
      go_wp2_with fail
      refine (unhide HRA).mono ?_
      rintro e w3 ⟨hb3, hpo⟩
      have HB3 : Hid (Below w.heap.size w w3) := (unhide HBW).trans hb3
      clear hb3
      cases R with
      | error k =>
        obtain ⟨hk, rfl⟩ := hpo
        rcases hk with rfl | rfl
        · go_wp2_with fail
          refine bodyPost_ret (v := .tuple #[.slice none 0 0, .slice none 0 0, .int .i64 11]) (by simp [results, Try.results58, go_sem]) rfl ?_
          exact ⟨_, _, rfl, RunOut.nil (unhide HB3) _⟩
        · go_wp2_with fail
          refine bodyPost_ret (v := .tuple #[.slice none 0 0, .slice none 0 0, .int .i64 10]) (by simp [results, Try.results58, go_sem]) rfl ?_
          exact ⟨_, _, rfl, RunOut.nil (unhide HB3) _⟩
      | ok s' =>
        obtain ⟨rfl, ⟨gmem2, tv, hx⟩, hok, hTl⟩ := hpo
        obtain ⟨ta, tc, rfl⟩ := hx.tr.form
        have cm := hx.cm hok.lr
        have ct := hx.ct hok.lr
        have HX := hide hx
        have HOK := hide hok
        have HTL := hide hTl
        clear hx hok hTl
        go_wp2_with fail
        go_region
        all_goals
          go_wp2_with fail
          refine bodyPost_ret (v := .tuple #[.slice (some ⟨gmem2, 0, none⟩) 4096 4096, .slice ta s'.T.length tc, .int .i64 0]) (by simp [results, Try.results58, go_sem]) rfl ?_
          refine ⟨_, _, rfl, (unhide HB3).drew, (unhide HX).mem, (unhide HX).tr, fun q h1 h2 => ?_, unhide HTL, by show _ ≤ _; rw [show (endAns (.ok s')).M = s'.M from rfl, (unhide HOK).lm]; exact Nat.le_refl _⟩
          have : gmem2 = q := by simpa [Value.ownBlock] using h1
          subst this
          exact (unhide HX).ne h2

theorem Run_any (w : World) (cv mv : Value) (os : List OpI) (zs : List Int) (k : Int) (hc : OAt w cv os) (hm : IAt w mv zs) :
    Calls Try.prog 58 #[cv, mv, .int .i64 k] w fun e w' => ∃ ov tv, e = .returned (.tuple #[ov, tv, .int .i64 (runAns os zs k).e]) ∧ RunOut w w' (runAns os zs k) ov tv := by
  cases hcb : codeB os with
  | false => exact Run_bad w cv mv os zs k hc hm (.inl hcb)
  | true =>
    cases hmb : memB zs with
    | false => exact Run_bad w cv mv os zs k hc hm (.inr (.inl hmb))
    | true =>
      cases hsb : stepsB k with
      | false => exact Run_bad w cv mv os zs k hc hm (.inr (.inr hsb))
      | true =>
        obtain ⟨q, rfl⟩ : ∃ q : Nat, k = (q : Int) := ⟨k.toNat, by simp [stepsB] at hsb; omega⟩
        have hq : q ≤ 2097152 := by simp [stepsB] at hsb; omega
        rw [takes0 hcb hmb hsb, Int.toNat_natCast]
        exact Run_good w cv mv os zs q hc hm hcb hmb hq

set_option maxRecDepth 20000 in
set_option maxHeartbeats 1000000 in
theorem VRun_any (w : World) (cv mv : Value) (os : List OpI) (zs : List Int) (k : Int) (hc : OAt w cv os) (hm : IAt w mv zs) :
    Calls Try.prog 28 #[cv, mv, .int .i64 k] w fun e w' => ∃ ov tv, e = .returned (.tuple #[ov, tv, .int .i64 (runAns os zs k).e]) ∧ RunOut w w' (runAns os zs k) ov tv := by
  have HR := hide (Run_any w cv mv os zs k hc hm)
  obtain ⟨ca, cc, rfl, -⟩ := hc
  obtain ⟨ma, mc, rfl, -⟩ := hm
  generalize runAns os zs k = A at *
  go_enter Try.func28, Try.ntmps28
  go_wp2_with fail
  refine (unhide HR).mono ?_
  rintro e w1 ⟨ov, tv, rfl, hro⟩
  obtain ⟨oa, oc, rfl⟩ := hro.out.form
  obtain ⟨ta, tc, rfl⟩ := hro.tr.form
  have HRO := hide hro
  clear hro
  go_wp2_with fail
  refine bodyPost_ret (v := .tuple #[.slice oa A.M.length oc, .slice ta A.T.length tc, .int .i64 A.e]) (by simp [results, Try.results28, go_sem]) rfl ?_
  exact ⟨_, _, rfl, unhide HRO⟩

end Mc
end Go.Proofs.Ytnkdbcicphnmiaa
