/-
  tuples.lettersOf.
  tuples.all.
-/
import Derived.Test.YtnkdbcicphnmiaaT18
namespace Go.Proofs.Ytnkdbcicphnmiaa
namespace Mc
open Go.RowKit
attribute [local go_sem ↓] Go.wp_at_zero Go.wp_at_succ

theorem infoLe : (Try.prog.info? 167).map (fun i => (i.zero, i.size, i.bytes)) = some (some (.agg #[.string ⟨#[]⟩, .int .u8 0]), 2, 24) := by kernel_rfl
theorem infoTu : (Try.prog.info? 126).map (fun i => (i.zero, i.size, i.bytes)) = some (some (.agg #[.string ⟨#[]⟩, .string ⟨#[]⟩]), 2, 32) := by kernel_rfl
/-- A letter is appended to a row. -/
theorem appL {ops : Array Oper} {rest : List Oper} {o : Oper} {a : Act} {W : World} {Q : Exit → Act → World → Prop} (hgd : o.guard = none) (s x : Operand)
    (ho : o.op = .call { callee := .builtin .append, args := #[s, x], argTypes := #[163, 163] }) (B : Nat) (v : Value) (xs : List (List Nat × Nat)) (hs : a.eval s = v) (hown : LR W B v xs) (g0 : Nat) (y : List Nat × Nat)
    (hx : a.eval x = .slice (some ⟨g0, 0, none⟩) 1 1) (hc : W.heap[g0]? = some (.cells #[.string (mkV y.1), .int .u8 (y.2 : Int)] 167 (0, 0))) (hlen : xs.length ≤ 1000) (hB : B ≤ W.heap.size) (H : Nat) (hH : W.heap.size = H)
    (h : ∀ g cap w', LR w' B (.slice (some ⟨g, 0, none⟩) (xs.length + 1) cap) (xs ++ [y]) → W.grownBy w' v.ownBlock → (v.ownBlock = some g ∨ g = H) → g < w'.heap.size → wpList Try.prog ops Q rest (a.put o.dst (.slice (some ⟨g, 0, none⟩) (xs.length + 1) cap)) w') : wpList Try.prog ops Q (o :: rest) a W := by
  obtain ⟨i, i0, i1, i2, i3⟩ := info_of infoLe
  refine wpList_append_lies W hgd s x 163 ho B 167 i _ 2 24 Try.underlying163 i0 i1 i2 i3 rfl (by decide) v xs.length (xs.flatMap leC) hs hown ⟨g0, 0, none⟩ 1 1 (leC y) hx rfl (World.news_of_block hc) (fun u hu => ?_) (by decide) (by unfold maxLen; omega) (by omega) hB H hH ?_
  · simp [leC] at hu
    rcases hu with rfl | rfl <;> rfl
  · intro g cap w' h1 h2 h3 h4
    refine h g cap w' ?_ h2 h3 h4
    unfold LR
    rw [List.length_append, List.flatMap_append]
    simpa using h1
/-- A tuple is appended to a row. -/
theorem appTu {ops : Array Oper} {rest : List Oper} {o : Oper} {a : Act} {W : World} {Q : Exit → Act → World → Prop} (hgd : o.guard = none) (s x : Operand)
    (ho : o.op = .call { callee := .builtin .append, args := #[s, x], argTypes := #[122, 122] }) (B : Nat) (v : Value) (xs : List (List Nat × List Nat)) (hs : a.eval s = v) (hown : TuR W B v xs) (g0 : Nat) (y : List Nat × List Nat)
    (hx : a.eval x = .slice (some ⟨g0, 0, none⟩) 1 1) (hc : W.heap[g0]? = some (.cells #[.string (mkV y.1), .string (mkV y.2)] 126 (0, 0))) (hlen : xs.length ≤ 1000) (hB : B ≤ W.heap.size) (H : Nat) (hH : W.heap.size = H)
    (h : ∀ g cap w', TuR w' B (.slice (some ⟨g, 0, none⟩) (xs.length + 1) cap) (xs ++ [y]) → W.grownBy w' v.ownBlock → (v.ownBlock = some g ∨ g = H) → g < w'.heap.size → wpList Try.prog ops Q rest (a.put o.dst (.slice (some ⟨g, 0, none⟩) (xs.length + 1) cap)) w') : wpList Try.prog ops Q (o :: rest) a W := by
  obtain ⟨i, i0, i1, i2, i3⟩ := info_of infoTu
  refine wpList_append_lies W hgd s x 122 ho B 126 i _ 2 32 Try.underlying122 i0 i1 i2 i3 rfl (by decide) v xs.length (xs.flatMap tuC) hs hown ⟨g0, 0, none⟩ 1 1 (tuC y) hx rfl (World.news_of_block hc) (fun u hu => ?_) (by decide) (by unfold maxLen; omega) (by omega) hB H hH ?_
  · simp [tuC] at hu
    rcases hu with rfl | rfl <;> rfl
  · intro g cap w' h1 h2 h3 h4
    refine h g cap w' ?_ h2 h3 h4
    unfold TuR
    rw [List.length_append, List.flatMap_append]
    simpa using h1

/-- The letters of the bytes below b. -/
structure Lts (m : Nat) (ts : Nat → TabN) (b : Nat) (L : List (List Nat × Nat)) : Prop where
  len : L.length ≤ b
  it : ∀ (k : Nat) p, L[k]? = some p → p.1 = clT m ts p.2 ∧ p.2 < b
  srt : ∀ (j k : Nat) p q, L[j]? = some p → L[k]? = some q → j < k → p.2 < q.2
  cov : ∀ c, c < b → ∃ (k : Nat) (p : List Nat × Nat), L[k]? = some p ∧ p.1 = clT m ts c ∧ p.2 ≤ c
section
variable {m : Nat} {ts : Nat → TabN} {b : Nat} {L : List (List Nat × Nat)}
theorem Lts.start : Lts m ts 0 [] := ⟨Nat.le_refl _, fun k p h => by simp at h, fun j k p q h => by simp at h, fun c hc => by omega⟩
theorem Lts.old (h : Lts m ts b L) (hh : hasL L (clT m ts b) = true) : Lts m ts (b + 1) L := by
  refine ⟨by have := h.len; omega, fun k p hk => ?_, h.srt, fun c hc => ?_⟩
  · obtain ⟨h1, h2⟩ := h.it k p hk
    exact ⟨h1, by omega⟩
  · by_cases e : c = b
    · subst e
      obtain ⟨k, x, hk⟩ := hasL_true hh
      exact ⟨k, _, hk, rfl, by have := (h.it k _ hk).2; omega⟩
    · exact h.cov c (by omega)
theorem snoc_case {α : Type} {L : List α} {y : α} {k : Nat} {p : α} (hk : (L ++ [y])[k]? = some p) : L[k]? = some p ∨ (k = L.length ∧ p = y) := by
  by_cases h : k < L.length
  · rw [List.getElem?_append_left h] at hk; exact .inl hk
  · have := (List.getElem?_eq_some_iff.1 hk).1
    simp at this
    have e : k = L.length := by omega
    subst e
    rw [List.getElem?_append_right (Nat.le_refl _), Nat.sub_self] at hk
    exact .inr ⟨rfl, (Option.some.inj hk).symm⟩
theorem snoc_left {α : Type} {L : List α} {y : α} {k : Nat} {p : α} (hk : L[k]? = some p) : (L ++ [y])[k]? = some p := by
  rw [List.getElem?_append_left (List.getElem?_eq_some_iff.1 hk).1]; exact hk
theorem snoc_at {α : Type} (L : List α) (y : α) : (L ++ [y])[L.length]? = some y := by
  rw [List.getElem?_append_right (Nat.le_refl _), Nat.sub_self]; rfl
theorem Lts.new (h : Lts m ts b L) : Lts m ts (b + 1) (L ++ [(clT m ts b, b)]) := by
  refine ⟨by have := h.len; simp; omega, fun k p hk => ?_, fun j k p q hj hk hjk => ?_, fun c hc => ?_⟩
  · rcases snoc_case hk with hk | ⟨rfl, rfl⟩
    · obtain ⟨h1, h2⟩ := h.it k p hk
      exact ⟨h1, by omega⟩
    · exact ⟨rfl, by show b < b + 1; omega⟩
  · rcases snoc_case hj with hj | ⟨rfl, rfl⟩
    · rcases snoc_case hk with hk | ⟨rfl, rfl⟩
      · exact h.srt j k p q hj hk hjk
      · exact (h.it j p hj).2
    · have := (List.getElem?_eq_some_iff.1 hk).1
      simp at this
      omega
  · by_cases e : c = b
    · subst e
      exact ⟨L.length, _, snoc_at _ _, rfl, Nat.le_refl _⟩
    · obtain ⟨k, p, hk, h1, h2⟩ := h.cov c (by omega)
      exact ⟨k, p, snoc_left hk, h1, h2⟩
theorem clT_byt (hok : ∀ i, i < m → (ts i).Ok) {c : Nat} (hc : c < 256) : Byt (clT m ts c) := Byt.rmap fun j hj => by have h1 := (hok j hj).cl c hc; have := (hok j hj).c2; omega
theorem Lts.byt (h : Lts m ts b L) (hok : ∀ i, i < m → (ts i).Ok) (hb : b ≤ 256) : ∀ p ∈ L, Byt p.1 := fun p hp => by
  obtain ⟨k, hk⟩ := List.getElem?_of_mem hp
  obtain ⟨h1, h2⟩ := h.it k p hk
  rw [h1]; exact clT_byt hok (by omega)
end

/-- A row of letters in the making. -/
structure LtI (w wr : World) (va : Option Addr) (vc : Nat) (L : List (List Nat × Nat)) : Prop where
  below : Below w.heap.size w wr
  row : LR wr w.heap.size (.slice va L.length vc) L
section
variable {w wr w2 : World} {va : Option Addr} {vc : Nat} {L : List (List Nat × Nat)}
theorem LtI.next (h : LtI w wr va vc L) (hb : Below wr.heap.size wr w2) : LtI w w2 va vc L := ⟨h.below.trans (hb.mono h.below.size), (Fr.ofBelow hb).own h.row (by simp)⟩
theorem LtI.alloc (h : LtI w wr va vc L) (o : Obj) : LtI w (wr.alloc o) va vc L := h.next ((Below.refl _ _).alloc (Nat.le_refl _) _)
theorem LtI.push (h : LtI w wr va vc L) {g cap : Nat} {y : List Nat × Nat} (hgrow : wr.grownBy w2 (.slice va L.length vc : Value).ownBlock) (ho : LR w2 w.heap.size (.slice (some ⟨g, 0, none⟩) (L.length + 1) cap) (L ++ [y])) : LtI w w2 (some ⟨g, 0, none⟩) cap (L ++ [y]) := by
  refine ⟨below_grown h.below hgrow h.below.size (fun q hq => (h.row.lt q hq).1), ?_⟩
  rw [List.length_append]
  exact ho
end

set_option maxRecDepth 20000 in
set_option maxHeartbeats 1000000 in
theorem lettersOf_any (w : World) (B g m tc : Nat) (ts : Nat → TabN) (ht : Tbs w B g m ts) (hB : B ≤ w.heap.size) (h1 : 1 ≤ m) (h8 : m ≤ 8) (hok : ∀ i, i < m → (ts i).Ok) :
    Calls Try.prog 99 #[.slice (some ⟨g, 0, none⟩) m tc] w fun e w' => ∃ va vc L, e = .returned (.slice va L.length vc) ∧ Lts m ts 256 L ∧ LtI w w' va vc L := by
  have HT := hide ht
  have HB := hide hB
  have H1 := hide h1
  have H8 := hide h8
  have HOK := hide hok
  clear ht hB h1 h8 hok
  go_enter Try.func99, Try.ntmps99
  go_wp2_with fail
  go_loopw [3, 4] (fun vx ix wr => ∃ (b : Nat) (va : Option Addr) (vc : Nat) (L : List (List Nat × Nat)), vx = .slice va L.length vc ∧ ix = .int .i64 (b : Int) ∧ Hid (b ≤ 256 ∧ Lts m ts b L ∧ LtI w wr va vc L)) (fun _ ix _ => lenLeft 256 ix)
  case atStart => exact ⟨0, none, 0, [], rfl, rfl, by show 0 ≤ 256; decide, Lts.start, Below.refl _ _, World.ownsRow_nil _ _ _ _⟩
  case round =>
    rename World => wr
    obtain ⟨b, va, vc, L, rfl, rfl, HH⟩ := hrel
    obtain ⟨hb, hL, hI⟩ := unhide HH
    clear HH
    by_cases hlt : b < 256
    · have hbI : (b : Int) < 256 := by omega
      have hw := u8_wrap b hlt
      have HC := hide (classesOf_any wr B g m tc ts ((unhide HT).below (hI.below.mono (unhide HB))) (by have := unhide HB; have := hI.below.size; omega) (unhide H1) (unhide H8) (unhide HOK) b hlt)
      have HLT := hide hlt
      have HL := hide hL
      have HI := hide hI
      have HBL := hide (hL.byt (unhide HOK) hb)
      have HLL : Hid (L.length ≤ 1000) := by have := hL.len; show _ ≤ _; omega
      clear hlt hb hL hI
      go_wp2_with fail
      refine (unhide HC).mono ?_
      rintro e w1 ⟨rfl, hb1⟩
      have HI1 := hide ((unhide HI).next hb1)
      have HIL := hide (isLetter_any w1 w.heap.size _ L (clT m ts b) (unhide HI1).row (unhide HBL) (clT_byt (unhide HOK) (unhide HLT)) (unhide HLL))
      have HSZ : Hid (w.heap.size ≤ w1.heap.size) := (unhide HI1).below.size
      clear hb1 HC HI
      go_wp2_with fail
      refine (unhide HIL).mono ?_
      rintro e w2 ⟨rfl, rfl⟩
      clear HIL
      cases hh : hasL L (clT m ts b)
      · have HN := hide (unhide HL).new
        have HXA := hide ((unhide HI1).alloc (Obj.cells #[.string (mkV (clT m ts b)), .int .u8 (b : Int)] 167))
        go_wp2_with (at_builtin; refine appL rfl (.tmp 18) (.tmp 23) rfl w.heap.size _ L rfl (unhide HXA).row w2.heap.size (clT m ts b, b) rfl (heap_alloc_new _ _) (unhide HLL) (by have := unhide HSZ; simp; omega) (w2.heap.size + 1) (by simp) ?_; intro g5 cap5 w8 ho hgrow hlies hlt5; have HP9 := hide ((unhide HXA).push hgrow ho); clear ho hgrow hlies)
        go_roundw
        case rel => exact ⟨b + 1, some ⟨g5, 0, none⟩, cap5, L ++ [(clT m ts b, b)], by simp, by go_num, unhide HLT, unhide HN, unhide HP9⟩
        case measure => have := unhide HLT; simp [lenLeft, intOf]; omega
      · have HN := hide ((unhide HL).old hh)
        go_wp2_with fail
        go_roundw
        case rel => exact ⟨b + 1, va, vc, L, rfl, by go_num, unhide HLT, unhide HN, unhide HI1⟩
        case measure => have := unhide HLT; simp [lenLeft, intOf]; omega
    · have hb2 : b = 256 := by omega
      subst hb2
      have HL := hide hL
      have HI := hide hI
      clear hlt hb hL hI
      go_wp2_with fail
      go_ret
      exact ⟨va, vc, L, rfl, unhide HL, unhide HI⟩

end Mc
end Go.Proofs.Ytnkdbcicphnmiaa
namespace Go.Proofs.Ytnkdbcicphnmiaa
namespace Mc
open Go.RowKit
attribute [local go_sem ↓] Go.wp_at_zero Go.wp_at_succ

/-- Where a byte leads. -/
def stpT (m : Nat) (ts : Nat → TabN) (σ : List Nat) (b : Nat) : List Nat := nxT m ts σ (clT m ts b)
theorem stpT_run (m : Nat) (ts : Nat → TabN) (u : List Nat) (b : Nat) : stT m ts (u ++ [b]) = stpT m ts (stT m ts u) b := stT_snoc m ts u b
theorem TabN.run_lt {t : TabN} (h : t.Ok) : ∀ bs, Byt bs → t.run bs < t.S := by
  refine snocInd (fun _ => h.s1) (fun u b ih hb => ?_)
  rw [TabN.run_snoc]
  exact h.nx _ _ (ih hb.front) (h.cl b hb.last)
section
variable {m : Nat} {ts : Nat → TabN}
theorem stT_lt (hok : ∀ i, i < m → (ts i).Ok) {u : List Nat} (hu : Byt u) {i : Nat} (hi : i < m) : (stT m ts u).getD i 0 < (ts i).S := by
  unfold stT
  rw [rmap_getD _ hi]
  exact TabN.run_lt (hok i hi) u hu
theorem stT_byt (hok : ∀ i, i < m → (ts i).Ok) {u : List Nat} (hu : Byt u) : Byt (stT m ts u) := Byt.rmap fun j hj => by have h1 := TabN.run_lt (hok j hj) u hu; have := (hok j hj).s2; omega
theorem stT_len (u : List Nat) : (stT m ts u).length = m := rmap_len _ _
theorem clT_lt (hok : ∀ i, i < m → (ts i).Ok) {b : Nat} (hb : b < 256) {i : Nat} (hi : i < m) : (clT m ts b).getD i 0 < (ts i).C := by
  unfold clT
  rw [rmap_getD _ hi]
  exact (hok i hi).cl b hb
/-- The search of tuples, at tuple i and letter j. -/
structure AlS (m : Nat) (ts : Nat → TabN) (L : List (List Nat × Nat)) (F : List (List Nat × List Nat)) (i j : Nat) : Prop where
  few : F.length ≤ 256
  bfs : ∃ pc U, Bfs (stpT m ts) (List.replicate m 0) F pc i U (fun b => ∃ (k : Nat) (p : List Nat × Nat), k < j ∧ L[k]? = some p ∧ clT m ts b = p.1) ∧ ∀ p, L[j]? = some p → U ≤ i * 256 + p.2
theorem AlS.pos {L F i j} (h : AlS m ts L F i j) : 0 < F.length := by
  obtain ⟨pc, U, hb, -⟩ := h.bfs
  exact (List.getElem?_eq_some_iff.1 hb.zero).1
theorem AlS.run {L F i j} (h : AlS m ts L F i j) {k : Nat} {σ u : List Nat} (hk : F[k]? = some (σ, u)) : σ = stT m ts u ∧ Byt u := by
  obtain ⟨pc, U, hb, -⟩ := h.bfs
  exact hb.run (stT_nil m ts) (stpT_run m ts) k σ u hk
theorem AlS.byt {L F i j} (h : AlS m ts L F i j) (hok : ∀ i, i < m → (ts i).Ok) : ∀ p ∈ F, Byt p.1 := fun p hp => by
  obtain ⟨k, hk⟩ := List.getElem?_of_mem hp
  obtain ⟨e, hu⟩ := h.run hk
  rw [e]; exact stT_byt hok hu
theorem AlS.start (L) : AlS m ts L [(List.replicate m 0, [])] 0 0 := by
  refine ⟨by simp, fun _ => 0, 0, ?_, fun p _ => by omega⟩
  have := Bfs.start (stpT m ts) (List.replicate m 0)
  refine ⟨this.zero, this.par, this.mono, this.nodup, this.hU, fun p b σ w hp hb hh => this.all p b σ w hp hb ?_⟩
  rcases hh with hh | ⟨h0, k, q, hk, -⟩
  · exact .inl hh
  · omega
theorem dn_step {L : List (List Nat × Nat)} (hL : Lts m ts 256 L) {j : Nat} {p : List Nat × Nat} (hp : L[j]? = some p) (σ : List Nat) : ∀ b, b < 256 → (∃ (k : Nat) (q : List Nat × Nat), k < j + 1 ∧ L[k]? = some q ∧ clT m ts b = q.1) → (∃ (k : Nat) (q : List Nat × Nat), k < j ∧ L[k]? = some q ∧ clT m ts b = q.1) ∨ (p.2 ≤ b ∧ stpT m ts σ b = stpT m ts σ p.2) := by
  rintro b hb ⟨k, q, hk, hq, e⟩
  by_cases hkj : k < j
  · exact .inl ⟨k, q, hkj, hq, e⟩
  · have : k = j := by omega
    subst this
    rw [hp] at hq
    cases hq
    obtain ⟨k', q', hq', e', hle⟩ := hL.cov b hb
    by_cases h1 : k' < k
    · exact .inl ⟨k', q', h1, hq', e'.symm⟩
    · refine .inr ⟨?_, ?_⟩
      · by_cases h2 : k' = k
        · subst h2; rw [hp] at hq'; cases hq'; exact hle
        · have := hL.srt k k' p q' hp hq' (by omega); omega
      · unfold stpT
        rw [e, (hL.it k p hp).1]
theorem AlS.old {L F i j} (h : AlS m ts L F i j) (hL : Lts m ts 256 L) {σ u : List Nat} (hi : F[i]? = some (σ, u)) {p : List Nat × Nat} (hp : L[j]? = some p) (hh : hasL F (stpT m ts σ p.2) = true) : AlS m ts L F i (j + 1) := by
  obtain ⟨pc, U, hb, hU⟩ := h.bfs
  have hl := (hL.it j p hp).2
  obtain ⟨k, w, hk⟩ := hasL_true hh
  exact ⟨h.few, pc, _, hb.old hi hl (hU p hp) ⟨k, w, hk⟩ (dn_step hL hp σ), fun q hq => by have := hL.srt j (j + 1) p q hp hq (by omega); omega⟩
theorem AlS.newb {L F i j} (h : AlS m ts L F i j) (hL : Lts m ts 256 L) {σ u : List Nat} (hi : F[i]? = some (σ, u)) {p : List Nat × Nat} (hp : L[j]? = some p) (hh : hasL F (stpT m ts σ p.2) = false) : ∃ pc U, Bfs (stpT m ts) (List.replicate m 0) (F ++ [(stpT m ts σ p.2, u ++ [p.2])]) pc i U (fun b => ∃ (k : Nat) (p : List Nat × Nat), k < j + 1 ∧ L[k]? = some p ∧ clT m ts b = p.1) ∧ ∀ p, L[j + 1]? = some p → U ≤ i * 256 + p.2 := by
  obtain ⟨pc, U, hb, hU⟩ := h.bfs
  have hl := (hL.it j p hp).2
  exact ⟨_, _, hb.new hi hl (hU p hp) (fun k w hk => hasL_false.1 hh k _ hk rfl) (dn_step hL hp σ), fun q hq => by have := hL.srt j (j + 1) p q hp hq (by omega); omega⟩
theorem AlS.new {L F i j} (h : AlS m ts L F i j) (hL : Lts m ts 256 L) {σ u : List Nat} (hi : F[i]? = some (σ, u)) {p : List Nat × Nat} (hp : L[j]? = some p) (hh : hasL F (stpT m ts σ p.2) = false) (hl : F.length < 256) : AlS m ts L (F ++ [(stpT m ts σ p.2, u ++ [p.2])]) i (j + 1) := by
  obtain ⟨pc, U, hb, hU⟩ := h.newb hL hi hp hh
  exact ⟨by simp; omega, pc, U, hb, hU⟩
theorem AlS.many {L F i j} (h : AlS m ts L F i j) (hL : Lts m ts 256 L) {σ u : List Nat} (hi : F[i]? = some (σ, u)) {p : List Nat × Nat} (hp : L[j]? = some p) (hh : hasL F (stpT m ts σ p.2) = false) (hl : F.length = 256) : Many (stT m ts) := by
  obtain ⟨pc, U, hb, hU⟩ := h.newb hL hi hp hh
  exact hb.many (stT_nil m ts) (stpT_run m ts) (by simp; omega)
theorem AlS.row {L F i} (h : AlS m ts L F i L.length) (hL : Lts m ts 256 L) : AlS m ts L F (i + 1) 0 := by
  obtain ⟨pc, U, hb, -⟩ := h.bfs
  have := hb.row (fun b hb => by
    obtain ⟨k, p, hk, e, -⟩ := hL.cov b hb
    exact ⟨k, p, (List.getElem?_eq_some_iff.1 hk).1, hk, e.symm⟩)
  refine ⟨h.few, pc, _, ⟨this.zero, this.par, this.mono, this.nodup, this.hU, fun p b σ w hp hb hh => this.all p b σ w hp hb ?_⟩, fun p _ => by omega⟩
  rcases hh with hh | ⟨h0, k, q, hk, -⟩
  · exact .inl hh
  · omega
end
theorem VR.new {w : World} {B n : Nat} (hB : B ≤ w.heap.size) (hn : n ≤ maxLen) : VR (w.alloc (.cells (madeCells #[.int .u8 0] n) 5)) B (.slice (some ⟨w.heap.size, 0, none⟩) (List.replicate n 0).length n) (List.replicate n 0) := by
  unfold VR
  rw [List.length_replicate]
  refine ⟨by simp [vcs], .inr ⟨_, n, _, rfl, hB, heap_alloc_new _ _, Nat.le_refl _, hn, by rw [size_madeCells, Nat.mul_one], ?_⟩⟩
  rw [Nat.mul_one, List.take_of_length_le (by rw [Array.length_toList, size_madeCells]; exact Nat.le_refl _)]
  apply List.ext_getElem
  · rw [Array.length_toList, size_madeCells]; simp [vcs]
  · intro i h1 h2
    simp [madeCells, vcs, Nat.mod_one]
theorem conv_zero {w : World} {n : Nat} (hn : n ≤ maxLen) : (convert 100 9 (.slice (some ⟨w.heap.size, 0, none⟩) n n)).run Try.prog (w.alloc (.cells (madeCells #[.int .u8 0] n) 5)) = .ok (.string (mkV (List.replicate n 0))) (w.alloc (.cells (madeCells #[.int .u8 0] n) 5)) := by
  have h := conv_mv (VR.new (Nat.zero_le w.heap.size) hn) (by intro x hx; rw [(List.mem_replicate.1 hx).2]; decide)
  rwa [List.length_replicate] at h
theorem conv_one {w : World} {b : Nat} (hb : b < 256) : (convert 100 9 (.slice (some ⟨w.heap.size, 0, none⟩) 1 1)).run Try.prog (w.alloc (.cells #[.int .u8 (b : Int)] 5)) = .ok (.string (mkV [b])) (w.alloc (.cells #[.int .u8 (b : Int)] 5)) :=
  conv_mv (B := 0) (xs := [b]) ⟨rfl, .inr ⟨_, 1, _, rfl, Nat.zero_le _, heap_alloc_new _ _, Nat.le_refl _, by unfold maxLen; omega, rfl, rfl⟩⟩ (by intro x hx; simp at hx; omega)
theorem conv_one' {w : World} {b : Nat} (hb : b < 256) : (convert 100 9 (.slice (some ⟨w.heap.size, 0, none⟩) 1 1)).run Try.prog (w.alloc (.cells #[.int .u8 (b : Int)] 5)).drew = .ok (.string (mkV [b])) (w.alloc (.cells #[.int .u8 (b : Int)] 5)).drew :=
  conv_mv (B := 0) (xs := [b]) ⟨rfl, .inr ⟨_, 1, _, rfl, Nat.zero_le _, heap_alloc_new _ _, Nat.le_refl _, by unfold maxLen; omega, rfl, rfl⟩⟩ (by intro x hx; simp at hx; omega)

/-- What is in memory while the tuples are found. -/
structure AlI (w wr : World) (la : Option Addr) (lc : Nat) (L : List (List Nat × Nat)) (va : Option Addr) (vc : Nat) (F : List (List Nat × List Nat)) : Prop where
  below : Below w.heap.size w wr
  let_ : LR wr w.heap.size (.slice la L.length lc) L
  row : TuR wr w.heap.size (.slice va F.length vc) F
section
variable {w wr w2 : World} {la : Option Addr} {lc : Nat} {L : List (List Nat × Nat)} {va : Option Addr} {vc : Nat} {F : List (List Nat × List Nat)}
theorem AlI.next (h : AlI w wr la lc L va vc F) (hb : Below wr.heap.size wr w2) : AlI w w2 la lc L va vc F := ⟨h.below.trans (hb.mono h.below.size), (Fr.ofBelow hb).own h.let_ (by simp), (Fr.ofBelow hb).own h.row (by simp)⟩
theorem AlI.alloc (h : AlI w wr la lc L va vc F) (o : Obj) : AlI w (wr.alloc o) la lc L va vc F := h.next ((Below.refl _ _).alloc (Nat.le_refl _) _)
theorem AlI.drew (h : AlI w wr la lc L va vc F) : AlI w wr.drew la lc L va vc F := ⟨h.below.drew, h.let_, h.row⟩
theorem AlI.push (h : AlI w wr la lc L va vc F) {g cap : Nat} {y : List Nat × List Nat} (hgrow : wr.grownBy w2 (.slice va F.length vc : Value).ownBlock) (ho : TuR w2 w.heap.size (.slice (some ⟨g, 0, none⟩) (F.length + 1) cap) (F ++ [y])) : AlI w w2 la lc L (some ⟨g, 0, none⟩) cap (F ++ [y]) := by
  refine ⟨below_grown h.below hgrow h.below.size (fun q hq => (h.row.lt q hq).1), ?_, ?_⟩
  · refine (Fr.ofGrown hgrow).own h.let_ (fun q hq hm => ?_)
    obtain ⟨cs, hc⟩ := own_ty h.let_ hq
    obtain ⟨cs2, hc2⟩ := own_ty h.row (Option.mem_toList.1 hm)
    rw [hc] at hc2
    simp at hc2
  · rw [List.length_append]
    exact ho
end

end Mc
end Go.Proofs.Ytnkdbcicphnmiaa
