/-
  tuples.lettersOf.
-/
import Derived.Test.YtlafngfoejngaaaJd
namespace Go.Proofs.Ytlafngfoejngaaa
namespace Mc
open Go.RowKit
attribute [local go_sem ↓] Go.wp_at_zero Go.wp_at_succ

theorem infoLe : (Try.prog.info? 103).map (fun i => (i.zero, i.size, i.bytes)) = some (some (.agg #[.string ⟨#[]⟩, .int .u8 0]), 2, 24) := by kernel_rfl
theorem infoTu : (Try.prog.info? 81).map (fun i => (i.zero, i.size, i.bytes)) = some (some (.agg #[.string ⟨#[]⟩, .string ⟨#[]⟩]), 2, 32) := by kernel_rfl
/-- A letter is appended to a row. -/
theorem appL {ops : Array Oper} {rest : List Oper} {o : Oper} {a : Act} {W : World} {Q : Exit → Act → World → Prop} (hgd : o.guard = none) (s x : Operand)
    (ho : o.op = .call { callee := .builtin .append, args := #[s, x], argTypes := #[99, 99] }) (B : Nat) (v : Value) (xs : List (List Nat × Nat)) (hs : a.eval s = v) (hown : LR W B v xs) (g0 : Nat) (y : List Nat × Nat)
    (hx : a.eval x = .slice (some ⟨g0, 0, none⟩) 1 1) (hc : W.heap[g0]? = some (.cells #[.string (mkV y.1), .int .u8 (y.2 : Int)] 103 (0, 0))) (hlen : xs.length ≤ 1000) (hB : B ≤ W.heap.size) (H : Nat) (hH : W.heap.size = H)
    (h : ∀ g cap w', LR w' B (.slice (some ⟨g, 0, none⟩) (xs.length + 1) cap) (xs ++ [y]) → W.grownBy w' v.ownBlock → (v.ownBlock = some g ∨ g = H) → g < w'.heap.size → wpList Try.prog ops Q rest (a.put o.dst (.slice (some ⟨g, 0, none⟩) (xs.length + 1) cap)) w') : wpList Try.prog ops Q (o :: rest) a W := by
  obtain ⟨i, i0, i1, i2, i3⟩ := info_of infoLe
  refine wpList_append_lies W hgd s x 99 ho B 103 i _ 2 24 Try.underlying99 i0 i1 i2 i3 rfl (by decide) v xs.length (xs.flatMap leC) hs hown ⟨g0, 0, none⟩ 1 1 (leC y) hx rfl (World.news_of_block hc) (fun u hu => ?_) (by decide) (by unfold maxLen; omega) (by omega) hB H hH ?_
  · simp [leC] at hu
    rcases hu with rfl | rfl <;> rfl
  · intro g cap w' h1 h2 h3 h4
    refine h g cap w' ?_ h2 h3 h4
    unfold LR
    rw [List.length_append, List.flatMap_append]
    simpa using h1
/-- A tuple is appended to a row. -/
theorem appTu {ops : Array Oper} {rest : List Oper} {o : Oper} {a : Act} {W : World} {Q : Exit → Act → World → Prop} (hgd : o.guard = none) (s x : Operand)
    (ho : o.op = .call { callee := .builtin .append, args := #[s, x], argTypes := #[77, 77] }) (B : Nat) (v : Value) (xs : List (List Nat × List Nat)) (hs : a.eval s = v) (hown : TuR W B v xs) (g0 : Nat) (y : List Nat × List Nat)
    (hx : a.eval x = .slice (some ⟨g0, 0, none⟩) 1 1) (hc : W.heap[g0]? = some (.cells #[.string (mkV y.1), .string (mkV y.2)] 81 (0, 0))) (hlen : xs.length ≤ 1000) (hB : B ≤ W.heap.size) (H : Nat) (hH : W.heap.size = H)
    (h : ∀ g cap w', TuR w' B (.slice (some ⟨g, 0, none⟩) (xs.length + 1) cap) (xs ++ [y]) → W.grownBy w' v.ownBlock → (v.ownBlock = some g ∨ g = H) → g < w'.heap.size → wpList Try.prog ops Q rest (a.put o.dst (.slice (some ⟨g, 0, none⟩) (xs.length + 1) cap)) w') : wpList Try.prog ops Q (o :: rest) a W := by
  obtain ⟨i, i0, i1, i2, i3⟩ := info_of infoTu
  refine wpList_append_lies W hgd s x 77 ho B 81 i _ 2 32 Try.underlying77 i0 i1 i2 i3 rfl (by decide) v xs.length (xs.flatMap tuC) hs hown ⟨g0, 0, none⟩ 1 1 (tuC y) hx rfl (World.news_of_block hc) (fun u hu => ?_) (by decide) (by unfold maxLen; omega) (by omega) hB H hH ?_
  · simp [tuC] at hu
    rcases hu with rfl | rfl <;> rfl
  · intro g cap w' h1 h2 h3 h4
    refine h g cap w' ?_ h2 h3 h4
    unfold TuR
    rw [List.length_append, List.flatMap_append]
    simpa using h1

/-- The letters of the bytes below b. -/
structure Lts (m : Nat) (ts : Nat → TabN) (b : Nat) (L : List (List Nat × Nat)) : Prop where
  len : L.length ≤ b
  it : ∀ (k : Nat) p, L[k]? = some p → p.1 = clT m ts p.2 ∧ p.2 < b
  srt : ∀ (j k : Nat) p q, L[j]? = some p → L[k]? = some q → j < k → p.2 < q.2
  cov : ∀ c, c < b → ∃ (k : Nat) (p : List Nat × Nat), L[k]? = some p ∧ p.1 = clT m ts c ∧ p.2 ≤ c
section
variable {m : Nat} {ts : Nat → TabN} {b : Nat} {L : List (List Nat × Nat)}
theorem Lts.start : Lts m ts 0 [] := ⟨Nat.le_refl _, fun k p h => by simp at h, fun j k p q h => by simp at h, fun c hc => by omega⟩
theorem Lts.old (h : Lts m ts b L) (hh : hasL L (clT m ts b) = true) : Lts m ts (b + 1) L := by
  refine ⟨by have := h.len; omega, fun k p hk => ?_, h.srt, fun c hc => ?_⟩
  · obtain ⟨h1, h2⟩ := h.it k p hk
    exact ⟨h1, by omega⟩
  · by_cases e : c = b
    · subst e
      obtain ⟨k, x, hk⟩ := hasL_true hh
      exact ⟨k, _, hk, rfl, by have := (h.it k _ hk).2; omega⟩
    · exact h.cov c (by omega)
theorem snoc_case {α : Type} {L : List α} {y : α} {k : Nat} {p : α} (hk : (L ++ [y])[k]? = some p) : L[k]? = some p ∨ (k = L.length ∧ p = y) := by
  by_cases h : k < L.length
  · rw [List.getElem?_append_left h] at hk; exact .inl hk
  · have := (List.getElem?_eq_some_iff.1 hk).1
    simp at this
    have e : k = L.length := by omega
    subst e
    rw [List.getElem?_append_right (Nat.le_refl _), Nat.sub_self] at hk
    exact .inr ⟨rfl, (Option.some.inj hk).symm⟩
theorem snoc_left {α : Type} {L : List α} {y : α} {k : Nat} {p : α} (hk : L[k]? = some p) : (L ++ [y])[k]? = some p := by
  rw [List.getElem?_append_left (List.getElem?_eq_some_iff.1 hk).1]; exact hk
theorem snoc_at {α : Type} (L : List α) (y : α) : (L ++ [y])[L.length]? = some y := by
  rw [List.getElem?_append_right (Nat.le_refl _), Nat.sub_self]; rfl
theorem Lts.new (h : Lts m ts b L) : Lts m ts (b + 1) (L ++ [(clT m ts b, b)]) := by
  refine ⟨by have := h.len; simp; omega, fun k p hk => ?_, fun j k p q hj hk hjk => ?_, fun c hc => ?_⟩
  · rcases snoc_case hk with hk | ⟨rfl, rfl⟩
    · obtain ⟨h1, h2⟩ := h.it k p hk
      exact ⟨h1, by omega⟩
    · exact ⟨rfl, by show b < b + 1; omega⟩
  · rcases snoc_case hj with hj | ⟨rfl, rfl⟩
    · rcases snoc_case hk with hk | ⟨rfl, rfl⟩
      · exact h.srt j k p q hj hk hjk
      · exact (h.it j p hj).2
    · have := (List.getElem?_eq_some_iff.1 hk).1
      simp at this
      omega
  · by_cases e : c = b
    · subst e
      exact ⟨L.length, _, snoc_at _ _, rfl, Nat.le_refl _⟩
    · obtain ⟨k, p, hk, h1, h2⟩ := h.cov c (by omega)
      exact ⟨k, p, snoc_left hk, h1, h2⟩
theorem clT_byt (hok : ∀ i, i < m → (ts i).Ok) {c : Nat} (hc : c < 256) : Byt (clT m ts c) := Byt.rmap fun j hj => by have h1 := (hok j hj).cl c hc; have := (hok j hj).c2; omega
theorem Lts.byt (h : Lts m ts b L) (hok : ∀ i, i < m → (ts i).Ok) (hb : b ≤ 256) : ∀ p ∈ L, Byt p.1 := fun p hp => by
  obtain ⟨k, hk⟩ := List.getElem?_of_mem hp
  obtain ⟨h1, h2⟩ := h.it k p hk
  rw [h1]; exact clT_byt hok (by omega)
end

/-- A row of letters in the making. -/
structure LtI (w wr : World) (va : Option Addr) (vc : Nat) (L : List (List Nat × Nat)) : Prop where
  below : Below w.heap.size w wr
  row : LR wr w.heap.size (.slice va L.length vc) L
section
variable {w wr w2 : World} {va : Option Addr} {vc : Nat} {L : List (List Nat × Nat)}
theorem LtI.next (h : LtI w wr va vc L) (hb : Below wr.heap.size wr w2) : LtI w w2 va vc L := ⟨h.below.trans (hb.mono h.below.size), (Fr.ofBelow hb).own h.row (by simp)⟩
theorem LtI.alloc (h : LtI w wr va vc L) (o : Obj) : LtI w (wr.alloc o) va vc L := h.next ((Below.refl _ _).alloc (Nat.le_refl _) _)
theorem LtI.push (h : LtI w wr va vc L) {g cap : Nat} {y : List Nat × Nat} (hgrow : wr.grownBy w2 (.slice va L.length vc : Value).ownBlock) (ho : LR w2 w.heap.size (.slice (some ⟨g, 0, none⟩) (L.length + 1) cap) (L ++ [y])) : LtI w w2 (some ⟨g, 0, none⟩) cap (L ++ [y]) := by
  refine ⟨below_grown h.below hgrow h.below.size (fun q hq => (h.row.lt q hq).1), ?_⟩
  rw [List.length_append]
  exact ho
end

set_option maxRecDepth 20000 in
set_option maxHeartbeats 1000000 in
theorem lettersOf_any (w : World) (B g m tc : Nat) (ts : Nat → TabN) (ht : Tbs w B g m ts) (hB : B ≤ w.heap.size) (h1 : 1 ≤ m) (h8 : m ≤ 8) (hok : ∀ i, i < m → (ts i).Ok) :
    Calls Try.prog 48 #[.slice (some ⟨g, 0, none⟩) m tc] w fun e w' => ∃ va vc L, e = .returned (.slice va L.length vc) ∧ Lts m ts 256 L ∧ LtI w w' va vc L := by
  have HT := hide ht
  have HB := hide hB
  have H1 := hide h1
  have H8 := hide h8
  have HOK := hide hok
  clear ht hB h1 h8 hok
  go_enter Try.func48, Try.ntmps48
  go_wp2_with fail
  go_loopw [3, 4] (fun vx ix wr => ∃ (b : Nat) (va : Option Addr) (vc : Nat) (L : List (List Nat × Nat)), vx = .slice va L.length vc ∧ ix = .int .i64 (b : Int) ∧ Hid (b ≤ 256 ∧ Lts m ts b L ∧ LtI w wr va vc L)) (fun _ ix _ => lenLeft 256 ix)
  case atStart => exact ⟨0, none, 0, [], rfl, rfl, by show 0 ≤ 256; decide, Lts.start, Below.refl _ _, World.ownsRow_nil _ _ _ _⟩
  case round =>
    rename World => wr
    obtain ⟨b, va, vc, L, rfl, rfl, HH⟩ := hrel
    obtain ⟨hb, hL, hI⟩ := unhide HH
    clear HH
    by_cases hlt : b < 256
    · have hbI : (b : Int) < 256 := by omega
      have hw := u8_wrap b hlt
      have HC := hide (classesOf_any wr B g m tc ts ((unhide HT).below (hI.below.mono (unhide HB))) (by have := unhide HB; have := hI.below.size; omega) (unhide H1) (unhide H8) (unhide HOK) b hlt)
      have HLT := hide hlt
      have HL := hide hL
      have HI := hide hI
      have HBL := hide (hL.byt (unhide HOK) hb)
      have HLL : Hid (L.length ≤ 1000) := by have := hL.len; show _ ≤ _; omega
      clear hlt hb hL hI
      go_wp2_with fail
      refine (unhide HC).mono ?_
      rintro e w1 ⟨rfl, hb1⟩
      have HI1 := hide ((unhide HI).next hb1)
      have HIL := hide (isLetter_any w1 w.heap.size _ L (clT m ts b) (unhide HI1).row (unhide HBL) (clT_byt (unhide HOK) (unhide HLT)) (unhide HLL))
      have HSZ : Hid (w.heap.size ≤ w1.heap.size) := (unhide HI1).below.size
      clear hb1 HC HI
      go_wp2_with fail
      refine (unhide HIL).mono ?_
      rintro e w2 ⟨rfl, rfl⟩
      clear HIL
      cases hh : hasL L (clT m ts b)
      · have HN := hide (unhide HL).new
        have HXA := hide ((unhide HI1).alloc (Obj.cells #[.string (mkV (clT m ts b)), .int .u8 (b : Int)] 103))
        go_wp2_with (at_builtin; refine appL rfl (.tmp 18) (.tmp 23) rfl w.heap.size _ L rfl (unhide HXA).row w2.heap.size (clT m ts b, b) rfl (heap_alloc_new _ _) (unhide HLL) (by have := unhide HSZ; simp; omega) (w2.heap.size + 1) (by simp) ?_; intro g5 cap5 w8 ho hgrow hlies hlt5; have HP9 := hide ((unhide HXA).push hgrow ho); clear ho hgrow hlies)
        go_roundw
        case rel => exact ⟨b + 1, some ⟨g5, 0, none⟩, cap5, L ++ [(clT m ts b, b)], by simp, by go_num, unhide HLT, unhide HN, unhide HP9⟩
        case measure => have := unhide HLT; simp [lenLeft, intOf]; omega
      · have HN := hide ((unhide HL).old hh)
        go_wp2_with fail
        go_roundw
        case rel => exact ⟨b + 1, va, vc, L, rfl, by go_num, unhide HLT, unhide HN, unhide HI1⟩
        case measure => have := unhide HLT; simp [lenLeft, intOf]; omega
    · have hb2 : b = 256 := by omega
      subst hb2
      have HL := hide hL
      have HI := hide hI
      clear hlt hb hL hI
      go_wp2_with fail
      go_ret
      exact ⟨va, vc, L, rfl, unhide HL, unhide HI⟩

end Mc
end Go.Proofs.Ytlafngfoejngaaa
