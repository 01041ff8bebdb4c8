/-
  tuples.tablesOf, tuples.grants.
  tuples.grants.
-/
import Derived.Test.YtnkdbcicphnmiaaJg
namespace Go.Proofs.Ytnkdbcicphnmiaa
namespace Mc
open Go.RowKit

/-- Tables are appended to a row of tables. -/
theorem appTs {ops : Array Oper} {rest : List Oper} {o : Oper} {a : Act} {W : World} {Q : Exit → Act → World → Prop} (hgd : o.guard = none) (s x : Operand)
    (ho : o.op = .call { callee := .builtin .append, args := #[s, x], argTypes := #[81, 81] }) (B : Nat) (v : Value) (n : Nat) (xs : List Value) (hs : a.eval s = v) (hown : W.ownsRow B 142 259 v n xs) (g0 m c : Nat) (cs : List Value)
    (hx : a.eval x = .slice (some ⟨g0, 0, none⟩) m c) (hl : cs.length = m * 259) (hnews : ∀ j u, cs[j]? = some u → W.cell? ((⟨g0, 0, none⟩ : Addr).add j) = some u) (h1 : ∀ u ∈ cs, u.oneCell' = true) (hm : 0 < m) (hlen : n + m ≤ 1000) (hB : B ≤ W.heap.size) (H : Nat) (hH : W.heap.size = H)
    (h : ∀ g cap w', w'.ownsRow B 142 259 (.slice (some ⟨g, 0, none⟩) (n + m) cap) (n + m) (xs ++ cs) → W.grownBy w' v.ownBlock → (v.ownBlock = some g ∨ g = H) → g < w'.heap.size → wpList Try.prog ops Q rest (a.put o.dst (.slice (some ⟨g, 0, none⟩) (n + m) cap)) w') : wpList Try.prog ops Q (o :: rest) a W := by
  obtain ⟨i, i0, i1, i2, i3⟩ := info_of infoTb
  exact wpList_append_lies W hgd s x 81 ho B 142 i (.agg zcTb) 259 2104 Try.underlying81 i0 i1 i2 i3 zcTb_size (by decide) v n xs hs hown ⟨g0, 0, none⟩ m c cs hx hl hnews h1 hm (by unfold maxLen; omega) (by omega) hB H hH h
/-- A slice of one table is built. -/
theorem bsT {ops : Array Oper} {rest : List Oper} {o : Oper} {a : Act} {w : World} {Q : Exit → Act → World → Prop} (hgd : o.guard = none) (x : Operand) (ho : o.op = .buildSlice 81 1 #[(0, x)]) (cs : Array Value) (hx : a.eval x = .agg cs) (hs : cs.size = 259)
    (h : wpList Try.prog ops Q rest (a.put o.dst (.slice (some ⟨w.heap.size, 0, none⟩) 1 1)) (w.alloc (.cells cs 142))) : wpList Try.prog ops Q (o :: rest) a w := by
  obtain ⟨i, i0, i1, i2, i3⟩ := info_of infoTb
  refine wpList_buildSlice hgd 81 142 1 #[(0, x)] ho cs i _ Try.underlying81 i0 i1 (by rw [i2]; decide) (by rw [i2]; decide) ?_ h
  have := Great.fill_whole (s := 259) (by decide) [.agg cs] ((Array.range (1 * i.size)).map (zcTb[· % zcTb.size]!)) (fun v hv => by rw [List.mem_singleton.1 hv]; exact hs) (by rw [Array.size_map, Array.size_range, i2]; rfl)
  rw [i2] at this ⊢
  simp only [List.map_toArray, List.map_cons, List.map_nil, hx]
  simpa [Value.cells] using this

/-- Tables in the making. -/
structure TbI (w wr : World) (ta : Option Addr) (tc : Nat) (ts : Nat → TabN) (cs : List Value) (i : Nat) : Prop where
  below : Below w.heap.size w wr
  own : wr.ownsRow w.heap.size 142 259 (.slice ta i tc) i cs
  one : ∀ u ∈ cs, u.oneCell' = true
  rows : ∀ j, j < i → ∃ gv nv, (∀ k, k < 259 → cs[j * 259 + k]? = (tbC (ts j).cl (ts j).C gv nv)[k]?) ∧ TRws wr wr.heap.size (ts j) gv nv
section
variable {w wr w2 : World} {ta : Option Addr} {tc : Nat} {ts : Nat → TabN} {cs : List Value} {i : Nat}
theorem TbI.start : TbI w w none 0 ts [] 0 := ⟨Below.refl _ _, World.ownsRow_nil _ _ _ _, fun u hu => (by cases hu), fun j hj => by omega⟩
theorem TbI.next (h : TbI w wr ta tc ts cs i) (hb : Below wr.heap.size wr w2) : TbI w w2 ta tc ts cs i :=
  ⟨h.below.trans (hb.mono h.below.size), (Fr.ofBelow hb).own h.own (by simp), h.one, fun j hj => by
    obtain ⟨gv, nv, h1, h2⟩ := h.rows j hj
    exact ⟨gv, nv, h1, h2.fr (Fr.ofBelow hb) (NoRows.nil _) hb.size⟩⟩
theorem TbI.alloc (h : TbI w wr ta tc ts cs i) (o : Obj) : TbI w (wr.alloc o) ta tc ts cs i := h.next ((Below.refl _ _).alloc (Nat.le_refl _) _)
theorem TbI.noRows (h : TbI w wr ta tc ts cs i) : NoRows wr (.slice ta i tc : Value).ownBlock.toList := fun q hq cs' ty fr hc => by
  obtain ⟨cs2, hc2⟩ := own_ty h.own (Option.mem_toList.1 hq)
  rw [hc] at hc2
  simp at hc2
  rw [hc2.2.1]; decide
/-- A row of tables behind another. -/
theorem TbI.join (h : TbI w wr ta tc ts cs i) {ts' : Nat → TabN} {cs' : List Value} {i' g cap : Nat} (h1 : ∀ u ∈ cs', u.oneCell' = true) (hr : ∀ j, j < i' → ∃ gv nv, (∀ k, k < 259 → cs'[j * 259 + k]? = (tbC (ts' j).cl (ts' j).C gv nv)[k]?) ∧ TRws wr wr.heap.size (ts' j) gv nv) (hgrow : wr.grownBy w2 (.slice ta i tc : Value).ownBlock) (ho : w2.ownsRow w.heap.size 142 259 (.slice (some ⟨g, 0, none⟩) (i + i') cap) (i + i') (cs ++ cs')) :
    TbI w w2 (some ⟨g, 0, none⟩) cap (fun j => if j < i then ts j else ts' (j - i)) (cs ++ cs') (i + i') := by
  have hcl : cs.length = i * 259 := h.own.1
  have hmv : ∀ {t : TabN} {a b : Value}, TRws wr wr.heap.size t a b → TRws w2 w2.heap.size t a b := fun ht => ht.fr (Fr.ofGrown hgrow) h.noRows hgrow.size
  refine ⟨below_grown h.below hgrow h.below.size (fun q hq => (h.own.lt q hq).1), ho, fun u hu => ?_, fun j hj => ?_⟩
  · rcases List.mem_append.1 hu with hu | hu
    · exact h.one u hu
    · exact h1 u hu
  · by_cases hji : j < i
    · obtain ⟨gv, nv, h1, h2⟩ := h.rows j hji
      simp only [if_pos hji]
      refine ⟨gv, nv, fun k hk => ?_, hmv h2⟩
      rw [List.getElem?_append_left (by rw [hcl]; omega), h1 k hk]
    · obtain ⟨gv, nv, h1, h2⟩ := hr (j - i) (by omega)
      simp only [if_neg hji]
      refine ⟨gv, nv, fun k hk => ?_, hmv h2⟩
      rw [List.getElem?_append_right (by rw [hcl]; omega), hcl, show j * 259 + k - i * 259 = (j - i) * 259 + k by omega, h1 k hk]
theorem TbI.to {ts' : Nat → TabN} (h : TbI w wr ta tc ts cs i) (he : ∀ j, j < i → ts j = ts' j) : TbI w wr ta tc ts' cs i := ⟨h.below, h.own, h.one, fun j hj => by rw [← he j hj]; exact h.rows j hj⟩
theorem TbI.push (h : TbI w wr ta tc ts cs i) {g cap : Nat} {gv nv : Value} {c0 : Array Value} (hr : TRws wr wr.heap.size (ts i) gv nv) (hc : tbC (ts i).cl (ts i).C gv nv = c0) (h1 : c0.all (·.oneCell') = true) (hgrow : wr.grownBy w2 (.slice ta i tc : Value).ownBlock) (ho : w2.ownsRow w.heap.size 142 259 (.slice (some ⟨g, 0, none⟩) (i + 1) cap) (i + 1) (cs ++ c0.toList)) :
    TbI w w2 (some ⟨g, 0, none⟩) cap ts (cs ++ c0.toList) (i + 1) := by
  refine (h.join (ts' := fun _ => ts i) (i' := 1) (fun u hu => ?_) (fun j hj => ⟨gv, nv, fun k hk => ?_, hr⟩) hgrow ho).to fun j hj => ?_
  · rw [← Array.all_toList] at h1
    exact List.all_eq_true.1 h1 u hu
  · have : j = 0 := by omega
    subst this
    rw [Nat.zero_mul, Nat.zero_add, Array.getElem?_toList, hc]
  · by_cases e : j < i
    · rw [if_pos e]
    · rw [if_neg e, show j = i by omega]
theorem TbI.tbs {g0 : Nat} (h : TbI w wr (some ⟨g0, 0, none⟩) tc ts cs i) : Tbs wr wr.heap.size g0 i ts := by
  have ho := h.own
  refine ⟨fun j hj => ?_, (ho.lt g0 rfl).2⟩
  obtain ⟨gv, nv, h1, h2⟩ := h.rows j hj
  refine ⟨gv, nv, fun k v hv => ?_, h2⟩
  have hk : k < 259 := by
    have := (List.getElem?_eq_some_iff.1 hv).1
    rwa [Array.length_toList, tbC_size] at this
  have h3 := ho.cells (g := g0) rfl (j * 259 + k) v (by rw [h1 k hk]; rwa [Array.getElem?_toList] at hv)
  rwa [add0] at h3
theorem TbI.form (h : TbI w wr ta tc ts cs i) (hi : 0 < i) : ∃ g, ta = some ⟨g, 0, none⟩ := by
  obtain ⟨g0, cap0, he⟩ := own_form h.own hi
  simp only [Value.slice.injEq, true_and] at he
  exact ⟨g0, he.1⟩
end

section
attribute [local go_sem ↓] Go.wp_at_zero Go.wp_at_succ
attribute [local go_sem] aggcells
set_option maxRecDepth 20000 in
set_option maxHeartbeats 2000000 in
theorem tablesOf_any (w : World) (B gi N m tc g : Nat) (f : ByteArray) (ts : Nat → TabN) (h : ImB w gi N f (some ⟨g, 0, none⟩) m tc) (ht : Tbs w B g m ts) (hB : B ≤ w.heap.size) (hm : m ≤ 4) :
    Calls Try.prog 70 #[.pointer (some ⟨gi, 0, none⟩)] w fun e w' => ∃ ta tc cs, e = .returned (.slice ta m tc) ∧ TbI w w' ta tc ts cs m := by
  have HT := hide ht
  have HB := hide hB
  have HM := hide hm
  have HIB := hide h
  have hgi := (Array.getElem?_eq_some_iff.1 h.heap).1
  have HGI := hide hgi
  have hmI : (m : Int) ≤ 4 := by omega
  clear h ht hB hm
  go_enter Try.func70, Try.ntmps70
  go_wp2_with fail
  go_loopw [3, 4] (fun vx ix wr => ∃ (i : Nat) (ta : Option Addr) (tc : Nat) (cs : List Value), vx = .slice ta i tc ∧ ix = .int .i64 (i : Int) ∧ Hid (i ≤ m ∧ TbI w wr ta tc ts cs i)) (fun _ ix _ => lenLeft m ix)
  case atStart => exact ⟨0, none, 0, [], rfl, rfl, Nat.zero_le _, TbI.start⟩
  case round =>
    rename World => wr
    obtain ⟨i, ta, tc', cs, rfl, rfl, HH⟩ := hrel
    obtain ⟨hi, hI⟩ := unhide HH
    clear HH
    have hIB := (unhide HIB).below hI.below (unhide HGI)
    have HRU := hide (Rules_any wr gi N m tc f (some ⟨g, 0, none⟩) hIB)
    have HI := hide hI
    have hgr : gi < wr.heap.size := by have := hI.below.size; omega
    by_cases hlt : i < m
    · have hiI : (i : Int) < (m : Int) := by omega
      have HLT := hide hlt
      have HTC := hide (Table_any wr B gi N m tc g f ts hIB ((unhide HT).below (hI.below.mono (unhide HB))) (by have := unhide HB; have := hI.below.size; omega) i hlt (unhide HM))
      have HBB : Hid (B ≤ wr.heap.size) := by have := unhide HB; have := hI.below.size; show _ ≤ _; omega
      clear hi hI hIB hlt
      go_wp2_with fail
      refine (unhide HRU).mono ?_
      rintro e w1 ⟨rfl, hww⟩
      obtain rfl : wr = w1 := hww.symm
      clear hww HRU
      go_wp2_with fail
      refine (unhide HTC).mono ?_
      rintro e w2 ⟨hb2, gv, nv, rfl, hr⟩
      clear HTC
      obtain ⟨a1, n1, k1, a2, n2, k2, rfl, rfl⟩ := hr.form
      have HI2 := hide ((unhide HI).next hb2)
      have hrw : TRws w2 w2.heap.size (ts i) (.slice a1 n1 k1) (.slice a2 n2 k2) := hr.fr (Fr.refl _ _) (NoRows.nil _) (by have := unhide HBB; have := hb2.size; omega)
      have HSZ := hide (tbC_size (ts i).cl (ts i).C (.slice a1 n1 k1) (.slice a2 n2 k2))
      have HON := hide (tbC_one a1 a2 n1 n2 k1 k2 (ts i).cl (ts i).C)
      generalize hc0 : tbC (ts i).cl (ts i).C (.slice a1 n1 k1) (.slice a2 n2 k2) = c0 at *
      have HC0 := hide hc0
      have HX2 := hide ((unhide HI2).alloc (.cells c0 142))
      have HR2 : Hid (TRws (w2.alloc (.cells c0 142)) (w2.alloc (.cells c0 142)).heap.size (ts i) (.slice a1 n1 k1) (.slice a2 n2 k2)) := hrw.fr (Fr.ofAlloc _ _) (NoRows.nil _) (by simp)
      have HWS : Hid (w.heap.size ≤ w2.heap.size) := (unhide HI2).below.size
      have HI1000 : Hid (i + 1 ≤ 1000) := by have := unhide HLT; have := unhide HM; show _ ≤ _; omega
      clear hb2 hr hrw hc0 HI HI2
      go_wp2_with (first
        | refine bsT rfl (.tmp 14) rfl c0 rfl (unhide HSZ) ?_
        | (at_builtin; refine appTs rfl (.tmp 11) (.tmp 15) rfl w.heap.size _ i cs rfl (unhide HX2).own w2.heap.size 1 1 c0.toList rfl (by rw [Array.length_toList, unhide HSZ]) (World.news_of_block (heap_alloc_new _ _)) (fun u hu => (by have h1 := unhide HON; rw [← Array.all_toList] at h1; exact List.all_eq_true.1 h1 u hu)) (by decide) (unhide HI1000) (by have := unhide HWS; simp; omega) (w2.heap.size + 1) (by simp) ?_; intro g5 cap5 w8 ho hgrow hlies hlt5; have HP9 := hide ((unhide HX2).push (unhide HR2) (unhide HC0) (unhide HON) hgrow ho); clear ho hgrow hlies))
      go_roundw
      case rel => exact ⟨i + 1, some ⟨g5, 0, none⟩, cap5, _, rfl, by go_num, unhide HLT, unhide HP9⟩
      case measure => have := unhide HLT; simp [lenLeft, intOf]; omega
    · have hi2 : i = m := by omega
      subst hi2
      have hiI : ¬ (i : Int) < (i : Int) := by omega
      clear hi hI hIB hlt
      go_wp2_with fail
      refine (unhide HRU).mono ?_
      rintro e w1 ⟨rfl, hww⟩
      obtain rfl : wr = w1 := hww.symm
      clear hww HRU
      go_wp2_with fail
      go_ret
      exact ⟨ta, tc', cs, rfl, unhide HI⟩
end

end Mc
end Go.Proofs.Ytnkdbcicphnmiaa
namespace Go.Proofs.Ytnkdbcicphnmiaa
namespace Mc
open Go.RowKit

/-- Truths in the making. -/
structure BgI (w wr : World) (va : Option Addr) (vc : Nat) (bs : List Bool) : Prop where
  below : Below w.heap.size w wr
  row : BR wr w.heap.size (.slice va bs.length vc) bs
section
variable {w wr w2 : World} {va : Option Addr} {vc : Nat} {bs : List Bool}
theorem BgI.start : BgI w w none 0 [] := ⟨Below.refl _ _, World.ownsRow_nil _ _ _ _⟩
theorem BgI.next (h : BgI w wr va vc bs) (hb : Below wr.heap.size wr w2) : BgI w w2 va vc bs := ⟨h.below.trans (hb.mono h.below.size), (Fr.ofBelow hb).own h.row (by simp)⟩
theorem BgI.alloc (h : BgI w wr va vc bs) (o : Obj) : BgI w (wr.alloc o) va vc bs := h.next ((Below.refl _ _).alloc (Nat.le_refl _) _)
theorem BgI.push (h : BgI w wr va vc bs) {g cap : Nat} {y : Bool} (hgrow : wr.grownBy w2 (.slice va bs.length vc : Value).ownBlock) (ho : BR w2 w.heap.size (.slice (some ⟨g, 0, none⟩) (bs.length + 1) cap) (bs ++ [y])) : BgI w w2 (some ⟨g, 0, none⟩) cap (bs ++ [y]) := by
  refine ⟨below_grown h.below hgrow h.below.size (fun q hq => (h.row.lt q hq).1), ?_⟩
  rw [List.length_append]
  exact ho
end
theorem bmap_snoc (m : Nat) (f : Nat → Bool) : (List.range (m + 1)).map f = (List.range m).map f ++ [f m] := by rw [List.range_succ, List.map_append]; rfl
theorem bmap_len (m : Nat) (f : Nat → Bool) : ((List.range m).map f).length = m := by simp

section
attribute [local go_sem ↓] Go.wp_at_zero Go.wp_at_succ zvTb
attribute [local go_sem] zcTb_size zcTb_ne aggcells
set_option maxRecDepth 20000 in
set_option maxHeartbeats 2000000 in
theorem grants_any (w : World) (B gi N m tc g : Nat) (f : ByteArray) (ts : Nat → TabN) (h : ImB w gi N f (some ⟨g, 0, none⟩) m tc) (ht : Tbs w B g m ts) (hB : B ≤ w.heap.size) (hm : m ≤ 4) (hf : f.size ≤ 1000) (s : ByteArray) (fr : Nat) (hfr : fr + m ≤ s.size) (hs : s.size ≤ 1000) (hq : ∀ i, i < m → bt s (fr + i) < (ts i).S) :
    Calls Try.prog 73 #[.pointer (some ⟨gi, 0, none⟩), .string s, .int .i64 (fr : Int)] w fun e w' => e = .returned (.bool (trueF f ((List.range m).map fun i => (ts i).gr (bt s (fr + i))))) ∧ Below w.heap.size w w' := by
  have HT := hide ht
  have HB := hide hB
  have HM := hide hm
  have HF := hide hf
  have HIB := hide h
  have HQ := hide hq
  have HFR := hide hfr
  have hgi := (Array.getElem?_eq_some_iff.1 h.heap).1
  have HGI := hide hgi
  have hmI : (m : Int) ≤ 4 := by omega
  have hsI : (s.size : Int) ≤ 1000 := by omega
  have hfI : (fr : Int) ≤ 1000 := by omega
  clear h ht hB hm hf hq hfr hs
  go_enter Try.func73, Try.ntmps73
  go_wp2_with fail
  go_loopw [7, 8] (fun vx ix wr => ∃ (i : Nat) (va : Option Addr) (vc : Nat), vx = .slice va i vc ∧ ix = .int .i64 (i : Int) ∧ Hid (i ≤ m ∧ BgI w wr va vc ((List.range i).map fun j => (ts j).gr (bt s (fr + j))))) (fun _ ix _ => lenLeft m ix)
  case atStart => exact ⟨0, none, 0, rfl, rfl, Nat.zero_le _, BgI.start⟩
  case round =>
    rename World => wr
    obtain ⟨i, va, vc, rfl, rfl, HH⟩ := hrel
    obtain ⟨hi, hI⟩ := unhide HH
    clear HH
    have hIB := (unhide HIB).below hI.below (unhide HGI)
    have HRU := hide (Rules_any wr gi N m tc f (some ⟨g, 0, none⟩) hIB)
    have HI := hide hI
    have hgr : gi < wr.heap.size := by have := hI.below.size; omega
    by_cases hlt : i < m
    · have hiI : (i : Int) < (m : Int) := by omega
      have hfs : fr + i < s.size := by have := unhide HFR; omega
      have hfsI : (fr : Int) + (i : Int) < (s.size : Int) := by omega
      have hf0 : (0 : Int) ≤ (fr : Int) + (i : Int) := by omega
      have hf1 : ((fr : Int) + (i : Int)).toNat = fr + i := by omega
      have hbt := bt_at s (fr + i) hfs
      have hql := unhide HQ i hlt
      have hqI : ((bt s (fr + i) : Nat) : Int) < 256 := by have := bt_le s (fr + i); omega
      have HLT := hide hlt
      have HTC := hide (Table_any wr B gi N m tc g f ts hIB ((unhide HT).below (hI.below.mono (unhide HB))) (by have := unhide HB; have := hI.below.size; omega) i hlt (unhide HM))
      have HSN := hide (bmap_snoc i (fun j => (ts j).gr (bt s (fr + j))))
      have HLN := hide (bmap_len i (fun j => (ts j).gr (bt s (fr + j))))
      have HQL := hide hql
      clear hi hI hIB hlt hql
      go_wp2_with fail
      refine (unhide HRU).mono ?_
      rintro e w1 ⟨rfl, hww⟩
      obtain rfl : wr = w1 := hww.symm
      clear hww HRU
      go_wp2_with fail
      refine (unhide HTC).mono ?_
      rintro e w2 ⟨hb2, gv, nv, rfl, hr⟩
      clear HTC
      obtain ⟨a1, n1, k1, a2, n2, k2, rfl, rfl⟩ := hr.form
      have HSZ := hide (tbC_size (ts i).cl (ts i).C (.slice a1 n1 k1) (.slice a2 n2 k2))
      have HON := hide (tbC_one a1 a2 n1 n2 k1 k2 (ts i).cl (ts i).C)
      have HTB : Hid (TbB (w2.alloc (.cells (tbC (ts i).cl (ts i).C (.slice a1 n1 k1) (.slice a2 n2 k2)) 142)) B w2.heap.size (ts i)) := (hr.fr (Fr.ofAlloc _ _) (NoRows.nil _) (Nat.le_refl _)).tab (heap_alloc_new _ _)
      generalize tbC (ts i).cl (ts i).C (.slice a1 n1 k1) (.slice a2 n2 k2) = c0 at *
      have HGR := hide (Granted_any _ B w2.heap.size (ts i) (unhide HTB) (bt s (fr + i)) (unhide HQL))
      have HI2 := hide (((unhide HI).next hb2).alloc (.cells c0 142))
      have HWS : Hid (w.heap.size ≤ w2.heap.size) := ((unhide HI).next hb2).below.size
      clear hb2 hr HI HTB HQL
      generalize (ts i).gr (bt s (fr + i)) = y at *
      generalize bt s (fr + i) = q at *
      generalize (List.range i).map (fun j => (ts j).gr (bt s (fr + j))) = xs at *
      have hxl := unhide HLN
      subst hxl
      go_wp2_with (refine store_row rfl 142 _ _ rfl rfl w2.heap.size c0 rfl rfl 142 _ (heap_alloc_new _ _) (by rw [unhide HSZ]; exact infoT) (by rw [zcTb_size]; exact (unhide HSZ).symm) (unhide HON) ?_; rw [setRow_alloc1])
      refine (unhide HGR).mono ?_
      rintro e w3 ⟨rfl, hww⟩
      rw [← hww] at HI2
      have HWS3 : Hid (w.heap.size ≤ w3.heap.size) := by rw [hww]; have := unhide HWS; show _ ≤ (w2.alloc _).heap.size; simp; omega
      clear hww HGR
      have HXA := hide ((unhide HI2).alloc (Obj.cells #[.bool y] 4))
      go_wp2_with (at_builtin; refine appB rfl (.tmp 27) (.tmp 35) rfl w.heap.size _ xs rfl (unhide HXA).row w3.heap.size y rfl (new_cell rfl) (by have := unhide HLT; have := unhide HM; omega) (by have := unhide HWS3; simp; omega) (w3.heap.size + 1) (by simp) ?_; intro g5 cap5 w8 ho hgrow hlies hlt5; have HP9 := hide ((unhide HXA).push hgrow ho); clear ho hgrow hlies)
      go_roundw
      case rel => exact ⟨xs.length + 1, some ⟨g5, 0, none⟩, cap5, rfl, by go_num, unhide HLT, by rw [unhide HSN]; exact unhide HP9⟩
      case measure => have := unhide HLT; simp [lenLeft, intOf]; omega
    · have hi2 : i = m := by omega
      subst hi2
      have hiI : ¬ (i : Int) < (i : Int) := by omega
      have HGG := hide (Grants_any wr gi N i tc w.heap.size f (some ⟨g, 0, none⟩) _ _ hIB hI.row (unhide HF) (by rw [bmap_len]; have := unhide HM; omega))
      rw [bmap_len] at HGG
      have HBW := hide hI.below
      clear hi hI hIB hlt
      go_wp2_with fail
      refine (unhide HRU).mono ?_
      rintro e w1 ⟨rfl, hww⟩
      obtain rfl : wr = w1 := hww.symm
      clear hww HRU
      go_wp2_with fail
      refine (unhide HGG).mono ?_
      rintro e w2 ⟨rfl, hb2⟩
      have HB2 : Hid (Below w.heap.size w w2) := (unhide HBW).trans (hb2.mono (unhide HBW).size)
      clear hb2 HGG
      go_wp2_with fail
      go_ret
      exact ⟨rfl, unhide HB2⟩
end

end Mc
end Go.Proofs.Ytnkdbcicphnmiaa
