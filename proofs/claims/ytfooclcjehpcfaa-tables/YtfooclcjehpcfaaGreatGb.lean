/-
  The document's answer: the number of a state.
-/
import Derived.Test.YtfooclcjehpcfaaGreatG1
namespace Go.Proofs.YtfooclcjehpcfaaGreat
namespace Mc
open Go.RowKit
attribute [local go_sem ↓] Go.wp_at_zero Go.wp_at_succ

theorem infoStG : (Tryz.prog.info? 9).map (fun i => (i.zero, i.size, i.bytes)) = some (some (.string ⟨#[]⟩), 1, 16) := by kernel_rfl
theorem infoSsG : (Tryz.prog.info? 46).map (fun i => (i.zero, i.size, i.bytes)) = some (some (.slice none 0 0), 1, 24) := by kernel_rfl
/-- A string is appended. -/
theorem appSt {ops : Array Oper} {rest : List Oper} {o : Oper} {a : Act} {W : World} {Q : Exit → Act → World → Prop} (hgd : o.guard = none) (s x : Operand)
    (ho : o.op = .call { callee := .builtin .append, args := #[s, x], argTypes := #[46, 46] }) (B : Nat) (v : Value) (xs : List ByteArray) (hs : a.eval s = v) (hown : SRow W B v xs) (g0 : Nat) (y : ByteArray)
    (hx : a.eval x = .slice (some ⟨g0, 0, none⟩) 1 1) (hc : W.cell? ⟨g0, 0, none⟩ = some (.string y)) (hlen : xs.length ≤ 3000000) (hB : B ≤ W.heap.size) (H : Nat) (hH : W.heap.size = H)
    (h : ∀ g cap w', w'.ownsRow B 9 1 (.slice (some ⟨g, 0, none⟩) (xs.length + 1) cap) (xs.length + 1) (strCells xs ++ [.string y]) → W.grownBy w' v.ownBlock → (v.ownBlock = some g ∨ g = H) → g < w'.heap.size → wpList Tryz.prog ops Q rest (a.put o.dst (.slice (some ⟨g, 0, none⟩) (xs.length + 1) cap)) w') : wpList Tryz.prog ops Q (o :: rest) a W := by
  obtain ⟨i, i0, i1, i2, i3⟩ := info_of infoStG
  exact wpList_append_lies W hgd s x 46 ho B 9 i (.string ⟨#[]⟩) 1 16 Tryz.underlying46 i0 i1 i2 i3 rfl (by decide) v xs.length (strCells xs) hs hown ⟨g0, 0, none⟩ 1 1 [.string y] hx rfl (one_cells hc) (by intro u hu; simp at hu; subst hu; rfl) (by decide) (by unfold maxLen; omega) (by omega) hB H hH h
/-- A row of strings is appended. -/
theorem appSl {ops : Array Oper} {rest : List Oper} {o : Oper} {a : Act} {W : World} {Q : Exit → Act → World → Prop} (hgd : o.guard = none) (s x : Operand)
    (ho : o.op = .call { callee := .builtin .append, args := #[s, x], argTypes := #[45, 45] }) (B : Nat) (v : Value) (n : Nat) (us : List Value) (hs : a.eval s = v) (hown : W.ownsRow B 46 1 v n us) (g0 : Nat) (y : Value) (hy : y.oneCell' = true)
    (hx : a.eval x = .slice (some ⟨g0, 0, none⟩) 1 1) (hc : W.cell? ⟨g0, 0, none⟩ = some y) (hlen : n ≤ 1000) (hB : B ≤ W.heap.size) (H : Nat) (hH : W.heap.size = H)
    (h : ∀ g cap w', w'.ownsRow B 46 1 (.slice (some ⟨g, 0, none⟩) (n + 1) cap) (n + 1) (us ++ [y]) → W.grownBy w' v.ownBlock → (v.ownBlock = some g ∨ g = H) → g < w'.heap.size → wpList Tryz.prog ops Q rest (a.put o.dst (.slice (some ⟨g, 0, none⟩) (n + 1) cap)) w') : wpList Tryz.prog ops Q (o :: rest) a W := by
  obtain ⟨i, i0, i1, i2, i3⟩ := info_of infoSsG
  exact wpList_append_lies W hgd s x 45 ho B 46 i (.slice none 0 0) 1 24 Tryz.underlying45 i0 i1 i2 i3 rfl (by decide) v n us hs hown ⟨g0, 0, none⟩ 1 1 [y] hx rfl (one_cells hc) (by intro u hu; simp at hu; subst hu; exact hy) (by decide) (by unfold maxLen; omega) (by omega) hB H hH h

/-- Numbers, and rows of rows of numbers, stay. -/
structure KpN (w w' : World) : Prop where
  size : w.heap.size ≤ w'.heap.size
  keep : ∀ (q : Nat) (cs : Array Value) (ty : TypeId) (fr : Nat × Nat), w.heap[q]? = some (.cells cs ty fr) → (ty = 3 ∨ ty = 31) → w'.heap[q]? = some (.cells cs ty fr)
section
variable {w w1 w2 : World}
theorem KpN.refl (w : World) : KpN w w := ⟨Nat.le_refl _, fun _ _ _ _ h _ => h⟩
theorem KpN.trans (h : KpN w w1) (k : KpN w1 w2) : KpN w w2 := ⟨Nat.le_trans h.size k.size, fun q cs ty fr g e => k.keep q cs ty fr (h.keep q cs ty fr g e) e⟩
theorem KpN.fy {b : Nat} {rs : List Rn} (k : Fy b w w1) (hb : RtS w b rs) : KpN w w1 := ⟨k.below.size, fun q cs ty fr g e => k.at hb g (by rcases e with e | e <;> (rw [e]; decide)) (by rcases e with e | e <;> (rw [e]; decide))⟩
theorem KpN.fr {S : List Nat} (f : Fr S w w1) (hS : ∀ q ∈ S, ∀ cs ty fr, w.heap[q]? = some (.cells cs ty fr) → ty ≠ 3 ∧ ty ≠ 31) : KpN w w1 := ⟨f.size, fun q cs ty fr g e => f.at g (fun hm => by
  have := hS q hm cs ty fr g
  rcases e with e | e
  · exact this.1 e
  · exact this.2 e)⟩
theorem KpN.own (h : KpN w w1) {B e z n : Nat} {v : Value} {xs : List Value} (ho : w.ownsRow B e z v n xs) (he : e = 3 ∨ e = 31) : w1.ownsRow B e z v n xs := by
  refine ⟨ho.1, ?_⟩
  rcases ho.2 with hl | ⟨g, cap, cur, rfl, q1, hg, rest⟩
  · exact .inl hl
  · exact .inr ⟨g, cap, cur, rfl, q1, h.keep _ _ _ _ hg he, rest⟩
theorem KpN.nr (h : KpN w w1) {B : Nat} {v : Value} {xs : List Nat} (ho : NR w B v xs) : NR w1 B v xs := h.own ho (.inl rfl)
theorem noInt_own {B e z n : Nat} {v : Value} {xs : List Value} (h : w.ownsRow B e z v n xs) (h1 : e ≠ 3) (h2 : e ≠ 31) : ∀ q ∈ v.ownBlock.toList, ∀ cs ty fr, w.heap[q]? = some (.cells cs ty fr) → ty ≠ 3 ∧ ty ≠ 31 := fun q hq cs ty fr hc => by
  obtain ⟨cs', hc'⟩ := own_tyT h (Option.mem_toList.1 hq)
  rw [hc] at hc'
  simp at hc'
  rw [hc'.2.1]
  exact ⟨h1, h2⟩
theorem noInt_one {g : Nat} {cs : Array Value} {t : TypeId} (h : w.heap[g]? = some (.cells cs t (0, 0))) (h1 : t ≠ 3) (h2 : t ≠ 31) : ∀ q ∈ [g], ∀ cs ty fr, w.heap[q]? = some (.cells cs ty fr) → ty ≠ 3 ∧ ty ≠ 31 := fun q hq cs' ty fr hc => by
  rw [List.mem_singleton.1 hq, h] at hc
  simp at hc
  rw [← hc.2.1]
  exact ⟨h1, h2⟩
end
/-- In the midst of state. -/
structure StI (rs0 : List Rn) (U : List (List Nm)) (b gf : Nat) (w : World) (rs : List Rn) (W : World) (bv : Value) (sa : Option Addr) (sc : Nat) (St : List (List ByteArray)) (us : List Value) (tn : Nat) (rs1 : List Rn) (u : Value) (X : List ByteArray) (wr : World) (ta : Option Addr) (tc : Nat) (T : List ByteArray) (rs2 : List Rn) (i : Nat) : Prop where
  fn : FnI rs0 U b gf w rs wr bv sa sc St us ta tc T rs2
  ex : ∃ x, rs2 = rs1 ++ x
  g1 : GrowT rs0 rs1
  kp : KpN W wr
  ur : SRow wr 0 u X
  un : ∀ q, u.ownBlock = some q → (Value.slice ta T.length tc).ownBlock ≠ some q
  vs : VSet rs0 rs1 U X
  v1 : ∀ Y ∈ St, VSet rs0 rs1 U Y
  tl : T.length ≤ tn + i
  no : ∀ k, k < i → ∀ Y, St[k]? = some Y → ∃ s, Tells s (stB rs1 Y) (stB rs1 X)
section
variable {rs0 : List Rn} {U : List (List Nm)} {b gf : Nat} {w : World} {rs : List Rn} {W wr w2 : World} {bv : Value} {sa : Option Addr} {sc : Nat} {St : List (List ByteArray)} {us : List Value} {tn : Nat} {u : Value} {X : List ByteArray} {ta : Option Addr} {tc : Nat} {T : List ByteArray} {rs1 rs2 rs3 : List Rn} {i : Nat}
theorem StI.next (h : StI rs0 U b gf w rs W bv sa sc St us tn rs1 u X wr ta tc T rs2 i) (k : TrK rs0 b wr rs2 w2 rs3) : StI rs0 U b gf w rs W bv sa sc St us tn rs1 u X w2 ta tc T rs3 i :=
  ⟨h.fn.next k, grow_trans h.ex k.ex, h.g1, h.kp.trans (KpN.fy k.fy h.fn.rt), h.ur.fy k.fy h.fn.rt, h.un, h.vs, h.v1, h.tl, h.no⟩
theorem StI.below (h : StI rs0 U b gf w rs W bv sa sc St us tn rs1 u X wr ta tc T rs2 i) (k : Below wr.heap.size wr w2) : StI rs0 U b gf w rs W bv sa sc St us tn rs1 u X w2 ta tc T rs2 i := h.next ((TrK.refl h.fn.rt h.fn.gr).below k)
theorem StI.vX (h : StI rs0 U b gf w rs W bv sa sc St us tn rs1 u X wr ta tc T rs2 i) : VSet rs0 rs2 U X ∧ stB rs2 X = stB rs1 X := by
  obtain ⟨x, hx⟩ := h.ex
  rw [hx]
  exact ⟨h.vs.grow x, stB_app h.g1 h.vs x⟩
theorem StI.vY (h : StI rs0 U b gf w rs W bv sa sc St us tn rs1 u X wr ta tc T rs2 i) {Y : List ByteArray} (hY : Y ∈ St) : VSet rs0 rs2 U Y ∧ stB rs2 Y = stB rs1 Y := by
  obtain ⟨x, hx⟩ := h.ex
  rw [hx]
  exact ⟨(h.v1 Y hY).grow x, stB_app h.g1 (h.v1 Y hY) x⟩
theorem StI.inc (h : StI rs0 U b gf w rs W bv sa sc St us tn rs1 u X wr ta tc T rs2 i) {Y : List ByteArray} (hY : St[i]? = some Y) (ht : ∃ s, Tells s (stB rs1 Y) (stB rs1 X)) : StI rs0 U b gf w rs W bv sa sc St us tn rs1 u X wr ta tc T rs2 (i + 1) :=
  ⟨h.fn, h.ex, h.g1, h.kp, h.ur, h.un, h.vs, h.v1, by have := h.tl; omega, fun k hk Y' hY' => by
    by_cases e : k = i
    · subst e; rw [hY] at hY'; cases hY'; exact ht
    · exact h.no k (by omega) Y' hY'⟩
theorem StI.pushT (h : StI rs0 U b gf w rs W bv sa sc St us tn rs1 u X wr ta tc T rs2 i) {Y : List ByteArray} (hY : St[i]? = some Y) {g cap : Nat} {s : ByteArray} (ht : Tells s (stB rs1 Y) (stB rs1 X)) (hz : s.size ≤ 67108864 ∧ bytesOk (bytesN s)) (hgrow : wr.grownBy w2 (.slice ta T.length tc : Value).ownBlock) (ho : w2.ownsRow w.heap.size 9 1 (.slice (some ⟨g, 0, none⟩) (T.length + 1) cap) (T.length + 1) (strCells T ++ [.string s])) (hl : (Value.slice ta T.length tc).ownBlock = some g ∨ g = wr.heap.size) :
    w2.cell? ⟨gf, 3, none⟩ = some (.slice ta T.length tc) ∧ w2.frozen? ⟨gf, 3, none⟩ = false ∧ gf < w2.heap.size ∧ StI rs0 U b gf w rs W bv sa sc St us tn rs1 u X (w2.setCell ⟨gf, 3, none⟩ (.slice (some ⟨g, 0, none⟩) (T.length + 1) cap)) (some ⟨g, 0, none⟩) cap (T ++ [s]) rs2 (i + 1) := by
  obtain ⟨p1, p2, p3, p4⟩ := h.fn.pushT hz hgrow ho hl
  have hlen : (T ++ [s]).length = T.length + 1 := by simp
  have e2 := own_off h.fn.tr h.fn.im (by decide)
  have g2 : w2.heap[gf]? = _ := (Fr.ofGrown hgrow).at h.fn.im (fun hm => e2 _ (Option.mem_toList.1 hm) rfl)
  have hu2 : SRow w2 0 u X := (Fr.ofGrown hgrow).own h.ur (fun q hq hm => h.un q hq (Option.mem_toList.1 hm))
  refine ⟨p1, p2, p3, p4, h.ex, h.g1, (h.kp.trans (KpN.fr (Fr.ofGrown hgrow) (noInt_own h.fn.tr (by decide) (by decide)))).trans (KpN.fr (Fr.ofSet _ _ _ _) (noInt_one g2 (by decide) (by decide))), ?_, ?_, h.vs, h.v1, by rw [hlen]; have := h.tl; omega, fun k hk Y' hY' => ?_⟩
  · exact (Fr.ofSet _ _ _ _).own hu2 (fun q hq => by simpa using own_off hu2 g2 (by decide) q hq)
  · intro q hq hq'
    have e : g = q := by simpa [Value.ownBlock] using hq'
    subst e
    rcases hl with hl | hl
    · exact h.un g hq hl
    · have := (World.ownsRow.lt h.ur g hq).2
      omega
  · by_cases e : k = i
    · subst e; rw [hY] at hY'; cases hY'; exact ⟨s, ht⟩
    · exact h.no k (by omega) Y' hY'
end
/-- What apart answers, in one form. -/
theorem apart_u {rs0 : List Rn} {U : List (List Nm)} (hT : TrC rs0 U) {b : Nat} (w : World) (rs : List Rn) (hb : RtS w b rs) (hg : GrowT rs0 rs) (B1 B2 : Nat) (u v : Value) (A B : List ByteArray) (hu : SRow w B1 u A) (hv : SRow w B2 v B) (hA : VSet rs0 rs U A) (hB : VSet rs0 rs U B) (B3 : Nat) (hv3 : Value) (hbs : List Nat) (hn : NR w B3 hv3 hbs) (hb256 : ∀ x ∈ hbs, x < 256) (hbl : hbs.length ≤ 256) :
    Calls Tryz.prog 51 #[.pointer (some ⟨b, 0, none⟩), u, v, hv3] w fun e w' => ∃ (s : ByteArray) (o : Bool) (rs' : List Rn), e = .returned (.tuple #[.string s, .bool o]) ∧ TrK rs0 b w rs w' rs' ∧ (o = true → (s.size ≤ 67108864 ∧ bytesOk (bytesN s)) ∧ Tells s (stB rs A) (stB rs B)) ∧ (o = false → ∀ x, (∀ c ∈ x, c ∈ hbs) → (stB rs A x ↔ stB rs B x)) :=
  (apart_any hT w rs hb hg B1 B2 u v A B hu hv hA hB B3 hv3 hbs hn hb256 hbl).mono fun e w' h => by
    obtain ⟨rs', hk, ⟨s, h1, h2, h3, h4⟩ | ⟨h1, h2⟩⟩ := h
    · exact ⟨s, true, rs', h1, hk, fun _ => ⟨⟨h2, h3⟩, h4⟩, (fun e => by cases e)⟩
    · exact ⟨_, false, rs', h1, hk, (fun e => by cases e), fun _ => h2⟩
/-- What state answers. -/
def StA (rs0 : List Rn) (U : List (List Nm)) (b gf : Nat) (w : World) (rs : List Rn) (W : World) (bv : Value) (St : List (List ByteArray)) (us : List Value) (tn : Nat) (rs1 : List Rn) (u : Value) (X : List ByteArray) (hbs : List Nat) (e : Ending) (w' : World) : Prop :=
  ∃ (k : Nat) (sa : Option Addr) (sc : Nat) (St' : List (List ByteArray)) (us' : List Value) (ta : Option Addr) (tc : Nat) (T : List ByteArray) (rs2 : List Rn), e = .returned (.int .i64 (k : Int)) ∧ FnI rs0 U b gf w rs w' bv sa sc St' us' ta tc T rs2 ∧ (∃ x, rs2 = rs1 ++ x) ∧ KpN W w' ∧ T.length ≤ tn + St.length ∧
    ((St' = St ∧ us' = us ∧ ∃ Y, St[k]? = some Y ∧ ∀ x, (∀ c ∈ x, c ∈ hbs) → (stB rs1 Y x ↔ stB rs1 X x)) ∨ (St' = St ++ [X] ∧ us' = us ++ [u] ∧ k = St.length ∧ ∀ Y ∈ St, ∃ s, Tells s (stB rs1 Y) (stB rs1 X)))
set_option maxRecDepth 20000 in
set_option maxHeartbeats 4000000 in
theorem state_any {rs0 : List Rn} {U : List (List Nm)} (hT : TrC rs0 U) {b gf : Nat} (w : World) (rs : List Rn) (W : World) (bv : Value) (sa : Option Addr) (sc : Nat) (St : List (List ByteArray)) (us : List Value) (ta : Option Addr) (tc : Nat) (T : List ByteArray) (rs1 : List Rn) (hI : FnI rs0 U b gf w rs W bv sa sc St us ta tc T rs1) (u : Value) (X : List ByteArray) (hu : SRow W 0 u X) (hun : ∀ q, u.ownBlock = some q → (Value.slice ta T.length tc).ownBlock ≠ some q) (hX : VSet rs0 rs1 U X) (B3 : Nat) (hbs : List Nat) (hn : NR W B3 bv hbs) (hb256 : ∀ x ∈ hbs, x < 256) (hbl : hbs.length ≤ 256) (hSl : St.length ≤ 100) (hTl : T.length ≤ 900000) :
    Calls Tryz.prog 24 #[.pointer (some ⟨gf, 0, none⟩), u] W fun e w' => StA rs0 U b gf w rs W bv St us T.length rs1 u X hbs e w' := by
  obtain ⟨ua, uc, rfl⟩ := hu.form
  obtain ⟨ba, bc, rfl⟩ := hn.form
  have hSI : (St.length : Int) ≤ 100 := by omega
  have HT := hide hT
  have HN := hide hn
  have H256 := hide hb256
  have HBL := hide hbl
  have HSL := hide hSl
  have HTLN := hide hTl
  have HI0 : Hid (StI rs0 U b gf w rs W (.slice ba hbs.length bc) sa sc St us T.length rs1 (.slice ua X.length uc) X W ta tc T rs1 0) := ⟨hI, ⟨[], by simp⟩, hI.gr, KpN.refl _, hu, hun, hX, hI.sets, by omega, fun k hk => absurd hk (Nat.not_lt_zero _)⟩
  have HXL : Hid (X.length ≤ 13) := by have h1 := hX.len hI.gr; have h2 := hT.l13; show _ ≤ _; omega
  clear hT hI hu hun hX hn hb256 hbl hSl hTl
  go_enter Tryz.func24, Tryz.ntmps24
  go_wp2_with fail
  go_loopw [5] (fun ix wr => ∃ i : Nat, ix = .int .i64 (i : Int) ∧ Hid (i ≤ St.length ∧ StI rs0 U b gf w rs W (.slice ba hbs.length bc) sa sc St us T.length rs1 (.slice ua X.length uc) X wr ta tc T rs1 0)) (fun ix _ => St.length - (intOf ix).toNat)
  case atStart => exact ⟨0, rfl, Nat.zero_le _, unhide HI0⟩
  case round =>
    clear HI0
    rename World => wr
    obtain ⟨i, rfl, HH⟩ := hrel
    obtain ⟨hi, hI⟩ := unhide HH
    clear HH
    have f2 := hI.fn.c2
    have hgf := hI.fn.lt
    by_cases hlt : i < St.length
    · have hiI : (i : Int) < (St.length : Int) := by omega
      have hi0 : (0 : Int) ≤ (i : Int) := by omega
      have hi1 : ((i : Int)).toNat = i := by omega
      obtain ⟨Y, hY⟩ : ∃ Y, St[i]? = some Y := ⟨_, List.getElem?_eq_getElem hlt⟩
      obtain ⟨g, y, rfl, hgl, hcy, hry⟩ := hI.fn.at hY
      have hyl : Y.length ≤ 13 := by have h1 := (hI.v1 Y (List.mem_of_getElem? hY)).len hI.g1; have h2 := (unhide HT).l13; omega
      have HSM := hide (sameTerms_any wr 0 0 _ _ Y X hry hI.ur (by omega) (by have := unhide HXL; omega))
      obtain ⟨ya, yc, rfl⟩ := hry.form
      have HI := hide hI
      have HY := hide hY
      have HLT := hide hlt
      clear hi hI hlt hY hry hyl
      go_wp2_with fail
      refine (unhide HSM).mono ?_
      rintro e w2 ⟨⟨y, rfl, hy⟩, hb2⟩
      have HY2 := hide hy
      have HI2 := hide ((unhide HI).below hb2)
      clear hy hb2 HSM HI f2 hgf hcy hgl
      cases y
      · go_wp2_with fail
        go_roundw
        case rel => exact ⟨i + 1, by go_num, unhide HLT, unhide HI2⟩
        case measure => have := unhide HLT; simp [intOf]; omega
      · have HEQ : Hid (Y = X) := (unhide HY2).1 rfl
        clear HY2
        go_wp2_with fail
        go_ret
        exact ⟨i, _, _, St, us, _, _, T, rs1, rfl, (unhide HI2).fn, ⟨[], by simp⟩, (unhide HI2).kp, Nat.le_add_right _ _, .inl ⟨rfl, rfl, Y, unhide HY, fun x _ => by rw [unhide HEQ]⟩⟩
    · have hi2 : i = St.length := by omega
      subst hi2
      have hiI : ¬ (St.length : Int) < (St.length : Int) := by omega
      have HI := hide hI
      clear hlt hi hI
      go_wp2_with fail
      clear f2 hgf hiI
      go_loopw [7] (fun ix wr => ∃ (i : Nat) (ta : Option Addr) (tc : Nat) (T' : List ByteArray) (rs2 : List Rn), ix = .int .i64 (i : Int) ∧ Hid (i ≤ St.length ∧ StI rs0 U b gf w rs W (.slice ba hbs.length bc) sa sc St us T.length rs1 (.slice ua X.length uc) X wr ta tc T' rs2 i)) (fun ix _ => St.length - (intOf ix).toNat)
      case atStart => exact ⟨0, ta, tc, T, rs1, rfl, Nat.zero_le _, unhide HI⟩
      case round =>
        clear HI
        rename World => wq
        obtain ⟨j, tb, td, T', rs2, rfl, HH⟩ := hrel
        obtain ⟨hj, hI⟩ := unhide HH
        clear HH
        have f2 := hI.fn.c2
        have hgf := hI.fn.lt
        by_cases hlt : j < St.length
        · have hiI : (j : Int) < (St.length : Int) := by omega
          have hi0 : (0 : Int) ≤ (j : Int) := by omega
          have hi1 : ((j : Int)).toNat = j := by omega
          obtain ⟨Y, hY⟩ : ∃ Y, St[j]? = some Y := ⟨_, List.getElem?_eq_getElem hlt⟩
          obtain ⟨g, y, rfl, hgl, hcy, hry⟩ := hI.fn.at hY
          have hvY := hI.vY (List.mem_of_getElem? hY)
          have HTE := hide (tested_any (unhide HT) wq rs2 hI.fn.rt hI.fn.gr gf _ _ tb td T' hI.fn.im w.heap.size hI.fn.tr (fun s hs => (hI.fn.tz s hs).1) (by have := hI.tl; have := unhide HTLN; have := unhide HSL; omega) 0 0 _ _ Y X hry hI.ur hvY.1 hI.vX.1)
          have HEY : Hid (stB rs2 Y = stB rs1 Y) := hvY.2
          have HEX : Hid (stB rs2 X = stB rs1 X) := hI.vX.2
          obtain ⟨ya, yc, rfl⟩ := hry.form
          have HI := hide hI
          have HY := hide hY
          have HLT := hide hlt
          clear hj hI hlt hY hry hvY
          go_wp2_with fail
          refine (unhide HTE).mono ?_
          rintro e w2 ⟨y, rs3, rfl, hk, hy⟩
          have HYT := hide hy
          have HI2 := hide ((unhide HI).next hk)
          clear hy hk HTE HI f2 hgf hcy hgl
          cases y
          · have hI2 := unhide HI2
            have e0 := hI2.fn.c0
            have e1 := hI2.fn.c1
            have e2 := hI2.fn.c2
            have hgf2 := hI2.fn.lt
            obtain ⟨g', y', he, hgl2, hcy2, hry2⟩ := hI2.fn.at (unhide HY)
            simp only [Option.some.injEq, Addr.mk.injEq, and_true] at he
            subst he
            obtain ⟨za, zc, rfl⟩ := hry2.form
            have hvY2 := hI2.vY (List.mem_of_getElem? (unhide HY))
            have HAP := hide (fun n => apart_u (unhide HT) (w2.drewN n) rs3 (RtS_below hI2.fn.rt (below_drewN (Below.refl _ _) n)) hI2.fn.gr 0 0 (.slice za Y.length zc) (.slice ua X.length uc) Y X (show SRow w2 0 (.slice za Y.length zc) Y from hry2) (show SRow w2 0 (.slice ua X.length uc) X from hI2.ur) hvY2.1 hI2.vX.1 B3 (.slice ba hbs.length bc) hbs (show NR w2 B3 (.slice ba hbs.length bc) hbs from hI2.kp.nr (unhide HN)) (unhide H256) (unhide HBL))
            have HEY2 : Hid (stB rs3 Y = stB rs1 Y) := hvY2.2
            have HEX2 : Hid (stB rs3 X = stB rs1 X) := hI2.vX.2
            clear HYT hI2 hry2 hvY2 HEY HEX
            go_upto_region 12 with fail
            go_cut [9, 10] from 31 to 83 (fun sx ox wx => ∃ (s : ByteArray) (o : Bool) (rs4 : List Rn), sx = .string s ∧ ox = .bool o ∧ Hid (TrK rs0 b w2 rs3 wx rs4 ∧ (o = true → (s.size ≤ 67108864 ∧ bytesOk (bytesN s)) ∧ Tells s (stB rs3 Y) (stB rs3 X)) ∧ (o = false → ∀ x, (∀ c ∈ x, c ∈ hbs) → (stB rs3 Y x ↔ stB rs3 X x))))
            case first =>
              go_region_with (go_at_call 51; refine (unhide HAP _).mono ?_; rintro e w3 ⟨s, o, rs4, rfl, hk, ho⟩; have HK3 := hide (And.intro (trk_base hk) ho); clear hk ho)
              all_goals
                go_wp2_with fail
                go_meet
                exact ⟨s, o, rs4, rfl, rfl, unhide HK3⟩
            case rest =>
              clear HAP e0 e1 e2 hgf2 hcy2 hgl2
              rename World => w3
              obtain ⟨s, o, rs4, rfl, rfl, HC⟩ := hcut
              obtain ⟨hk, ho1, ho2⟩ := unhide HC
              have hI3 := (unhide HI2).next hk
              clear HI2 HC
              cases o
              · have HSAME : Hid (∀ x, (∀ c ∈ x, c ∈ hbs) → (stB rs1 Y x ↔ stB rs1 X x)) := fun x hx => by
                  have := ho2 rfl x hx
                  rw [unhide HEY2, unhide HEX2] at this
                  exact this
                have HI3 := hide hI3
                clear hk ho1 ho2 hI3
                go_wp2_with fail
                go_ret
                exact ⟨j, _, _, St, us, tb, td, T', rs4, rfl, (unhide HI3).fn, (unhide HI3).ex, (unhide HI3).kp, by have h1 := (unhide HI3).tl; have h2 := unhide HLT; omega, .inl ⟨rfl, rfl, Y, unhide HY, unhide HSAME⟩⟩
              · have HTS : Hid (Tells s (stB rs1 Y) (stB rs1 X)) := by
                  have := (ho1 rfl).2
                  rw [unhide HEY2, unhide HEX2] at this
                  exact this
                have HSZ := hide (ho1 rfl).1
                have HI3 := hide hI3
                have hXA : StI rs0 U b gf w rs W (.slice ba hbs.length bc) (some ⟨g, 0, none⟩) sc St us T.length rs1 (.slice ua X.length uc) X (w3.alloc (Obj.cells #[.string s] 9)) tb td T' rs4 j := hI3.below ((Below.refl _ _).alloc (Nat.le_refl _) _)
                have HXA := hide hXA
                have e3 := hI3.fn.c3
                have hgf3 := hI3.fn.lt
                have HWS : Hid (w.heap.size ≤ w3.heap.size) := hI3.fn.fv.size
                have HTL2 : Hid (T'.length ≤ 3000000) := by have h1 := hI3.tl; have h2 := unhide HTLN; have h3 := unhide HSL; have h4 := unhide HLT; show _ ≤ _; omega
                clear hk ho1 ho2 hI3 hXA
                go_wp2_with (at_builtin; refine appSt rfl (.tmp 78) (.tmp 80) rfl w.heap.size _ T' rfl (unhide HXA).fn.tr w3.heap.size _ rfl (new_cell rfl) (unhide HTL2) (by have := unhide HWS; simp; omega) (w3.heap.size + 1) (by simp) ?_; intro g5 cap5 w8 ho hgrow hlies hlt5; obtain ⟨y1, z1, hg8, hP⟩ := (unhide HXA).pushT (unhide HY) (unhide HTS) (unhide HSZ) hgrow ho (hlies.imp (fun e => e) (fun e => by rw [e]; simp)); have HP9 := hide hP; clear ho hgrow hlies hP)
                go_roundw
                case rel => exact ⟨j + 1, some ⟨g5, 0, none⟩, cap5, T' ++ [s], rs4, by go_num, unhide HLT, unhide HP9⟩
                case measure => have := unhide HLT; simp [intOf]; omega
          · have HI3 := hide ((unhide HI2).inc (unhide HY) (by
              obtain ⟨s, -, hs⟩ := unhide HYT rfl
              rw [unhide HEY, unhide HEX] at hs
              exact ⟨s, hs⟩))
            clear HYT
            go_wp2_with fail
            go_roundw
            case rel => exact ⟨j + 1, tb, td, T', rs3, by go_num, unhide HLT, unhide HI3⟩
            case measure => have := unhide HLT; simp [intOf]; omega
        · have hj2 : j = St.length := by omega
          subst hj2
          have hjI : ¬ (St.length : Int) < (St.length : Int) := by omega
          have HNO : Hid (∀ Y ∈ St, ∃ s, Tells s (stB rs1 Y) (stB rs1 X)) := fun Y hY => by
            obtain ⟨k, hk⟩ := List.getElem?_of_mem hY
            exact hI.no k (get_lt hk) Y hk
          have hXA : StI rs0 U b gf w rs W (.slice ba hbs.length bc) sa sc St us T.length rs1 (.slice ua X.length uc) X (wq.alloc (Obj.cells #[.slice ua X.length uc] 46)) tb td T' rs2 St.length := hI.below ((Below.refl _ _).alloc (Nat.le_refl _) _)
          have HXA := hide hXA
          have HI := hide hI
          have HWS : Hid (w.heap.size ≤ wq.heap.size) := hI.fn.fv.size
          have HEQ : Hid (((St ++ [X]).length : Int) - 1 = (St.length : Int)) := by show _ = _; rw [List.length_append]; simp
          have HKG : Hid (∀ w8 x, (wq.alloc (Obj.cells #[.slice ua X.length uc] 46)).grownBy w8 (.slice sa St.length sc : Value).ownBlock → KpN W (w8.setCell ⟨gf, 2, none⟩ x)) := fun w8 x hgrow => by
            have e2 := own_off hXA.fn.so hXA.fn.im (by decide)
            have g2 : w8.heap[gf]? = _ := (Fr.ofGrown hgrow).at hXA.fn.im (fun hm => e2 _ (Option.mem_toList.1 hm) rfl)
            exact (hXA.kp.trans (KpN.fr (Fr.ofGrown hgrow) (noInt_own hXA.fn.so (by decide) (by decide)))).trans (KpN.fr (Fr.ofSet _ _ _ _) (noInt_one g2 (by decide) (by decide)))
          clear hj hlt hI hXA
          go_wp2_with (at_builtin; refine appSl rfl (.tmp 88) (.tmp 90) rfl w.heap.size _ St.length us rfl (unhide HXA).fn.so wq.heap.size _ rfl rfl (new_cell rfl) (by have := unhide HSL; omega) (by have := unhide HWS; simp; omega) (wq.heap.size + 1) (by simp) ?_; intro g5 cap5 w8 ho hgrow hlies hlt5; obtain ⟨y1, z1, hg8, hP⟩ := (unhide HXA).fn.pushS (unhide HXA).ur (unhide HXA).vX.1 (unhide HXA).un hgrow ho; have HP9 := hide hP; have HK9 := hide (unhide HKG w8 (.slice (some ⟨g5, 0, none⟩) (St.length + 1) cap5) hgrow); have s1 := hP.c2; clear ho hgrow hlies hP)
          rw [List.length_append] at s1
          go_ret
          exact ⟨St.length, _, _, _, _, tb, td, T', rs2, rfl, unhide HP9, (unhide HI).ex, unhide HK9, (unhide HI).tl, .inr ⟨rfl, rfl, rfl, unhide HNO⟩⟩

end Mc
end Go.Proofs.YtfooclcjehpcfaaGreat
