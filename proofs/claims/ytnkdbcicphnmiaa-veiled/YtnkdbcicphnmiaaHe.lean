/-
  veilkeep.Tab.text: the bytes of a small table.
-/
import Derived.Test.YtnkdbcicphnmiaaHd
import Derived.Laws.IdiomStrings
namespace Go.Proofs.Ytnkdbcicphnmiaa
namespace Mc
open Go.RowKit

theorem kbelow2 (w : World) (a b : Obj) : Below w.heap.size w ((w.alloc a).alloc b) := ((Below.refl _ _).alloc (Nat.le_refl _) _).alloc (by simp) _
def ucs (xs : List Nat) : List Value := xs.map fun (n : Nat) => Value.int .u8 (n : Int)
def UR (w : World) (B : Nat) (v : Value) (xs : List Nat) : Prop := w.ownsRow B 5 1 v xs.length (ucs xs)
theorem UR.of {w : World} {B : Nat} {v : Value} {xs : List Nat} {y : Nat} (h : w.ownsRow B 5 1 v (xs.length + 1) (ucs xs ++ [.int .u8 (y : Int)])) : UR w B v (xs ++ [y]) := by
  unfold UR ucs
  rw [List.length_append, List.map_append]; exact h
theorem UR.at {w : World} {B g cap : Nat} {xs : List Nat} (h : UR w B (.slice (some ⟨g, 0, none⟩) xs.length cap) xs) {k : Nat} (hk : k < xs.length) : w.cell? ⟨g, k, none⟩ = some (.int .u8 ((xs.getD k 0 : Nat) : Int)) := by
  have h' : w.ownsRow B 5 1 (.slice (some ⟨g, 0, none⟩) xs.length cap) xs.length (ucs xs) := h
  have := h'.cells (g := g) rfl k (.int .u8 ((xs.getD k 0 : Nat) : Int)) (by unfold ucs; rw [List.getElem?_map, List.getElem?_eq_getElem hk, List.getD_eq_getElem?_getD, List.getElem?_eq_getElem hk]; rfl)
  rwa [add0] at this
/-- A text out of its bytes. -/
def mkS (xs : List Nat) : ByteArray := ⟨(xs.map UInt8.ofNat).toArray⟩
theorem mkS_size (xs : List Nat) : (mkS xs).size = xs.length := by show ((xs.map UInt8.ofNat).toArray).size = _; simp
theorem mkS_bt {xs : List Nat} (h : ∀ x ∈ xs, x < 256) (k : Nat) : bt (mkS xs) k = xs.getD k 0 := by
  unfold bt
  by_cases hk : k < (mkS xs).size
  · rw [dif_pos hk]
    have hk2 : k < xs.length := by rwa [mkS_size] at hk
    have e : (mkS xs)[k]'hk = (xs.map UInt8.ofNat)[k]'(by rw [List.length_map]; exact hk2) := rfl
    rw [e, List.getElem_map, UInt8.toNat_ofNat', List.getD_eq_getElem?_getD, List.getElem?_eq_getElem hk2]
    exact Nat.mod_eq_of_lt (by have := h _ (List.getElem_mem hk2); omega)
  · rw [dif_neg hk, List.getD_eq_getElem?_getD, List.getElem?_eq_none (by rw [mkS_size] at hk; omega)]; rfl
theorem conv_mk {w : World} {B g cap : Nat} {xs : List Nat} (h : UR w B (.slice (some ⟨g, 0, none⟩) xs.length cap) xs) (hx : ∀ x ∈ xs, x < 256) :
    (convert 100 9 (.slice (some ⟨g, 0, none⟩) xs.length cap)).run Try.prog w = .ok (.string (mkS xs)) w := by
  have hl : (xs.map UInt8.ofNat).length = xs.length := List.length_map _
  have := run_convert_bytes_back (P := Try.prog) w 100 9 5 ⟨g, 0, none⟩ cap (xs.map UInt8.ofNat) Try.underlying100 Try.underlying5 Try.underlying9 (by
    intro j hj
    rw [hl] at hj
    have e : (xs.map UInt8.ofNat)[j] = UInt8.ofNat xs[j] := List.getElem_map _
    rw [e, UInt8.toNat_ofNat', Nat.mod_eq_of_lt (by have := hx _ (List.getElem_mem hj); omega)]
    have := h.at hj
    rw [List.getD_eq_getElem?_getD, List.getElem?_eq_getElem hj] at this
    rw [add0]
    exact this)
  rw [hl] at this
  exact this
theorem infoU : (Try.prog.info? 5).map (fun i => (i.zero, i.size, i.bytes)) = some (some (.int .u8 0), 1, 1) := by kernel_rfl
/-- A byte is appended to a row. -/
theorem appU {ops : Array Oper} {rest : List Oper} {o : Oper} {a : Act} {W : World} {Q : Exit → Act → World → Prop} (hgd : o.guard = none) (s x : Operand)
    (ho : o.op = .call { callee := .builtin .append, args := #[s, x], argTypes := #[100, 100] }) (B : Nat) (v : Value) (xs : List Nat) (hs : a.eval s = v) (hown : UR W B v xs) (g0 : Nat) (y : Nat)
    (hx : a.eval x = .slice (some ⟨g0, 0, none⟩) 1 1) (hc : W.cell? ⟨g0, 0, none⟩ = some (.int .u8 (y : Int))) (hlen : xs.length ≤ 3000000) (hB : B ≤ W.heap.size) (H : Nat) (hH : W.heap.size = H)
    (h : ∀ g cap w', w'.ownsRow B 5 1 (.slice (some ⟨g, 0, none⟩) (xs.length + 1) cap) (xs.length + 1) (ucs xs ++ [.int .u8 (y : Int)]) → W.grownBy w' v.ownBlock → (v.ownBlock = some g ∨ g = H) → g < w'.heap.size → wpList Try.prog ops Q rest (a.put o.dst (.slice (some ⟨g, 0, none⟩) (xs.length + 1) cap)) w') : wpList Try.prog ops Q (o :: rest) a W := by
  obtain ⟨i, i0, i1, i2, i3⟩ := info_of infoU
  exact wpList_append_lies W hgd s x 100 ho B 5 i (.int .u8 0) 1 1 Try.underlying100 i0 i1 i2 i3 rfl (by decide) v xs.length (ucs xs) hs hown ⟨g0, 0, none⟩ 1 1 [.int .u8 (y : Int)] hx rfl (one_cells hc) (by intro u hu; simp at hu; subst hu; rfl) (by decide) (by unfold maxLen; omega) (by omega) hB H hH h

/-- While the bytes are written. -/
structure TxI (H : Nat) (w wr : World) (t : TabN) (ta : Option Addr) (tc : Nat) (xs : List Nat) : Prop where
  ki : KI H w wr t.S t.C t.cl t.gr (fun j => t.nx (j / 3) (j % 3))
  row : UR wr H (.slice ta xs.length tc) xs
section
variable {H : Nat} {w wr w2 : World} {t : TabN} {ta : Option Addr} {tc : Nat} {xs : List Nat}
theorem TxI.lt (h : TxI H w wr t ta tc xs) : H < wr.heap.size := (Array.getElem?_eq_some_iff.1 h.ki.heap).1
theorem TxI.alloc (h : TxI H w wr t ta tc xs) (o : Obj) : TxI H w (wr.alloc o) t ta tc xs := ⟨⟨h.ki.below.alloc (Nat.le_of_lt h.lt) _, (Fr.ofAlloc wr o).at h.ki.heap (by simp)⟩, (Fr.ofAlloc wr o).own h.row (by simp)⟩
theorem TxI.push (h : TxI H w wr t ta tc xs) {g cap y : Nat} (hgrow : wr.grownBy w2 (.slice ta xs.length tc : Value).ownBlock) (ho : w2.ownsRow H 5 1 (.slice (some ⟨g, 0, none⟩) (xs.length + 1) cap) (xs.length + 1) (ucs xs ++ [.int .u8 (y : Int)])) : TxI H w w2 t (some ⟨g, 0, none⟩) cap (xs ++ [y]) := by
  have e2 := own_off h.row h.ki.heap (by decide)
  refine ⟨⟨below_grown h.ki.below hgrow (Nat.le_of_lt h.lt) (fun q hq => (h.row.lt q hq).1), (Fr.ofGrown hgrow).at h.ki.heap (fun hm => e2 _ (Option.mem_toList.1 hm) rfl)⟩, ?_⟩
  rw [List.length_append]
  exact UR.of ho
end
/-- The bytes of a small table. -/
def kBy (t : TabN) : List Nat := [t.S, t.C] ++ (List.range 256).map t.cl ++ (List.range t.S).map (fun q => (t.gr q).toNat) ++ (List.range t.S).flatMap (fun q => (List.range t.C).map (t.nx q))
theorem kBy_lt {t : TabN} (h : KOk t) : ∀ x ∈ kBy t, x < 256 := fun x hx => by
  have h1 := h.s4
  have h2 := h.c3
  unfold kBy at hx
  rcases List.mem_append.1 hx with hx | hx
  · rcases List.mem_append.1 hx with hx | hx
    · rcases List.mem_append.1 hx with hx | hx
      · simp at hx; omega
      · obtain ⟨b, hb, rfl⟩ := List.mem_map.1 hx
        have := h.ok.cl b (List.mem_range.1 hb); omega
    · obtain ⟨b, _, rfl⟩ := List.mem_map.1 hx
      cases t.gr b <;> decide
  · obtain ⟨q, hq, hx⟩ := List.mem_flatMap.1 hx
    obtain ⟨c, hc, rfl⟩ := List.mem_map.1 hx
    have := h.ok.nx q c (List.mem_range.1 hq) (List.mem_range.1 hc); omega
theorem kflat_snoc {α : Type} (g : Nat → List α) (k : Nat) : (List.range (k + 1)).flatMap g = (List.range k).flatMap g ++ g k := by rw [List.range_succ, List.flatMap_append]; simp
theorem kflat_len (C : Nat) (nc : Nat → Nat → Nat) : ∀ k, ((List.range k).flatMap (fun i => (List.range C).map (nc i))).length = k * C
  | 0 => by simp
  | k + 1 => by rw [kflat_snoc, List.length_append, kflat_len C nc k]; simp [Nat.add_mul]

section
attribute [local go_sem ↓] Go.wp_at_zero Go.wp_at_succ
attribute [local go_sem] aggcells
set_option maxRecDepth 20000 in
set_option maxHeartbeats 4000000 in
theorem ktext_any (w : World) (t : TabN) (hk : KOk t) :
    Calls Try.prog 53 #[.agg (kCells t)] w fun e w' => e = .returned (.string (mkS (kBy t))) ∧ Below w.heap.size w w' := by
  have HKO := hide hk
  have hk0 : KI w.heap.size w (w.alloc (.cells (kCells t) 46)) t.S t.C t.cl t.gr (fun j => t.nx (j / 3) (j % 3)) := ⟨(Below.refl _ _).alloc (Nat.le_refl _) _, heap_alloc_new _ _⟩
  have c0 := hk0.c0
  have c1 := hk0.c1
  have h4 := hk.s4
  have h3 := hk.c3
  have hs1 := hk.ok.s1
  have hc1 := hk.ok.c1
  have u0 := u8_wrap t.S (by omega)
  have u1 := u8_wrap t.C (by omega)
  have sI : ((t.S : Nat) : Int) ≤ 4 := by omega
  have cI : ((t.C : Nat) : Int) ≤ 3 := by omega
  have HT0 : Hid (TxI w.heap.size w ((w.alloc (.cells (kCells t) 46)).alloc (.cells #[.int .u8 ((t.S : Nat) : Int), .int .u8 ((t.C : Nat) : Int)] 5)) t (some ⟨w.heap.size + 1, 0, none⟩) 2 [t.S, t.C]) := by
    refine ⟨⟨kbelow2 _ _ _, heap_alloc2_old _ _ _⟩, rfl, .inr ⟨_, 2, _, rfl, by omega, heap_alloc2_new _ _ _, Nat.le_refl _, by unfold maxLen; omega, rfl, rfl⟩⟩
  clear hk hk0 h4 h3 hs1 hc1
  generalize hcs : kCells t = cs at *
  clear hcs
  go_enter Try.func53, Try.ntmps53
  go_wp2_with fail
  clear c0 c1 u0 u1
  generalize (w.alloc (.cells cs 46)).alloc (.cells #[.int .u8 ((t.S : Nat) : Int), .int .u8 ((t.C : Nat) : Int)] 5) = w1 at *
  generalize hH : w.heap.size = H at *
  have HHe := hide hH
  clear hH
  go_loopw [3, 4] (fun tv bx wr => ∃ (b : Nat) (xs : List Nat) (ta : Option Addr) (tc : Nat), tv = .slice ta xs.length tc ∧ bx = .int .i64 (b : Int) ∧ Hid (b ≤ 256 ∧ xs = [t.S, t.C] ++ (List.range b).map t.cl ∧ TxI H w wr t ta tc xs)) (fun _ bx _ => lenLeft 256 bx)
  case atStart => exact ⟨0, [t.S, t.C], some ⟨H + 1, 0, none⟩, 2, rfl, rfl, Nat.zero_le _, rfl, unhide HT0⟩
  case round =>
    clear HT0
    rename World => wr
    obtain ⟨b, xs, ta, tc, rfl, rfl, HH⟩ := hrel
    obtain ⟨hb, hxs, hI⟩ := unhide HH
    clear HH
    by_cases hlt : b < 256
    · have hbI : (b : Int) < 256 := by omega
      have hb0 : (0 : Int) ≤ (b : Int) := by omega
      have HLT := hide hlt
      have HXL : Hid (xs.length ≤ 3000000) := by show _ ≤ _; rw [hxs]; simp; omega
      have cc := hI.ki.cc hlt
      have hw := u8_wrap (t.cl b) (by have := (unhide HKO).ok.cl b hlt; have := (unhide HKO).c3; omega)
      have HLTH := hide hI.lt
      have hlH := hI.lt
      have HSN : Hid (xs ++ [t.cl b] = [t.S, t.C] ++ (List.range (b + 1)).map t.cl) := by show _ = _; rw [hxs, map_snoc, List.append_assoc]
      generalize t.cl b = y at *
      have HXA := hide (hI.alloc (Obj.cells #[.int .u8 (y : Int)] 5))
      clear hlt hb hxs hI
      go_wp2_with (at_builtin; refine appU rfl (.tmp 20) (.tmp 26) rfl H _ xs rfl (unhide HXA).row wr.heap.size _ rfl (new_cell rfl) (unhide HXL) (by have := unhide HLTH; simp; omega) (wr.heap.size + 1) (by simp) ?_; intro g5 cap5 w8 ho hgrow hlies hlt5; have HP9 := hide ((unhide HXA).push hgrow ho); clear ho hgrow hlies)
      go_roundw
      case rel => exact ⟨b + 1, xs ++ [y], some ⟨g5, 0, none⟩, cap5, by simp, by go_num, unhide HLT, unhide HSN, unhide HP9⟩
      case measure => have := unhide HLT; simp [lenLeft, intOf]; omega
    · have hbI : ¬ (b : Int) < 256 := by omega
      have hb2 : b = 256 := by omega
      have HX1 : Hid (xs = [t.S, t.C] ++ (List.range 256).map t.cl) := by show _ = _; rw [hxs, hb2]
      have HI1 := hide hI
      clear hlt hb hxs hI hb2
      go_wp2_with fail
      go_loopw [3, 5] (fun tv kx wq => ∃ (k : Nat) (ys : List Nat) (ta : Option Addr) (tc : Nat), tv = .slice ta ys.length tc ∧ kx = .int .i64 (k : Int) ∧ Hid (k ≤ t.S ∧ ys = xs ++ (List.range k).map (fun q => (t.gr q).toNat) ∧ TxI H w wq t ta tc ys)) (fun _ kx _ => lenLeft t.S kx)
      case atStart => exact ⟨0, xs, ta, tc, rfl, rfl, Nat.zero_le _, by simp, unhide HI1⟩
      case round =>
        clear HI1
        rename World => wq
        obtain ⟨k, ys, ta, tc, rfl, rfl, HH⟩ := hrel
        obtain ⟨hk, hys, hI⟩ := unhide HH
        clear HH
        have c0 := hI.ki.c0
        have hlH := hI.lt
        by_cases hlt : k < t.S
        · have hkI : (k : Int) < ((t.S : Nat) : Int) := by omega
          have hk0 : (0 : Int) ≤ (k : Int) := by omega
          have h4 := (unhide HKO).s4
          have hk4 : (k : Int) < 4 := by omega
          have HLT := hide hlt
          have cg := hI.ki.cg (b := k) (by omega)
          have HLTH := hide hI.lt
          have HXL : Hid (ys.length ≤ 3000000) := by show _ ≤ _; rw [hys, unhide HX1]; simp; omega
          have HSN : Hid (ys ++ [(t.gr k).toNat] = xs ++ (List.range (k + 1)).map (fun q => (t.gr q).toNat)) := by show _ = _; rw [hys, map_snoc, List.append_assoc]
          have HXA := hide (fun y : Nat => hI.alloc (Obj.cells #[.int .u8 (y : Int)] 5))
          clear hlt hk hys hI h4
          generalize t.gr k = v at *
          cases v
          · have HXA := hide (unhide HXA 0)
            go_wp2_with (at_builtin; refine appU rfl (.tmp 38) (.tmp 40) rfl H _ ys rfl (unhide HXA).row wq.heap.size _ rfl (new_cell rfl) (unhide HXL) (by have := unhide HLTH; simp; omega) (wq.heap.size + 1) (by simp) ?_; intro g5 cap5 w8 ho hgrow hlies hlt5; have HP9 := hide ((unhide HXA).push hgrow ho); clear ho hgrow hlies)
            go_roundw
            case rel => exact ⟨k + 1, ys ++ [0], some ⟨g5, 0, none⟩, cap5, by simp, by go_num, unhide HLT, unhide HSN, unhide HP9⟩
            case measure => have := unhide HLT; simp [lenLeft, intOf]; omega
          · have HXA := hide (unhide HXA 1)
            go_wp2_with (at_builtin; refine appU rfl (.tmp 38) (.tmp 40) rfl H _ ys rfl (unhide HXA).row wq.heap.size _ rfl (new_cell rfl) (unhide HXL) (by have := unhide HLTH; simp; omega) (wq.heap.size + 1) (by simp) ?_; intro g5 cap5 w8 ho hgrow hlies hlt5; have HP9 := hide ((unhide HXA).push hgrow ho); clear ho hgrow hlies)
            go_roundw
            case rel => exact ⟨k + 1, ys ++ [1], some ⟨g5, 0, none⟩, cap5, by simp, by go_num, unhide HLT, unhide HSN, unhide HP9⟩
            case measure => have := unhide HLT; simp [lenLeft, intOf]; omega
        · have hk2 : k = t.S := by omega
          have hkI : ¬ (k : Int) < ((t.S : Nat) : Int) := by omega
          have HX2 : Hid (ys = xs ++ (List.range t.S).map (fun q => (t.gr q).toNat)) := by show _ = _; rw [hys, hk2]
          have HI2 := hide hI
          clear hlt hk hys hI hk2
          go_wp2_with fail
          clear c0 hlH
          go_loopw [3, 7] (fun tv ix wz => ∃ (i : Nat) (zs : List Nat) (ta : Option Addr) (tc : Nat), tv = .slice ta zs.length tc ∧ ix = .int .i64 (i : Int) ∧ Hid (i ≤ t.S ∧ zs = ys ++ (List.range i).flatMap (fun q => (List.range t.C).map (t.nx q)) ∧ TxI H w wz t ta tc zs)) (fun _ ix _ => lenLeft t.S ix)
          case atStart => exact ⟨0, ys, ta, tc, rfl, rfl, Nat.zero_le _, by simp, unhide HI2⟩
          case round =>
            clear HI2
            rename World => wz
            obtain ⟨i, zs, ta, tc, rfl, rfl, HH⟩ := hrel
            obtain ⟨hi, hzs, hI⟩ := unhide HH
            clear HH
            have c0 := hI.ki.c0
            have hlH := hI.lt
            by_cases hlt : i < t.S
            · have hiI : (i : Int) < ((t.S : Nat) : Int) := by omega
              have hi0 : (0 : Int) ≤ (i : Int) := by omega
              have h4 := (unhide HKO).s4
              have hi4 : (i : Int) < 4 := by omega
              have HLT := hide hlt
              have HZ := hide hzs
              have HI3 := hide hI
              clear hlt hi hzs hI h4
              go_wp2_with fail
              clear c0 hlH
              go_loopw [3, 8] (fun tv cx wy => ∃ (c : Nat) (vs : List Nat) (ta : Option Addr) (tc : Nat), tv = .slice ta vs.length tc ∧ cx = .int .i64 (c : Int) ∧ Hid (c ≤ t.C ∧ vs = zs ++ (List.range c).map (t.nx i) ∧ TxI H w wy t ta tc vs)) (fun _ cx _ => lenLeft t.C cx)
              case atStart => exact ⟨0, zs, ta, tc, rfl, rfl, Nat.zero_le _, by simp, unhide HI3⟩
              case round =>
                clear HI3
                rename World => wy
                obtain ⟨c, vs, ta, tc, rfl, rfl, HH⟩ := hrel
                obtain ⟨hc, hvs, hI⟩ := unhide HH
                clear HH
                have c1 := hI.ki.c1
                have hlH := hI.lt
                by_cases hltc : c < t.C
                · have hcI : (c : Int) < ((t.C : Nat) : Int) := by omega
                  have hc0 : (0 : Int) ≤ (c : Int) := by omega
                  have h3 := (unhide HKO).c3
                  have h4 := (unhide HKO).s4
                  have hi' := unhide HLT
                  have hc3 : (c : Int) < 3 := by omega
                  have HLTC := hide hltc
                  have cn := hI.ki.cn (b := i * 3 + c) (by omega)
                  rw [show (i * 3 + c) / 3 = i by omega, show (i * 3 + c) % 3 = c by omega, ← Nat.add_assoc] at cn
                  have hw := u8_wrap (t.nx i c) (by have := (unhide HKO).ok.nx i c hi' hltc; omega)
                  have HLTH := hide hI.lt
                  have HXL : Hid (vs.length ≤ 3000000) := by
                    show _ ≤ _
                    have hm : i * t.C ≤ 4 * 3 := Nat.mul_le_mul (by omega) h3
                    rw [hvs, List.length_append, unhide HZ, List.length_append, kflat_len, unhide HX2, unhide HX1]
                    simp
                    omega
                  have HSN : Hid (vs ++ [t.nx i c] = zs ++ (List.range (c + 1)).map (t.nx i)) := by show _ = _; rw [hvs, map_snoc, List.append_assoc]
                  generalize t.nx i c = y at *
                  have HXA := hide (hI.alloc (Obj.cells #[.int .u8 (y : Int)] 5))
                  clear hltc hc hvs hI h3 h4 hi'
                  go_wp2_with (at_builtin; refine appU rfl (.tmp 54) (.tmp 62) rfl H _ vs rfl (unhide HXA).row wy.heap.size _ rfl (new_cell rfl) (unhide HXL) (by have := unhide HLTH; simp; omega) (wy.heap.size + 1) (by simp) ?_; intro g5 cap5 w8 ho hgrow hlies hlt5; have HP9 := hide ((unhide HXA).push hgrow ho); clear ho hgrow hlies)
                  go_roundw
                  case rel => exact ⟨c + 1, vs ++ [y], some ⟨g5, 0, none⟩, cap5, by simp, by go_num, unhide HLTC, unhide HSN, unhide HP9⟩
                  case measure => have := unhide HLTC; simp [lenLeft, intOf]; omega
                · have hc2 : c = t.C := by omega
                  have hcI : ¬ (c : Int) < ((t.C : Nat) : Int) := by omega
                  have HR : Hid (vs = ys ++ (List.range (i + 1)).flatMap (fun q => (List.range t.C).map (t.nx q))) := by show _ = _; rw [hvs, hc2, unhide HZ, kflat_snoc, List.append_assoc]
                  have HI4 := hide hI
                  clear hltc hc hvs hI hc2
                  go_wp2_with fail
                  go_roundw
                  case rel => exact ⟨i + 1, vs, ta, tc, rfl, by go_num, unhide HLT, unhide HR, unhide HI4⟩
                  case measure => have := unhide HLT; simp [lenLeft, intOf]; omega
            · have hi2 : i = t.S := by omega
              have hiI : ¬ (i : Int) < ((t.S : Nat) : Int) := by omega
              have hz : zs = kBy t := by rw [hzs, hi2, unhide HX2, unhide HX1]; rfl
              have hpos : 0 < zs.length := by rw [hz]; unfold kBy; simp
              obtain ⟨g0, cap0, he⟩ := own_form (show wz.ownsRow H 5 1 (.slice ta zs.length tc) zs.length _ from hI.row) hpos
              simp only [Value.slice.injEq, true_and] at he
              obtain ⟨rfl, rfl⟩ := he
              have hcv := conv_mk hI.row (by rw [hz]; exact kBy_lt (unhide HKO))
              have HZE := hide hz
              have HB := hide hI.ki.below
              clear hlt hi hzs hI hi2 hz hpos
              go_wp2_with fail
              go_ret
              exact ⟨by rw [← unhide HZE]; rfl, by rw [unhide HHe]; exact unhide HB⟩
end

end Mc
end Go.Proofs.Ytnkdbcicphnmiaa
