/-
  veilkeep.tab: the walk.
-/
import Derived.Test.YtnkdbcicphnmiaaT13
namespace Go.Proofs.Ytnkdbcicphnmiaa
namespace Mc
open Go.RowKit

/-- A small table in the making. -/
structure KI (H1 : Nat) (w1 wr : World) (S C : Nat) (cl : Nat → Nat) (gr : Nat → Bool) (nx : Nat → Nat) : Prop where
  below : Below H1 w1 wr
  heap : wr.heap[H1]? = some (.cells (arr (kV S C cl gr nx)) 46 (0, 0))
section
variable {H1 : Nat} {w1 wr : World} {S C : Nat} {cl : Nat → Nat} {gr : Nat → Bool} {nx : Nat → Nat}
theorem KI.drew (h : KI H1 w1 wr S C cl gr nx) : KI H1 w1 wr.drew S C cl gr nx := ⟨h.below.drew, h.heap⟩
theorem KI.c0 (h : KI H1 w1 wr S C cl gr nx) : wr.cell? ⟨H1, 0, none⟩ = some (.int .i64 (S : Int)) := by rw [cell_of_row _ _ _ _ _ _ h.heap, kV_0]
theorem KI.c1 (h : KI H1 w1 wr S C cl gr nx) : wr.cell? ⟨H1, 1, none⟩ = some (.int .i64 (C : Int)) := by rw [cell_of_row _ _ _ _ _ _ h.heap, kV_1]
theorem KI.cc (h : KI H1 w1 wr S C cl gr nx) {b : Nat} (hb : b < 256) : wr.cell? ⟨H1, 2 + b, none⟩ = some (.int .i64 ((cl b : Nat) : Int)) := by rw [cell_of_row _ _ _ _ _ _ h.heap, kV_cl hb]
theorem KI.cg (h : KI H1 w1 wr S C cl gr nx) {b : Nat} (hb : b < 4) : wr.cell? ⟨H1, 258 + b, none⟩ = some (.bool (gr b)) := by rw [cell_of_row _ _ _ _ _ _ h.heap, kV_gr hb]
theorem KI.cn (h : KI H1 w1 wr S C cl gr nx) {b : Nat} (hb : b < 12) : wr.cell? ⟨H1, 262 + b, none⟩ = some (.int .i64 ((nx b : Nat) : Int)) := by rw [cell_of_row _ _ _ _ _ _ h.heap, kV_nx hb]
theorem KI.fz (h : KI H1 w1 wr S C cl gr nx) (k : Nat) : wr.frozen? ⟨H1, k, none⟩ = false := frozen_of_row _ _ _ _ _ h.heap
theorem KI.s0 (h : KI H1 w1 wr S C cl gr nx) (x : Nat) : KI H1 w1 (wr.setCell ⟨H1, 0, none⟩ (.int .i64 (x : Int))) x C cl gr nx := ⟨below_set h.below (Nat.le_refl _), by rw [heap_setCell_same _ _ _ _ _ _ h.heap, kV_set0]⟩
theorem KI.s1 (h : KI H1 w1 wr S C cl gr nx) (x : Nat) : KI H1 w1 (wr.setCell ⟨H1, 1, none⟩ (.int .i64 (x : Int))) S x cl gr nx := ⟨below_set h.below (Nat.le_refl _), by rw [heap_setCell_same _ _ _ _ _ _ h.heap, kV_set1]⟩
theorem KI.sc (h : KI H1 w1 wr S C cl gr nx) {b : Nat} (hb : b < 256) (x : Nat) : KI H1 w1 (wr.setCell ⟨H1, 2 + b, none⟩ (.int .i64 ((x : Nat) : Int))) S C (fun c => if c = b then x else cl c) gr nx := ⟨below_set h.below (Nat.le_refl _), by rw [heap_setCell_same _ _ _ _ _ _ h.heap, kV_setC hb]⟩
theorem KI.sg (h : KI H1 w1 wr S C cl gr nx) {b : Nat} (hb : b < 4) (x : Bool) : KI H1 w1 (wr.setCell ⟨H1, 258 + b, none⟩ (.bool x)) S C cl (fun c => if c = b then x else gr c) nx := ⟨below_set h.below (Nat.le_refl _), by rw [heap_setCell_same _ _ _ _ _ _ h.heap, kV_setG hb]⟩
theorem KI.sn (h : KI H1 w1 wr S C cl gr nx) {b : Nat} (hb : b < 12) (x : Nat) : KI H1 w1 (wr.setCell ⟨H1, 262 + b, none⟩ (.int .i64 ((x : Nat) : Int))) S C cl gr (fun c => if c = b then x else nx c) := ⟨below_set h.below (Nat.le_refl _), by rw [heap_setCell_same _ _ _ _ _ _ h.heap, kV_setN hb]⟩
theorem KI.congr (h : KI H1 w1 wr S C cl gr nx) {cl' : Nat → Nat} {gr' : Nat → Bool} {nx' : Nat → Nat} (h1 : ∀ b, b < 256 → cl b = cl' b) (h2 : ∀ b, b < 4 → gr b = gr' b) (h3 : ∀ b, b < 12 → nx b = nx' b) : KI H1 w1 wr S C cl' gr' nx' := ⟨h.below, by rw [← kV_congr h1 h2 h3]; exact h.heap⟩
end
theorem upto_set {α : Type} (g : Nat → α) (d : α) (b : Nat) : ∀ c, (if c = b then g b else if c < b then g c else d) = if c < b + 1 then g c else d := fun c => by
  by_cases e : c = b
  · subst e; rw [if_pos rfl, if_pos (by omega)]
  · rw [if_neg e]
    by_cases e2 : c < b
    · rw [if_pos e2, if_pos (by omega)]
    · rw [if_neg e2, if_neg (by omega)]

section
attribute [local go_sem ↓] Go.wp_at_zero Go.wp_at_succ zvK
attribute [local go_sem] zcK_size zcK_ne aggcells
set_option maxRecDepth 20000 in
set_option maxHeartbeats 4000000 in
theorem ktab_any (w : World) (raw : ByteArray) (f : Nat) (hr : raw.size ≤ 9223372036854775807) (hf : f ≤ 100) :
    Calls Try.prog 50 #[.string raw, .int .i64 (f : Int)] w fun e w' => e = .returned (.agg (kCells (kT raw f))) ∧ Below w.heap.size w w' := by
  have HAT := hide (fun W i hi => kat_any W raw i hr hi)
  have hfI : (f : Int) ≤ 100 := by omega
  have HF := hide hf
  have HS : Hid (1 + atR raw f % 4 = kS raw f) := rfl
  have HC : Hid (1 + atR raw (f + 1) % 3 = kCl raw f) := rfl
  have e1 : (f : Int) + 1 = ((f + 1 : Nat) : Int) := by omega
  have w1 := wrap_i64 (f + 1) (by omega)
  have HA0 := hide (unhide HAT ((w.alloc (.cells zcK 46)).alloc (.cells zcK 46)) f (by omega))
  have HA1 := hide (unhide HAT ((w.alloc (.cells zcK 46)).alloc (.cells zcK 46)) (f + 1) (by omega))
  have a0 := atR_lt raw f
  have a1 := atR_lt raw (f + 1)
  have e4 : ((atR raw f : Nat) : Int) % 4 = ((atR raw f % 4 : Nat) : Int) := by omega
  have e5 : (1 : Int) + ((atR raw f % 4 : Nat) : Int) = ((1 + atR raw f % 4 : Nat) : Int) := by omega
  have e6 : ((atR raw (f + 1) : Nat) : Int) % 3 = ((atR raw (f + 1) % 3 : Nat) : Int) := by omega
  have e7 : (1 : Int) + ((atR raw (f + 1) % 3 : Nat) : Int) = ((1 + atR raw (f + 1) % 3 : Nat) : Int) := by omega
  have w5 := wrap_i64 (1 + atR raw f % 4) (by omega)
  have w7 := wrap_i64 (1 + atR raw (f + 1) % 3) (by omega)
  have a0I : ((atR raw f : Nat) : Int) < 256 := by omega
  have a1I : ((atR raw (f + 1) : Nat) : Int) < 256 := by omega
  rw [unhide HS] at e5 w5
  rw [unhide HC] at e7 w7
  have hSl := kS_le raw f
  have hCl := kCl_le raw f
  have HSL := hide hSl
  have HCL := hide hCl
  have HR1 : Hid ((w.alloc (.cells zcK 46)).heap[w.heap.size]? = some (.cells zcK 46 (0, 0))) := heap_alloc_new _ _
  have HB1 : Hid (Below w.heap.size w (w.alloc (.cells zcK 46))) := (Below.refl _ _).alloc (Nat.le_refl _) _
  have hK : KI (w.heap.size + 1) (w.alloc (.cells zcK 46)) ((w.alloc (.cells zcK 46)).alloc (.cells zcK 46)) 0 0 (fun _ => 0) (fun _ => false) (fun _ => 0) := by
    refine ⟨?_, heap_alloc2_new w _ _⟩
    have h : Below (w.alloc (.cells zcK 46)).heap.size _ _ := (Below.refl _ (w.alloc (.cells zcK 46))).alloc (Nat.le_refl _) (.cells zcK 46)
    simpa using h
  have c0 := hK.c0
  have c1 := hK.c1
  have f0 := hK.fz 0
  have f1 := hK.fz 1
  have HK2 := hide ((hK.s0 (kS raw f)).s1 (kCl raw f))
  clear hK hr hf HS HC a0 a1
  generalize hS : kS raw f = S at *
  generalize hC : kCl raw f = C at *
  generalize hx0 : atR raw f = x0 at *
  generalize hx1 : atR raw (f + 1) = x1 at *
  clear hx0 hx1
  generalize f + 1 = ff1 at *
  generalize x0 % 4 = y0 at *
  generalize x1 % 3 = y1 at *
  have HSe := hide hS
  have HCe := hide hC
  clear hS hC hSl hCl
  go_enter Try.func50, Try.ntmps50
  go_wp2_with fail
  generalize (w.alloc (.cells zcK 46)).alloc (.cells zcK 46) = w2 at *
  generalize w.alloc (.cells zcK 46) = W1 at *
  generalize hH1 : w.heap.size + 1 = H1 at *
  have HH1 := hide hH1
  clear hH1
  refine (unhide HA0).mono ?_
  rintro e w' ⟨rfl, hww⟩
  obtain rfl : w2 = w' := hww.symm
  clear hww HA0
  go_wp2_with fail
  refine (unhide HA1).mono ?_
  rintro e w' ⟨rfl, hww⟩
  obtain rfl : w2 = w' := hww.symm
  clear hww HA1
  go_wp2_with fail
  have hC0 : ¬ (C : Int) = 0 := by have := unhide HCL; omega
  have hC0b : ((C : Int) == 0) = false := beq_eq_false_iff_ne.2 hC0
  have hCI : (C : Int) ≤ 3 := by have := unhide HCL; omega
  have hC1 : (1 : Int) ≤ (C : Int) := by have := unhide HCL; omega
  have hS0 : ¬ (S : Int) = 0 := by have := unhide HSL; omega
  have hS0b : ((S : Int) == 0) = false := beq_eq_false_iff_ne.2 hS0
  have hSI : (S : Int) ≤ 4 := by have := unhide HSL; omega
  have hS1 : (1 : Int) ≤ (S : Int) := by have := unhide HSL; omega
  clear c0 c1 f0 f1 e1 w1 e4 e5 e6 e7 w5 w7 a0I a1I
  generalize (w2.setCell ⟨H1, 0, none⟩ (.int .i64 (S : Int))).setCell ⟨H1, 1, none⟩ (.int .i64 (C : Int)) = w3 at *
  go_loopw [8] (fun bx wr => ∃ b : Nat, bx = .int .i64 (b : Int) ∧ Hid (b ≤ 256 ∧ KI H1 W1 wr S C (fun c => if c < b then (kT raw f).cl c else 0) (fun _ => false) (fun _ => 0))) (fun bx _ => lenLeft 256 bx)
  case atStart => exact ⟨0, rfl, Nat.zero_le _, unhide HK2⟩
  case round =>
    clear HK2
    rename World => wr
    obtain ⟨b, rfl, HH⟩ := hrel
    obtain ⟨hb, hK⟩ := unhide HH
    clear HH
    by_cases hlt : b < 256
    · have hltI : (b : Int) < 256 := by omega
      have HLT := hide hlt
      have g1 : (f : Int) + 2 = ((f + 2 : Nat) : Int) := by omega
      have g2 : (b : Int) / 16 = ((b / 16 : Nat) : Int) := by omega
      have g3 : ((f + 2 : Nat) : Int) + ((b / 16 : Nat) : Int) = ((f + 2 + b / 16 : Nat) : Int) := by omega
      have g4 : (b : Int) % 3 = ((b % 3 : Nat) : Int) := by omega
      have g5 : ((f + 2 + b / 16 : Nat) : Int) + ((b % 3 : Nat) : Int) = ((f + 2 + b / 16 + b % 3 : Nat) : Int) := by omega
      have v1 := wrap_i64 (f + 2) (by have := unhide HF; omega)
      have v2 := wrap_i64 (b / 16) (by omega)
      have v3 := wrap_i64 (f + 2 + b / 16) (by have := unhide HF; omega)
      have v5 := wrap_i64 (f + 2 + b / 16 + b % 3) (by have := unhide HF; omega)
      have HA := hide (unhide HAT wr (f + 2 + b / 16 + b % 3) (by have := unhide HF; omega))
      have hx := atR_lt raw (f + 2 + b / 16 + b % 3)
      have hxI : ((atR raw (f + 2 + b / 16 + b % 3) : Nat) : Int) < 256 := by omega
      have g6 : ((atR raw (f + 2 + b / 16 + b % 3) : Nat) : Int) % (C : Int) = ((atR raw (f + 2 + b / 16 + b % 3) % C : Nat) : Int) := by rw [Int.natCast_emod]
      have g7 : ((atR raw (f + 2 + b / 16 + b % 3) : Nat) : Int).tmod (C : Int) = ((atR raw (f + 2 + b / 16 + b % 3) % C : Nat) : Int) := by rw [Int.tmod_eq_emod_of_nonneg (by omega), g6]
      have hcl : (kT raw f).cl b = atR raw (f + 2 + b / 16 + b % 3) % C := by rw [← unhide HCe]; rfl
      have c1 := hK.c1
      have cc := hK.cc hlt
      have fz := hK.fz (2 + b)
      have v6 := wrap_i64 (atR raw (f + 2 + b / 16 + b % 3) % C) (by have := Nat.mod_le (atR raw (f + 2 + b / 16 + b % 3)) C; omega)
      have HN : Hid (KI H1 W1 (wr.setCell ⟨H1, 2 + b, none⟩ (.int .i64 ((atR raw (f + 2 + b / 16 + b % 3) % C : Nat) : Int))) S C (fun c => if c < b + 1 then (kT raw f).cl c else 0) (fun _ => false) (fun _ => 0)) := (hK.sc hlt _).congr (fun c _ => by rw [← hcl]; exact upto_set (kT raw f).cl 0 b c) (fun _ _ => rfl) (fun _ _ => rfl)
      rw [if_neg (Nat.lt_irrefl _)] at cc
      clear hb hK hlt hx hcl
      generalize atR raw (f + 2 + b / 16 + b % 3) % C = y at *
      generalize atR raw (f + 2 + b / 16 + b % 3) = x at *
      generalize f + 2 + b / 16 + b % 3 = i5 at *
      generalize f + 2 + b / 16 = i3 at *
      generalize f + 2 = i1 at *
      generalize b / 16 = i2 at *
      generalize b % 3 = i4 at *
      go_wp2_with fail
      refine (unhide HA).mono ?_
      rintro e w' ⟨rfl, hww⟩
      obtain rfl : wr = w' := hww.symm
      clear hww HA
      go_wp2_with fail
      go_roundw
      case rel => exact ⟨b + 1, by go_num, unhide HLT, unhide HN⟩
      case measure => have := unhide HLT; simp [lenLeft, intOf]; omega
    · have hltI : ¬ (b : Int) < 256 := by omega
      have HK3 : Hid (KI H1 W1 wr S C (kT raw f).cl (fun _ => false) (fun _ => 0)) := hK.congr (fun c hc => by rw [if_pos (by omega)]) (fun _ _ => rfl) (fun _ _ => rfl)
      clear hb hK hlt
      go_wp2_with fail
      go_loopw [10] (fun ix wq => ∃ i : Nat, ix = .int .i64 (i : Int) ∧ Hid (i ≤ 4 ∧ KI H1 W1 wq S C (kT raw f).cl (fun c => if c < i then (kT raw f).gr c else false) (fun c => if c < 3 * i then (kT raw f).nx (c / 3) (c % 3) else 0))) (fun ix _ => lenLeft 4 ix)
      case atStart => exact ⟨0, rfl, Nat.zero_le _, unhide HK3⟩
      case round =>
        clear HK3
        rename World => wq
        obtain ⟨i, rfl, HH⟩ := hrel
        obtain ⟨hi, hK⟩ := unhide HH
        clear HH
        by_cases hlt : i < 4
        · have hltI4 : (i : Int) < 4 := by omega
          have HLT := hide hlt
          have g1 : (f : Int) + 3 = ((f + 3 : Nat) : Int) := by omega
          have g2 : ((f + 3 : Nat) : Int) + (i : Int) = ((f + 3 + i : Nat) : Int) := by omega
          have v1 := wrap_i64 (f + 3) (by have := unhide HF; omega)
          have v2 := wrap_i64 (f + 3 + i) (by have := unhide HF; omega)
          have HA := hide (unhide HAT wq (f + 3 + i) (by have := unhide HF; omega))
          have hx := atR_lt raw (f + 3 + i)
          have hxI : ((atR raw (f + 3 + i) : Nat) : Int) < 256 := by omega
          have g3 : ((atR raw (f + 3 + i) : Nat) : Int) / 4 = ((atR raw (f + 3 + i) / 4 : Nat) : Int) := by omega
          have g4 : ((atR raw (f + 3 + i) / 4 : Nat) : Int) % 2 = ((atR raw (f + 3 + i) / 4 % 2 : Nat) : Int) := by omega
          have hgr : (kT raw f).gr i = (((atR raw (f + 3 + i) / 4 % 2 : Nat) : Int) == 1) := rfl
          have cg := hK.cg hlt
          have fz := hK.fz (258 + i)
          have HN : Hid (KI H1 W1 (wq.setCell ⟨H1, 258 + i, none⟩ (.bool (((atR raw (f + 3 + i) / 4 % 2 : Nat) : Int) == 1))) S C (kT raw f).cl (fun c => if c < i + 1 then (kT raw f).gr c else false) (fun c => if c < 3 * i + 0 then (kT raw f).nx (c / 3) (c % 3) else 0)) := (hK.sg hlt _).congr (fun _ _ => rfl) (fun c _ => by rw [← hgr]; exact upto_set (kT raw f).gr false i c) (fun _ _ => rfl)
          rw [if_neg (Nat.lt_irrefl _)] at cg
          clear hi hK hlt hx hgr
          generalize ((atR raw (f + 3 + i) / 4 % 2 : Nat) : Int) = y at *
          generalize atR raw (f + 3 + i) / 4 = x4 at *
          generalize atR raw (f + 3 + i) = x at *
          generalize f + 3 + i = i2 at *
          generalize f + 3 = i1 at *
          go_wp2_with fail
          refine (unhide HA).mono ?_
          rintro e w' ⟨rfl, hww⟩
          obtain rfl : wq = w' := hww.symm
          clear hww HA
          go_wp2_with fail
          generalize wq.setCell ⟨H1, 258 + i, none⟩ (.bool (y == 1)) = w4 at *
          clear cg fz g1 g2 g3 g4 v1 v2 hxI
          go_loopw [12] (fun kx wz => ∃ k : Nat, kx = .int .i64 (k : Int) ∧ Hid (k ≤ 3 ∧ KI H1 W1 wz S C (kT raw f).cl (fun c => if c < i + 1 then (kT raw f).gr c else false) (fun c => if c < 3 * i + k then (kT raw f).nx (c / 3) (c % 3) else 0))) (fun kx _ => lenLeft 3 kx)
          case atStart => exact ⟨0, rfl, Nat.zero_le _, unhide HN⟩
          case round =>
            clear HN
            rename World => wz
            obtain ⟨k, rfl, HH⟩ := hrel
            obtain ⟨hk, hK⟩ := unhide HH
            clear HH
            by_cases hltk : k < 3
            · have hltkI : (k : Int) < 3 := by omega
              have HLTK := hide hltk
              have hi4 := unhide HLT
              have g1 : (f : Int) + 4 = ((f + 4 : Nat) : Int) := by omega
              have g2 : (3 : Int) * (i : Int) = ((3 * i : Nat) : Int) := by omega
              have g3 : ((f + 4 : Nat) : Int) + ((3 * i : Nat) : Int) = ((f + 4 + 3 * i : Nat) : Int) := by omega
              have g4 : ((f + 4 + 3 * i : Nat) : Int) + (k : Int) = ((f + 4 + 3 * i + k : Nat) : Int) := by omega
              have v1 := wrap_i64 (f + 4) (by have := unhide HF; omega)
              have v2 := wrap_i64 (3 * i) (by omega)
              have v3 := wrap_i64 (f + 4 + 3 * i) (by have := unhide HF; omega)
              have v4 := wrap_i64 (f + 4 + 3 * i + k) (by have := unhide HF; omega)
              have HA := hide (unhide HAT wz (f + 4 + 3 * i + k) (by have := unhide HF; omega))
              have hx := atR_lt raw (f + 4 + 3 * i + k)
              have hxI : ((atR raw (f + 4 + 3 * i + k) : Nat) : Int) < 256 := by omega
              have g5 : ((atR raw (f + 4 + 3 * i + k) : Nat) : Int) / 3 = ((atR raw (f + 4 + 3 * i + k) / 3 : Nat) : Int) := by omega
              have g6 : ((atR raw (f + 4 + 3 * i + k) / 3 : Nat) : Int) % (S : Int) = ((atR raw (f + 4 + 3 * i + k) / 3 % S : Nat) : Int) := by rw [Int.natCast_emod]
              have g7 : ((atR raw (f + 4 + 3 * i + k) / 3 : Nat) : Int).tmod (S : Int) = ((atR raw (f + 4 + 3 * i + k) / 3 % S : Nat) : Int) := by rw [Int.tmod_eq_emod_of_nonneg (by omega), g6]
              have v5 := wrap_i64 (atR raw (f + 4 + 3 * i + k) / 3) (by omega)
              have v6 := wrap_i64 (atR raw (f + 4 + 3 * i + k) / 3 % S) (by have := Nat.mod_le (atR raw (f + 4 + 3 * i + k) / 3) S; omega)
              have hnx : (kT raw f).nx ((i * 3 + k) / 3) ((i * 3 + k) % 3) = atR raw (f + 4 + 3 * i + k) / 3 % S := by
                rw [show (i * 3 + k) / 3 = i by omega, show (i * 3 + k) % 3 = k by omega, ← unhide HSe]; rfl
              have c0 := hK.c0
              have cn := hK.cn (b := i * 3 + k) (by omega)
              have fz := hK.fz (262 + i * 3 + k)
              have HN : Hid (KI H1 W1 (wz.drew.setCell ⟨H1, 262 + i * 3 + k, none⟩ (.int .i64 ((atR raw (f + 4 + 3 * i + k) / 3 % S : Nat) : Int))) S C (kT raw f).cl (fun c => if c < i + 1 then (kT raw f).gr c else false) (fun c => if c < 3 * i + (k + 1) then (kT raw f).nx (c / 3) (c % 3) else 0)) := by
                have := (hK.drew.sn (b := i * 3 + k) (by omega) (atR raw (f + 4 + 3 * i + k) / 3 % S))
                rw [← Nat.add_assoc] at this
                refine this.congr (fun _ _ => rfl) (fun _ _ => rfl) (fun c _ => ?_)
                have h := upto_set (fun c => (kT raw f).nx (c / 3) (c % 3)) 0 (i * 3 + k) c
                rw [← hnx, Nat.mul_comm 3 i]
                exact h
              rw [← Nat.add_assoc, if_neg (by omega)] at cn
              clear hk hK hltk hx hnx
              generalize atR raw (f + 4 + 3 * i + k) / 3 % S = y3 at *
              generalize atR raw (f + 4 + 3 * i + k) / 3 = x3 at *
              generalize atR raw (f + 4 + 3 * i + k) = x' at *
              generalize f + 4 + 3 * i + k = j4 at *
              generalize f + 4 + 3 * i = j3 at *
              generalize f + 4 = j1 at *
              generalize 3 * i = j2 at *
              go_wp2_with fail
              refine (unhide HA).mono ?_
              rintro e w' ⟨rfl, hww⟩
              obtain rfl : wz = w' := hww.symm
              clear hww HA
              go_wp2_with fail
              go_region
              all_goals
                go_wp2_with fail
                go_roundw
                case rel => exact ⟨k + 1, by go_num, unhide HLTK, unhide HN⟩
                case measure => have := unhide HLTK; simp [lenLeft, intOf]; omega
            · have hltkI : ¬ (k : Int) < 3 := by omega
              have HNR : Hid (KI H1 W1 wz S C (kT raw f).cl (fun c => if c < i + 1 then (kT raw f).gr c else false) (fun c => if c < 3 * (i + 1) then (kT raw f).nx (c / 3) (c % 3) else 0)) := by
                have e : 3 * i + k = 3 * (i + 1) := by omega
                rw [e] at hK; exact hK
              clear hk hK hltk
              go_wp2_with fail
              go_roundw
              case rel => exact ⟨i + 1, by go_num, unhide HLT, unhide HNR⟩
              case measure => have := unhide HLT; simp [lenLeft, intOf]; omega
        · have hltI4 : ¬ (i : Int) < 4 := by omega
          have hKF : KI H1 W1 wq S C (kT raw f).cl (kT raw f).gr (fun j => (kT raw f).nx (j / 3) (j % 3)) := hK.congr (fun _ _ => rfl) (fun c hc => by rw [if_pos (by omega)]) (fun c hc => by rw [if_pos (by omega)])
          have HRQ : Hid (wq.heap[w.heap.size]? = some (.cells zcK 46 (0, 0))) := (hKF.below.block _ (by have := unhide HH1; omega)).trans (unhide HR1)
          have HBQ : Hid (Below w.heap.size w wq) := (unhide HB1).trans (hKF.below.mono (by have := unhide HH1; omega))
          have HKF := hide hKF.heap
          have HEQ : Hid (arr (kV S C (kT raw f).cl (kT raw f).gr (fun j => (kT raw f).nx (j / 3) (j % 3))) = kCells (kT raw f)) := by show _ = _; rw [← unhide HSe, ← unhide HCe]; rfl
          have HON := hide (kV_one S C (kT raw f).cl (kT raw f).gr (fun j => (kT raw f).nx (j / 3) (j % 3)))
          have HSZ := hide (arr_size (kV S C (kT raw f).cl (kT raw f).gr (fun j => (kT raw f).nx (j / 3) (j % 3))))
          clear hi hK hlt hKF
          generalize arr (kV S C (kT raw f).cl (kT raw f).gr (fun j => (kT raw f).nx (j / 3) (j % 3))) = cs at *
          go_wp2_with (first
            | refine wpList_load_row rfl 46 _ rfl H1 rfl 46 _ (0, 0) _ (unhide HKF) Try.underlying46 rfl (by rw [unhide HSZ]; exact infoK) ?_
            | refine store_row rfl 46 _ _ rfl rfl w.heap.size _ rfl rfl 46 _ (unhide HRQ) (by rw [unhide HSZ]; exact infoK) (by rw [unhide HSZ, zcK_size]) (unhide HON) ?_)
          refine bodyPost_ret (results_cell_row (p := 4) (ty := 46) rfl _ _ w.heap.size 46 _ (0, 0) _ rfl (setRow_heap _ _ _ _ _ _ (unhide HRQ)) Try.underlying46 rfl (by rw [unhide HSZ]; exact infoK)) rfl ?_
          exact ⟨by rw [unhide HEQ], (Fr.ofRow _ w.heap.size _).belowOf (unhide HBQ) (unhide HBQ).size (Nat.le_refl _)⟩
end

end Mc
end Go.Proofs.Ytnkdbcicphnmiaa
