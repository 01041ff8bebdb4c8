/-
  The document's answer: does a set of terms let a string by?
  The document's answer: alike bytes.
-/
import Derived.Test.YtfooclcjehpcfaaGreatX4
import Derived.Test.YtfooclcjehpcfaaGreatX7
import Derived.Test.YtfooclcjehpcfaaGreatZ1
namespace Go.Proofs.YtfooclcjehpcfaaGreat
open Go.RowKit
attribute [local go_sem ↓] Go.wp_at_zero Go.wp_at_succ

/-- A tree, and the terms that can be left. -/
structure TrC (rs0 : List Rn) (U : List (List Nm)) : Prop where
  phi : phiR rs0 ≤ 121
  wf : WfT rs0
  cl : Closed rs0 U
  l13 : U.length ≤ 13
  uz : ∀ u ∈ U, u.length ≤ 200
section
variable {rs0 : List Rn} {U : List (List Nm)} {b c : Nat} {w wr w2 : World} {rs rs1 rs2 : List Rn} {v v' : Value} {X Y : List ByteArray} {A : Lang}
theorem on_j (h : TrC rs0 U) (hc : c < 256) (w : World) (rs : List Rn) (hb : RtS w b rs) (hg : GrowT rs0 rs) (B : Nat) (v : Value) (X : List ByteArray) (hr : SRow w B v X) (hX : VSet rs0 rs U X) :
    Calls Tryz.prog 23 #[.pointer (some ⟨b, 0, none⟩), v, .int .i64 (c : Int)] w fun e w' => ∃ v' Y rs', e = .returned v' ∧ OnJ rs0 U b w rs w' v' Y rs' (derL c (stB rs X)) :=
  on_any h.phi h.cl h.l13 h.uz hc (fun _ _ w hb hg hn => left_num h.phi h.wf hc w hb hg hn) w rs hb hg B v X hr hX
theorem on_c (h : TrC rs0 U) (hc : c < 256) (w : World) (rs : List Rn) (hb : RtS w b rs) (hg : GrowT rs0 rs) (B : Nat) (v : Value) (X : List ByteArray) (hr : SRow w B v X) (hX : VSet rs0 rs U X) :
    Calls Tryz.prog 23 #[.pointer (some ⟨b, 0, none⟩), v, .int .i64 (c : Int)] w fun e w' => ∃ v' Y rs', e = .returned v' ∧ OnI rs0 U b w rs w' v' Y rs' (derL c (stB rs X)) :=
  (on_j h hc w rs hb hg B v X hr hX).mono fun e w1 h1 => by
    obtain ⟨v', Y, rs', h2, h3⟩ := h1
    exact ⟨v', Y, rs', h2, h3.toOnI⟩
theorem VSet.sz (hX : VSet rs0 rs U X) (h : TrC rs0 U) : ∀ s ∈ X, s.size ≤ 200 := fun s hs => by
  have := h.uz _ (hX.inu s hs).2
  unfold nmS at this
  rwa [List.length_map, bytesN_len] at this
theorem GrowT.few (hg : GrowT rs0 rs) (h : TrC rs0 U) : rs.length ≤ 121 := by have := hg.small; have := h.phi; omega
theorem ends_c (h : TrC rs0 U) (w : World) (rs : List Rn) (hb : RtS w b rs) (hg : GrowT rs0 rs) (B : Nat) (v : Value) (X : List ByteArray) (hr : SRow w B v X) (hX : VSet rs0 rs U X) :
    Calls Tryz.prog 14 #[.pointer (some ⟨b, 0, none⟩), v] w fun e w' => (∃ y, e = .returned (.bool y) ∧ (y = true ↔ stB rs X [])) ∧ Below w.heap.size w w' :=
  ends_any w b rs hb (by have := hg.few h; omega) B v X hr (by have := hX.len hg; have := h.l13; omega) (fun s hs k hk => (hX.num s hs k hk).nd hg) (fun s hs => by have := hX.sz h s hs; omega)
theorem OnI.trans {A' : Lang} (h : OnI rs0 U b w rs wr v X rs1 A) (k : OnI rs0 U b wr rs1 w2 v' Y rs2 A') : OnI rs0 U b w rs w2 v' Y rs2 A' := ⟨h.fy.trans k.fy, k.rt, k.gr, grow_trans h.ex k.ex, k.row, k.vs, k.eq⟩
theorem OnI.to {A' : Lang} (h : OnI rs0 U b w rs wr v X rs1 A) (e : A = A') : OnI rs0 U b w rs wr v X rs1 A' := ⟨h.fy, h.rt, h.gr, h.ex, h.row, h.vs, by rw [← e]; exact h.eq⟩
theorem OnI.start (hb : RtS w b rs) (hg : GrowT rs0 rs) {B : Nat} (hr : SRow w B v X) (hX : VSet rs0 rs U X) : OnI rs0 U b w rs w v X rs (stB rs X) := ⟨Fy.refl _ _, hb, hg, ⟨[], by simp⟩, hr.zero, hX, rfl⟩
end
/-- What a call leaves while the tree grows. -/
structure TrK (rs0 : List Rn) (b : Nat) (w : World) (rs : List Rn) (w' : World) (rs' : List Rn) : Prop where
  fy : Fy b w w'
  rt : RtS w' b rs'
  gr : GrowT rs0 rs'
  ex : ∃ x, rs' = rs ++ x
section
variable {rs0 : List Rn} {U : List (List Nm)} {b : Nat} {w wr w2 : World} {rs rs1 rs2 : List Rn} {v : Value} {X : List ByteArray} {A : Lang}
theorem TrK.refl (hb : RtS w b rs) (hg : GrowT rs0 rs) : TrK rs0 b w rs w rs := ⟨Fy.refl _ _, hb, hg, ⟨[], by simp⟩⟩
theorem TrK.trans (h : TrK rs0 b w rs wr rs1) (k : TrK rs0 b wr rs1 w2 rs2) : TrK rs0 b w rs w2 rs2 := ⟨h.fy.trans k.fy, k.rt, k.gr, grow_trans h.ex k.ex⟩
theorem TrK.below (h : TrK rs0 b w rs wr rs1) (k : Below wr.heap.size wr w2) : TrK rs0 b w rs w2 rs1 := ⟨h.fy.trans (Fy.ofBelow k (RtS_lt h.rt)), RtS_below h.rt k, h.gr, h.ex⟩
theorem OnI.trk (h : OnI rs0 U b w rs wr v X rs1 A) : TrK rs0 b w rs wr rs1 := ⟨h.fy, h.rt, h.gr, h.ex⟩
theorem TrK.set (k : TrK rs0 b w rs wr rs1) (hg : GrowT rs0 rs) (hX : VSet rs0 rs U X) : VSet rs0 rs1 U X ∧ stB rs1 X = stB rs X := by
  obtain ⟨x, hx⟩ := k.ex
  rw [hx]
  exact ⟨hX.grow x, stB_app hg hX x⟩
end
set_option maxRecDepth 20000 in
set_option maxHeartbeats 2000000 in
theorem lets_any {rs0 : List Rn} {U : List (List Nm)} (hT : TrC rs0 U) {b : Nat} (w : World) (rs : List Rn) (hb : RtS w b rs) (hg : GrowT rs0 rs) (B : Nat) (v : Value) (X : List ByteArray) (hr : SRow w B v X) (hX : VSet rs0 rs U X) (s : ByteArray) (hs : s.size ≤ 9223372036854775807) :
    Calls Tryz.prog 76 #[.pointer (some ⟨b, 0, none⟩), v, .string s] w fun e w' => ∃ y rs', e = .returned (.bool y) ∧ (y = true ↔ derS (bytesN s) (stB rs X) []) ∧ TrK rs0 b w rs w' rs' := by
  obtain ⟨xa, xc, rfl⟩ := hr.form
  have hsI : (s.size : Int) ≤ 9223372036854775807 := by omega
  have HT := hide hT
  have H0 := hide (OnI.start hb hg hr hX)
  clear hT hb hg hr hX hs
  go_enter Tryz.func76, Tryz.ntmps76
  go_wp2_with fail
  go_loopw [1, 7] (fun vx ix wr => ∃ (i : Nat) (va : Option Addr) (n vc : Nat) (Y : List ByteArray) (rs1 : List Rn), vx = .slice va n vc ∧ ix = .int .i64 (i : Int) ∧ Hid (i ≤ s.size ∧ OnI rs0 U b w rs wr (.slice va n vc) Y rs1 (derS ((bytesN s).take i) (stB rs X)))) (fun _ ix _ => s.size - (intOf ix).toNat)
  case atStart => exact ⟨0, xa, _, xc, X, rs, rfl, rfl, Nat.zero_le _, unhide H0⟩
  case round =>
    clear H0
    rename World => wr
    obtain ⟨i, va, n, vc, Y, rs1, rfl, rfl, HH⟩ := hrel
    obtain ⟨hi, hI⟩ := unhide HH
    clear HH
    by_cases hlt : i < s.size
    · have hltI : (i : Int) < (s.size : Int) := by omega
      have hi0 : (0 : Int) ≤ (i : Int) := by omega
      have hi1 : ((i : Int)).toNat = i := by omega
      have hbI : (s[i].toNat : Int) < 256 := by have := s[i].toNat_lt; omega
      have HON := hide (on_c (b := b) (unhide HT) (show s[i].toNat < 256 from s[i].toNat_lt) wr rs1 hI.rt hI.gr 0 _ Y hI.row hI.vs)
      have HDE : Hid (derL s[i].toNat (stB rs1 Y) = derS ((bytesN s).take (i + 1)) (stB rs X)) := by show _ = _; rw [hI.eq, bytesN_takeZ s hlt, derS_snoc]
      have HLT := hide hlt
      have HI := hide hI
      clear hi hI
      go_wp2_with fail
      refine (unhide HON).mono ?_
      rintro e w1 ⟨v1, Y1, rs2, rfl, h1⟩
      have HI1 := hide ((unhide HI).trans (h1.to (unhide HDE)))
      obtain ⟨va1, vc1, rfl⟩ := h1.row.form
      clear h1 HON HI
      go_wp2_with fail
      go_roundw
      case rel => exact ⟨i + 1, va1, _, vc1, Y1, rs2, rfl, by go_num, unhide HLT, unhide HI1⟩
      case measure => have := unhide HLT; simp [intOf]; omega
    · have hi2 : i = s.size := by omega
      subst hi2
      have HEN := hide (ends_c (b := b) (unhide HT) wr rs1 hI.rt hI.gr 0 _ Y hI.row hI.vs)
      have HI := hide hI
      have HTA : Hid ((bytesN s).take s.size = bytesN s) := List.take_of_length_le (by rw [bytesN_len]; exact Nat.le_refl _)
      clear hi hI hlt
      go_wp2_with fail
      refine (unhide HEN).mono ?_
      rintro e w1 ⟨⟨y, rfl, hy⟩, hb1⟩
      have HY : Hid (y = true ↔ derS (bytesN s) (stB rs X) []) := by show _ ↔ _; rw [hy, (unhide HI).eq, unhide HTA]
      have HK := hide ((unhide HI).trk.below hb1)
      clear hy hb1 HEN HI
      go_wp2_with fail
      go_ret
      exact ⟨y, rs1, rfl, unhide HY, unhide HK⟩

end Go.Proofs.YtfooclcjehpcfaaGreat
namespace Go.Proofs.YtfooclcjehpcfaaGreat
open Go.RowKit
attribute [local go_sem ↓] Go.wp_at_zero Go.wp_at_succ

theorem add_k (g o k : Nat) : (⟨g, o, none⟩ : Addr).add k = ⟨g, o + k, none⟩ := by unfold Addr.add; split <;> simp_all
theorem rnA_0 (r : Rn) : (rnA r).toList[0]? = some (.int .i64 r.kind) := by rw [Array.getElem?_toList]; exact (rnA_fields r).1
theorem rnA_5 (r : Rn) {k : Nat} (h : k < 256) : (rnA r).toList[5 + k]? = some (.bool (r.f k)) := by rw [Array.getElem?_toList]; exact get_rnA r k h
set_option maxRecDepth 20000 in
set_option maxHeartbeats 4000000 in
theorem alike_any (w : World) (b : Nat) (rs : List Rn) (hb : RtS w b rs) (hl : rs.length ≤ 1000) (x y : Nat) (hx : x < 256) (hy : y < 256) :
    Calls Tryz.prog 22 #[.pointer (some ⟨b, 0, none⟩), .int .i64 (x : Int), .int .i64 (y : Int)] w fun e w' => (∃ z, e = .returned (.bool z) ∧ (z = true ↔ alkB rs x y)) ∧ ∃ n, w' = w.drewN n := by
  have hlI : (rs.length : Int) ≤ 1000 := by omega
  have hxI : (x : Int) < 256 := by omega
  have hyI : (y : Int) < 256 := by omega
  have hx0 : (0 : Int) ≤ (x : Int) := by omega
  have hy0 : (0 : Int) ≤ (y : Int) := by omega
  have hx1 : ((x : Int)).toNat = x := by omega
  have hy1 : ((y : Int)).toNat = y := by omega
  have HRT := hide hb
  have HX := hide hx
  have HY := hide hy
  have hbl := RtS_lt hb
  obtain ⟨vv, hv1, hv2⟩ := hb
  obtain ⟨va, vn, vc, rfl⟩ := own_slice hv2
  have hvn : vn = rs.length := by
    rcases hv2.2 with ⟨e, h0⟩ | ⟨g, cap, cur, e, _⟩
    · cases e; exact h0.symm
    · simp only [Value.slice.injEq] at e; exact e.2.1
  subst hvn
  have c0 : w.cell? ⟨b, 0, none⟩ = some (.slice va rs.length vc) := by rw [cell_of_row _ _ _ _ _ _ hv1]; rfl
  clear hl hx hy hv1 hv2
  go_enter Tryz.func22, Tryz.ntmps22
  go_wp2_with fail
  go_loopw [7] (fun ix wr => ∃ i : Nat, ix = .int .i64 (i : Int) ∧ Hid (i ≤ rs.length ∧ (∃ n, wr = w.drewN n) ∧ ∀ (k : Nat) r, k < i → rs[k]? = some r → r.kind = 2 → r.f x = r.f y)) (fun ix _ => rs.length - (intOf ix).toNat)
  case atStart => exact ⟨0, rfl, Nat.zero_le _, ⟨0, rfl⟩, fun k r hk => by omega⟩
  case round =>
    rename World => wr
    obtain ⟨i, rfl, HH⟩ := hrel
    obtain ⟨hi, ⟨n, rfl⟩, hall⟩ := unhide HH
    clear HH
    by_cases hlt : i < rs.length
    · have hiI : (i : Int) < (rs.length : Int) := by omega
      have hi0 : (0 : Int) ≤ (i : Int) := by omega
      have hi1 : ((i : Int)).toNat = i := by omega
      obtain ⟨r, hr⟩ : ∃ r, rs[i]? = some r := ⟨_, List.getElem?_eq_getElem hlt⟩
      obtain ⟨g, cap, -, c0', hc⟩ := nd_begin (unhide HRT) hr
      rw [c0] at c0'
      simp only [Option.some.injEq, Value.slice.injEq, true_and] at c0'
      obtain ⟨rfl, rfl⟩ := c0'
      have k0 := hc 0 _ (rnA_0 r)
      have k1 := hc _ _ (rnA_5 r (unhide HX))
      have k2 := hc _ _ (rnA_5 r (unhide HY))
      rw [add_k] at k0 k1 k2
      rw [Nat.add_zero] at k0
      rw [← Nat.add_assoc] at k1 k2
      have hg : g < w.heap.size := World.block_lt_of_cell? w ⟨g, i * 261, none⟩ k0
      have HLT := hide hlt
      have HST : Hid ((r.kind = 2 → r.f x = r.f y) → ∀ (k : Nat) r, k < i + 1 → rs[k]? = some r → r.kind = 2 → r.f x = r.f y) := fun h k r' hk hr' => by
        by_cases e : k = i
        · subst e; rw [hr] at hr'; cases hr'; exact h
        · exact hall k r' (by omega) hr'
      have HNO : Hid (r.kind = 2 → r.f x ≠ r.f y → ¬ alkB rs x y) := fun h1 h2 h => h2 (h r (List.mem_of_getElem? hr) h1)
      clear hi hall hlt hc hr
      by_cases hk : r.kind = 2
      · rw [hk] at k0
        by_cases he : r.f x = r.f y
        · have HS := hide (unhide HST (fun _ => he))
          rw [← he] at k2
          clear hk he HST HNO
          generalize r.f x = z at *
          go_wp2_with fail
          go_quiet (fail)
          go_wp2_with fail
          go_roundw
          case rel => exact ⟨i + 1, by go_num, unhide HLT, ⟨n + nq, by first | rfl | simp⟩, unhide HS⟩
          case measure => have := unhide HLT; simp [intOf]; omega
        · have HF := hide (unhide HNO hk he)
          obtain ⟨z, hz⟩ : ∃ z, r.f x = z := ⟨_, rfl⟩
          have hz2 : r.f y = !z := by rw [← hz]; cases h1 : r.f x <;> cases h2 : r.f y <;> simp_all
          rw [hz] at k1
          rw [hz2] at k2
          clear hk he HST HNO hz hz2
          cases z
          all_goals
            go_wp2_with fail
            go_quiet (fail)
            go_wp2_with fail
            go_ret
            exact ⟨⟨false, rfl, by simp; exact unhide HF⟩, n + nq, by first | rfl | simp⟩
      · have HS := hide (unhide HST (fun h => absurd h hk))
        clear HST HNO
        generalize r.kind = kk at *
        go_wp2_with fail
        go_quiet (fail)
        go_wp2_with fail
        go_roundw
        case rel => exact ⟨i + 1, by go_num, unhide HLT, ⟨n + nq, by first | rfl | simp⟩, unhide HS⟩
        case measure => have := unhide HLT; simp [intOf]; omega
    · have hi2 : i = rs.length := by omega
      subst hi2
      have HA : Hid (alkB rs x y) := fun r hr hk => by
        obtain ⟨k, hk'⟩ := List.getElem?_of_mem hr
        exact hall k r (List.getElem?_eq_some_iff.1 hk').1 hk' hk
      clear hi hall hlt
      go_wp2_with fail
      go_ret
      exact ⟨⟨true, rfl, by simp; exact unhide HA⟩, n, rfl⟩

end Go.Proofs.YtfooclcjehpcfaaGreat
