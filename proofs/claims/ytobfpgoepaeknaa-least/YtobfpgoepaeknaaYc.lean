/-
  veilkeep.ordered: states and classes are numbered as they are met.
-/
import Derived.Test.YtobfpgoepaeknaaYb
namespace Go.Proofs.Ytobfpgoepaeknaa
open Go.RowKit

/-- The states met by the pairs before (i, b). -/
structure OrdI (S : Nat) (nx : Nat → Nat → Nat) (i b n : Nat) : Prop where
  lo : 1 ≤ n
  hi : n ≤ S
  old : ∀ i' b', b' < 256 → i' < i → nx i' b' < n
  cur : ∀ b', b' < b → nx i b' < n
section ord
variable {L : List Nat → Prop} {S : Nat} {nx : Nat → Nat → Nat} {gr : Nat → Bool} {i b n : Nat}
theorem OrdI.start (h : MinDfa L S nx gr) : OrdI S nx 0 0 1 := ⟨Nat.le_refl _, h.pos, fun _ _ _ h => absurd h (Nat.not_lt_zero _), fun _ h => absurd h (Nat.not_lt_zero _)⟩
theorem OrdI.le (h : MinDfa L S nx gr) (o : OrdI S nx i b n) (hi : i < n) (hb : b < 256) : nx i b ≤ n := by
  refine Nat.le_of_not_lt fun hlt => ?_
  have hlo := o.lo
  have hS := h.lt i b (Nat.lt_of_lt_of_le hi o.hi) hb
  obtain ⟨i0, b0, h1, h2, h3, h4, h5⟩ := h.bfs n (by omega) (by omega)
  rcases Nat.lt_trichotomy i0 i with g | g | g
  · have := o.old i0 b0 h2 g; omega
  · subst g
    rcases Nat.lt_trichotomy b0 b with g | g | g
    · have := o.cur b0 g; omega
    · subst g; omega
    · have := h5 b g; omega
  · have := h4 i b hb g; omega
theorem OrdI.same (o : OrdI S nx i b n) (hlt : nx i b < n) : OrdI S nx i (b + 1) n :=
  ⟨o.lo, o.hi, o.old, fun b' hb' => by
    by_cases e : b' = b
    · subst e; exact hlt
    · exact o.cur b' (by omega)⟩
theorem OrdI.more (h : MinDfa L S nx gr) (o : OrdI S nx i b n) (hi : i < n) (hb : b < 256) (he : nx i b = n) : OrdI S nx i (b + 1) (n + 1) := by
  have hS := h.lt i b (Nat.lt_of_lt_of_le hi o.hi) hb
  refine ⟨by omega, by omega, fun i' b' g1 g2 => Nat.lt_succ_of_lt (o.old i' b' g1 g2), fun b' hb' => ?_⟩
  by_cases e : b' = b
  · subst e; omega
  · exact Nat.lt_succ_of_lt (o.cur b' (by omega))
theorem OrdI.row (o : OrdI S nx i 256 n) : OrdI S nx (i + 1) 0 n :=
  ⟨o.lo, o.hi, fun i' b' g1 g2 => by
    by_cases e : i' = i
    · subst e; exact o.cur b' g1
    · exact o.old i' b' g1 (by omega), fun _ h => absurd h (Nat.not_lt_zero _)⟩
theorem OrdI.all (h : MinDfa L S nx gr) (o : OrdI S nx n 0 n) : n = S := by
  have hlo := o.lo
  have hhi := o.hi
  refine Nat.le_antisymm hhi (Nat.le_of_not_lt fun hlt => ?_)
  obtain ⟨i0, b0, h1, h2, h3, _⟩ := h.bfs n (by omega) hlt
  have := o.old i0 b0 h2 h1
  omega
end ord
structure ClsI (C : Nat) (cl : Nat → Nat) (b c : Nat) : Prop where
  hi : c ≤ C
  old : ∀ b', b' < b → cl b' < c
section cls
variable {S C : Nat} {nx : Nat → Nat → Nat} {cl : Nat → Nat} {b c : Nat}
theorem ClsI.le (h : Cols S nx C cl) (o : ClsI C cl b c) (hb : b < 256) : cl b ≤ c := by
  refine Nat.le_of_not_lt fun hlt => ?_
  obtain ⟨b', h1, h2⟩ := h.grow b hb c hlt
  have := o.old b' h1
  omega
theorem ClsI.same (o : ClsI C cl b c) (hlt : cl b < c) : ClsI C cl (b + 1) c := ⟨o.hi, fun b' hb' => by
  by_cases e : b' = b
  · subst e; exact hlt
  · exact o.old b' (by omega)⟩
theorem ClsI.more (h : Cols S nx C cl) (o : ClsI C cl b c) (hb : b < 256) (he : cl b = c) : ClsI C cl (b + 1) (c + 1) := ⟨by have := h.lt b hb; omega, fun b' hb' => by
  by_cases e : b' = b
  · subst e; omega
  · exact Nat.lt_succ_of_lt (o.old b' (by omega))⟩
theorem ClsI.all (h : Cols S nx C cl) (o : ClsI C cl 256 c) : c = C := by
  refine Nat.le_antisymm o.hi (Nat.le_of_not_lt fun hlt => ?_)
  obtain ⟨b, hb, e⟩ := h.all c hlt
  have := o.old b hb
  omega
end cls

set_option maxRecDepth 20000 in
set_option maxHeartbeats 2000000 in
theorem tordered_any (w : World) (t : ByteArray) (L : List Nat → Prop) (S C : Nat) (nx : Nat → Nat → Nat) (gr : Nat → Bool) (cl : Nat → Nat) (nc : Nat → Nat → Nat) (ht : TabOf L S C nx gr cl nc) (h : Tbl t S C cl gr nc) :
    Calls Try.prog 23 #[.string t] w fun e w' => e = .returned (.bool true) ∧ w' = w := by
  have H := hide h
  have HT := hide ht
  have hsz := h.size
  have s24 := h.s24
  have c24 := h.c24
  have k0 : (0 : Int) < (t.size : Int) := by omega
  have k1 : (1 : Int) < (t.size : Int) := by omega
  have k3 : (258 : Int) ≤ (t.size : Int) := by omega
  have k5 : (S : Int) ≤ 24 := by omega
  have k7 : (C : Int) ≤ 24 := by omega
  have HS := hide s24
  have HNX : Hid (∀ i b : Nat, i < S → b < 256 → Calls Try.prog 35 #[.string t, .int .i64 (i : Int), .int .i64 (b : Int)] w fun e w' => e = .returned (.int .i64 ((nx i b : Nat) : Int)) ∧ w' = w) := fun i b hi hb => by
    rw [← ht.nc i b hi hb]; exact tnext_any w t S C cl gr nc h i b hi hb
  clear h ht hsz s24 c24
  go_enter Try.func23, Try.ntmps23
  go_wp2_with fail
  go_loopw [3, 4] (fun nv ix wr => ∃ n i : Nat, nv = .int .i64 (n : Int) ∧ ix = .int .i64 (i : Int) ∧ Hid (i ≤ n ∧ OrdI S nx i 0 n) ∧ wr = w) (fun _ ix _ => S - (intOf ix).toNat)
  case atStart => exact ⟨1, 0, rfl, rfl, ⟨by omega, OrdI.start (unhide HT).dfa⟩, rfl⟩
  case round =>
    rename World => wr
    obtain ⟨n, i, rfl, rfl, HH, hwr⟩ := hrel
    obtain rfl : w = wr := hwr.symm
    clear hwr
    obtain ⟨hin, hO⟩ := unhide HH
    have hnS := hO.hi
    have HO := hide hO
    by_cases hlt : i < n
    · have hltI : (i : Int) < (n : Int) := by omega
      have hnI : (n : Int) ≤ 24 := by have := unhide HS; omega
      have HLT := hide hlt
      have HIS : Hid (i < S) := Nat.lt_of_lt_of_le hlt hnS
      have hiI : (i : Int) < 24 := by have := unhide HS; omega
      clear HH hin hO hnS hlt
      go_wp2_with fail
      go_loopw [3, 5] (fun nv bx wx => ∃ n2 b : Nat, nv = .int .i64 (n2 : Int) ∧ bx = .int .i64 (b : Int) ∧ Hid (b ≤ 256 ∧ i < n2 ∧ OrdI S nx i b n2) ∧ wx = w) (fun _ bx _ => left256 bx)
      case atStart => exact ⟨n, 0, rfl, rfl, ⟨Nat.zero_le _, unhide HLT, unhide HO⟩, rfl⟩
      case round =>
        clear HO HLT hltI hnI
        rename World => wx
        obtain ⟨n2, b, rfl, rfl, HH, hwx⟩ := hrel
        obtain rfl : w = wx := hwx.symm
        clear hwx
        obtain ⟨hb, hi2, hO⟩ := unhide HH
        have hnI : (n2 : Int) ≤ 24 := by have := unhide HS; have := hO.hi; omega
        by_cases hlt : b < 256
        · have hbI : (b : Int) < 256 := by omega
          have HBL := hide hlt
          have HC := hide (unhide HNX i b (unhide HIS) hlt)
          have hle := hO.le (unhide HT).dfa hi2 hlt
          have HI2 := hide hi2
          by_cases he : nx i b = n2
          · have HN := hide (hO.more (unhide HT).dfa hi2 hlt he)
            rw [he] at HC
            clear HH hb hi2 hO hlt hle he
            go_wp2_with fail
            refine (unhide HC).mono ?_
            rintro e w1 ⟨rfl, hww⟩
            obtain rfl : w = w1 := hww.symm
            clear hww
            go_wp2_with fail
            go_roundw
            case rel => exact ⟨n2 + 1, b + 1, by go_num, by go_num, ⟨unhide HBL, Nat.lt_succ_of_lt (unhide HI2), unhide HN⟩, by first | rfl | trivial⟩
            case measure => have := unhide HBL; simp [left256, intOf]; omega
          · have hl2 : nx i b < n2 := by omega
            have HN := hide (hO.same hl2)
            generalize nx i b = k at *
            have hkI : (k : Int) < (n2 : Int) := by omega
            clear HH hb hi2 hO hlt hle he hl2
            go_wp2_with fail
            refine (unhide HC).mono ?_
            rintro e w1 ⟨rfl, hww⟩
            obtain rfl : w = w1 := hww.symm
            clear hww
            go_wp2_with fail
            go_roundw
            case rel => exact ⟨n2, b + 1, rfl, by go_num, ⟨unhide HBL, unhide HI2, unhide HN⟩, by first | rfl | trivial⟩
            case measure => have := unhide HBL; simp [left256, intOf]; omega
        · have hb2 : b = 256 := by omega
          subst hb2
          have HN := hide hO.row
          have HI2 := hide hi2
          have HI3 : Hid (i < S) := Nat.lt_of_lt_of_le hi2 hO.hi
          clear HH hb hi2 hO hlt
          go_wp2_with fail
          go_roundw
          case rel => exact ⟨n2, i + 1, rfl, by go_num, ⟨unhide HI2, unhide HN⟩, by first | rfl | trivial⟩
          case measure => have := unhide HI3; simp [intOf]; omega
    · have hi2 : i = n := by omega
      subst hi2
      have hnS2 := hO.all (unhide HT).dfa
      subst hnS2
      have e0 := (unhide H).a0
      have e1 := (unhide H).a1
      clear HH hin hO hnS hlt HNX HO
      go_wp2_with fail
      go_loopw [7, 8] (fun cv bx wx => ∃ c b : Nat, cv = .int .i64 (c : Int) ∧ bx = .int .i64 (b : Int) ∧ Hid (b ≤ 256 ∧ ClsI C cl b c) ∧ wx = w) (fun _ bx _ => left256 bx)
      case atStart => exact ⟨0, 0, rfl, rfl, ⟨Nat.zero_le _, Nat.zero_le _, fun _ h => absurd h (Nat.not_lt_zero _)⟩, rfl⟩
      case round =>
        rename World => wx
        obtain ⟨c, b, rfl, rfl, HH, hwx⟩ := hrel
        obtain rfl : w = wx := hwx.symm
        clear hwx
        obtain ⟨hb, hO⟩ := unhide HH
        have hcC := hO.hi
        have hcI : (c : Int) ≤ 24 := by have := (unhide H).c24; omega
        by_cases hlt : b < 256
        · have hbI : (b : Int) < 256 := by omega
          have HBL := hide hlt
          have e2 := (unhide H).ac b hlt
          have k2 : (2 : Int) + (b : Int) < (t.size : Int) := by omega
          have hle := hO.le (unhide HT).cols hlt
          by_cases he : cl b = c
          · have HN := hide (hO.more (unhide HT).cols hlt he)
            rw [he] at e2
            clear HH hb hO hlt hle he hcC
            go_wp2_with fail
            go_roundw
            case rel => exact ⟨c + 1, b + 1, by go_num, by go_num, ⟨unhide HBL, unhide HN⟩, by first | rfl | trivial⟩
            case measure => have := unhide HBL; simp [left256, intOf]; omega
          · have hl2 : cl b < c := by omega
            have HN := hide (hO.same hl2)
            generalize cl b = k at *
            have hkI : (k : Int) < (c : Int) := by omega
            clear HH hb hO hlt hle he hl2 hcC
            go_wp2_with fail
            go_roundw
            case rel => exact ⟨c, b + 1, rfl, by go_num, ⟨unhide HBL, unhide HN⟩, by first | rfl | trivial⟩
            case measure => have := unhide HBL; simp [left256, intOf]; omega
        · have hb2 : b = 256 := by omega
          subst hb2
          have hC2 := hO.all (unhide HT).cols
          subst hC2
          clear HH hb hO hlt hcC
          go_wp2_with fail
          go_ret
          exact ⟨by first | rfl | (simp; done), rfl⟩

end Go.Proofs.Ytobfpgoepaeknaa
