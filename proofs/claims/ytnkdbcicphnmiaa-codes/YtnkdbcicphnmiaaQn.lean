/-
  veillaw.codes: what the statement asks of Code.
-/
import Derived.Test.YtnkdbcicphnmiaaQm
import Derived.Test.YtnkdbcicphnmiaaNu
namespace Go.Proofs.Ytnkdbcicphnmiaa
namespace Mc
open Go.RowKit
attribute [local go_sem ↓] Go.wp_at_zero Go.wp_at_succ

theorem imD_pos (x : ByteArray) : 0 < (imD x).length := layD_pos _ _ _
section
variable {x : ByteArray}
theorem ImOk.tabs (h : ImOk x) : ∀ i, i < bt x 3 → (imT x i).Ok := fun i hi => (h.ts.1 i hi).ok
theorem ImOk.dlen (h : ImOk x) : (imD x).length ≤ 4000 := by
  have := layD_len (imF x) (bt x 3) (imT x) h.tabs h.r2 (bt x 3) (Nat.le_refl _)
  have := h.r2
  unfold imD; omega
theorem ImOk.olen (h : ImOk x) : (imO x).length ≤ 4000 ∧ 0 < (imO x).length := by
  unfold imO
  rw [codeOf_len, layP_len]
  have h1 : bt x 3 * (14 + 31 * bt x 2) ≤ 4 * (14 + 31 * 16) := Nat.mul_le_mul h.r2 (by have := h.n; omega)
  omega
theorem ImOk.jud (h : ImOk x) {s : ByteArray} (hs : s.size ≤ bt x 2) : ∃ M : List Nat, M.length = 4096 ∧ runAns (imO x) ((memW s s.size ++ imD x).map Int.ofNat) 2097152 = ⟨0, M.set 17 (imV x s).toNat, imTr x⟩ := judged h.tabs h.r2 h.n hs
theorem ImOk.takes (h : ImOk x) : takesE (imO x) ((imD x).map Int.ofNat) 2097152 = 0 := by
  obtain ⟨M, _, hr⟩ := h.jud (s := ⟨#[]⟩) (Nat.zero_le _)
  have hc := runs_code (by rw [hr])
  have hm : memB ((imD x).map Int.ofNat) = true := by
    unfold memB
    rw [Bool.and_eq_true]
    refine ⟨by rw [List.length_map]; have := h.dlen; simp only [decide_eq_true_eq]; omega, ?_⟩
    rw [List.all_eq_true]
    intro z hz
    obtain ⟨y, hy, rfl⟩ := List.mem_map.1 hz
    have := layD_le h.tabs h.r2 (bt x 3) (Nat.le_refl _) y hy
    unfold wordOk
    rw [Bool.and_eq_true, decide_eq_true_eq, decide_eq_true_eq]
    exact ⟨Int.natCast_nonneg y, by show (y : Int) ≤ 65535; omega⟩
  exact tE0 hc hm rfl
end
theorem OR.full {w : World} {B g n cap : Nat} {os : List OpI} (h : OR w B (.slice (some ⟨g, 0, none⟩) n cap) os) : OpFull w g cap 0 op0 ∧ n ≤ cap ∧ cap ≤ maxLen := by
  have h' : w.ownsRow B 62 4 (.slice (some ⟨g, 0, none⟩) n cap) os.length _ := h
  rcases h'.2 with ⟨e, _⟩ | ⟨g2, cap2, cur, e, _, hg, h1, h2, h3, _⟩
  · cases e
  · cases e
    exact ⟨⟨cur, hg, h3, fun j hj => by omega⟩, h1, h2⟩
theorem below_frS {B : Nat} {a w w' : World} {S : List Nat} (hb : Below B a w) (f : Fr S w w') (hB : B ≤ w.heap.size) (hS : ∀ q ∈ S, B ≤ q) : Below B a w' :=
  hb.trans ⟨f.os, f.tape, f.output, f.size, fun k hk => f.block k (Nat.lt_of_lt_of_le hk hB) (fun hm => by have := hS k hm; omega)⟩
theorem lists2 {W : World} {B1 B2 : Nat} {u v : Value} {xs ys : List Nat} (h1 : NR W B1 u xs) (h2 : NR W B2 v ys) (hb : ∀ q, u.ownBlock = some q → q < B2) : Lists W [u, v] := by
  have hd : DjV u v := fun q a b => by have := hb q a; have := (h2.lt q b).1; omega
  refine ⟨fun i hi => ?_, fun i j hi hj hne => ?_⟩
  · match i, hi with
    | 0, _ => exact h1.room
    | 1, _ => exact h2.room
    | n + 2, hi => exact absurd hi (by simp)
  · match i, hi, j, hj with
    | 0, _, 1, _ => exact hd
    | 1, _, 0, _ => exact fun q a b => hd q b a
    | 0, _, 0, _ => exact absurd rfl hne
    | 1, _, 1, _ => exact absurd rfl hne
    | n + 2, hi, _, _ => exact absurd hi (by simp)
    | _, _, n + 2, hj => exact absurd hj (by simp)
theorem blocks2 {u v : Value} {q : Nat} (h : q ∈ blocks [u, v]) : u.ownBlock = some q ∨ v.ownBlock = some q := by
  simpa [blocks] using h
theorem OAt.nil (w : World) : OAt w (.slice none 0 0) [] := ⟨none, 0, rfl, fun h => absurd h (by simp)⟩
theorem IAt.nil (w : World) : IAt w (.slice none 0 0) [] := ⟨none, 0, rfl, fun h => absurd h (by simp)⟩

set_option maxRecDepth 20000 in
set_option maxHeartbeats 2000000 in
theorem codes_bad (w : World) (x s : ByteArray) (hx : x.size ≤ 9223372036854775807) (hno : ¬ ImOk x) :
    Calls Try.prog 13 #[.string x, .string s] w fun e w' => (∃ cv dv, e = .returned (.tuple #[cv, dv, .bool true])) ∧ Below w.heap.size w w' := by
  have HCO : Hid (∀ W, Calls Try.prog 26 #[.string x] W fun e w' => Below W.heap.size W w' ∧ e = .returned (.tuple #[.slice none 0 0, .slice none 0 0, .int .i64 7])) := fun W => (VCode_any W x hx).mono fun e w' h => ⟨h.1, by
    rcases h.2 with h2 | h2
    · exact absurd h2.1 hno
    · exact h2.2⟩
  have HRD : Hid (∀ W, Calls Try.prog 38 #[.string x] W fun e w' => Below W.heap.size W w' ∧ ∃ (N : Int) (f : ByteArray) (ta : Option Addr) (n tc : Nat), e = .returned (.tuple #[.agg #[.int .i64 N, .string f, .slice ta n tc], .bool false])) := fun W => (VRead_any W x hx).mono fun e w' h => ⟨h.1, by
    rcases h.2 with h2 | h2
    · exact absurd h2.1 hno
    · exact h2.2⟩
  have HSO := hide (fun W => sameOps_any W _ _ [] (OAt.nil W) (OAt.nil W) (by simp))
  have HSI := hide (fun W => sameInts_any W _ _ [] (IAt.nil W) (IAt.nil W) (by simp))
  clear hx hno
  go_enter Try.func13, Try.ntmps13
  go_wp2_with fail
  refine (unhide HCO _).mono ?_
  rintro e w1 ⟨hb1, rfl⟩
  have HB1 := hide hb1
  clear hb1
  go_wp2_with fail
  refine (unhide HCO _).mono ?_
  rintro e w2 ⟨hb2, rfl⟩
  have HB2 := hide (bel_up (unhide HB1) hb2)
  clear hb2 HB1 HCO
  go_wp2_with fail
  refine (unhide HSO _).mono ?_
  rintro e w3 ⟨rfl, hb3⟩
  have HB3 := hide (bel_up (unhide HB2) hb3)
  clear hb3 HB2 HSO
  go_wp2_with fail
  refine (unhide HSI _).mono ?_
  rintro e w4 ⟨rfl, hb4⟩
  have HB4 := hide (bel_up (unhide HB3) hb4)
  clear hb4 HB3 HSI
  go_wp2_with fail
  refine (unhide HRD _).mono ?_
  rintro e w5 ⟨hb5, N, f, ta, n, tc, rfl⟩
  have HB5 := hide (bel_up (unhide HB4) hb5)
  clear hb5 HB4 HRD
  go_wp2_with fail
  refine (num_any 7 _).mono ?_
  rintro e w6 ⟨rfl, rfl⟩
  go_wp2_with fail
  refine (num_any 7 _).mono ?_
  rintro e w7 ⟨rfl, rfl⟩
  go_wp2_with fail
  refine bodyPost_ret (v := .tuple #[.slice none 0 0, .slice none 0 0, .bool true]) (by simp [results, Try.results13, go_sem]) rfl ?_
  exact ⟨⟨_, _, rfl⟩, (unhide HB5).alloc (unhide HB5).size _⟩

end Mc
end Go.Proofs.Ytnkdbcicphnmiaa
