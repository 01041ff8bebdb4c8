/-
  veil.Code, veil.Check.
-/
import Derived.Test.YtnkdbcicphnmiaaQe
namespace Go.Proofs.Ytnkdbcicphnmiaa
namespace Mc
open Go.RowKit
attribute [local go_sem ↓] Go.wp_at_zero Go.wp_at_succ

theorem Tbs.up {w w' : World} {g m : Nat} {ts : Nat → TabN} (h : Tbs w w.heap.size g m ts) (hb : Below w.heap.size w w') : Tbs w' w'.heap.size g m ts := by
  refine ⟨fun j hj => ?_, Nat.lt_of_lt_of_le h.lt hb.size⟩
  obtain ⟨gv, nv, h1, h2⟩ := h.at_ j hj
  exact ⟨gv, nv, fun k v hv => (Fr.ofBelow hb).cell (h1 k v hv) (by simp), h2.fr (Fr.ofBelow hb) (NoRows.nil _) hb.size⟩
/-- The code and the data of an image. -/
def imO (x : ByteArray) : List OpI := codeOf 32 (bt x 2) (layP (imF x) (bt x 3) (imT x) (bt x 3))
def imD (x : ByteArray) : List Nat := layD (imF x) (bt x 3) (imT x) (bt x 3)
/-- What Code answers. -/
def CoA (w w' : World) (x : ByteArray) (e : Ending) : Prop :=
  (ImOk x ∧ ∃ cv dv, e = .returned (.tuple #[cv, dv, .int .i64 0]) ∧ OR w' w.heap.size cv (imO x) ∧ NR w' w.heap.size dv (imD x)) ∨
  (¬ ImOk x ∧ e = .returned (.tuple #[.slice none 0 0, .slice none 0 0, .int .i64 7]))
set_option maxRecDepth 20000 in
set_option maxHeartbeats 1000000 in
theorem VCode_any (w : World) (x : ByteArray) (hx : x.size ≤ 9223372036854775807) :
    Calls Try.prog 26 #[.string x] w fun e w' => Below w.heap.size w w' ∧ CoA w w' x e := by
  have HO := hide (Open_any w x hx)
  clear hx
  go_enter Try.func26, Try.ntmps26
  go_wp2_with fail
  refine (unhide HO).mono ?_
  rintro e w1 ⟨hb1, h⟩
  clear HO
  rcases h with ⟨hok, g, tc, rfl, htb⟩ | ⟨hno, rfl⟩
  · have HB1 := hide hb1
    have HOK := hide hok
    have HTB : Hid (Tbs (w1.alloc (.cells (imC (bt x 2) (imF x) (some ⟨g, 0, none⟩) (bt x 3) tc) 83)) (w1.alloc (.cells (imC (bt x 2) (imF x) (some ⟨g, 0, none⟩) (bt x 3) tc) 83)).heap.size g (bt x 3) (imT x)) := htb.up ((Below.refl _ _).alloc (Nat.le_refl _) _)
    have HIB : Hid (ImB (w1.alloc (.cells (imC (bt x 2) (imF x) (some ⟨g, 0, none⟩) (bt x 3) tc) 83)) w1.heap.size (bt x 2) (imF x) (some ⟨g, 0, none⟩) (bt x 3) tc) := ⟨heap_alloc_new _ _⟩
    have HB2 : Hid (Below w.heap.size w (w1.alloc (.cells (imC (bt x 2) (imF x) (some ⟨g, 0, none⟩) (bt x 3) tc) 83))) := hb1.alloc hb1.size _
    clear hb1 hok htb
    unfold imC at *
    go_wp2_with fail
    refine (Code_any _ w1.heap.size (bt x 2) (bt x 3) tc g (imF x) (imT x) (unhide HIB) (unhide HTB) (unhide HOK).r2 (by rw [imF_size (unhide HOK).fl]; have := (unhide HOK).f2; omega) (unhide HOK).n).mono ?_
    rintro e w3 ⟨cv, dv, rfl, hb3, ho, hd⟩
    have HB3 : Hid (Below w.heap.size w w3) := (unhide HB2).trans (hb3.mono (unhide HB2).size)
    have HO3 : Hid (OR w3 w.heap.size cv (imO x)) := own_less ho (unhide HB2).size
    have HD3 : Hid (NR w3 w.heap.size dv (imD x)) := own_less hd (unhide HB2).size
    clear hb3 ho hd HB2 HIB HTB
    go_wp2_with fail
    refine bodyPost_ret (v := .tuple #[cv, dv, .int .i64 0]) (by simp [results, Try.results26, go_sem]) rfl ?_
    exact ⟨unhide HB3, .inl ⟨unhide HOK, cv, dv, rfl, unhide HO3, unhide HD3⟩⟩
  · have HB1 := hide hb1
    have HF := hide hno
    clear hb1 hno
    unfold zIm at *
    go_wp2_with fail
    refine bodyPost_ret (v := .tuple #[.slice none 0 0, .slice none 0 0, .int .i64 7]) (by simp [results, Try.results26, go_sem]) rfl ?_
    exact ⟨(unhide HB1).alloc (unhide HB1).size _, .inr ⟨unhide HF, rfl⟩⟩
/-- The verdict of an image, and the trace. -/
def imV (x s : ByteArray) : Bool := trueF (imF x) (ruleT (bt x 3) (imT x) (btsN s))
def imTr (x : ByteArray) : List Nat := codeT 32 (bt x 2) (layP (imF x) (bt x 3) (imT x) (bt x 3))
/-- What Check answers. -/
def ChA (w w' : World) (x s : ByteArray) (e : Ending) : Prop :=
  (ImOk x ∧ s.size ≤ bt x 2 ∧ ∃ tv, e = .returned (.tuple #[.bool (imV x s), tv, .int .i64 0]) ∧ NR w' w.heap.size tv (imTr x)) ∨
  (ImOk x ∧ bt x 2 < s.size ∧ e = .returned (.tuple #[.bool false, .slice none 0 0, .int .i64 1])) ∨
  (¬ ImOk x ∧ e = .returned (.tuple #[.bool false, .slice none 0 0, .int .i64 7]))
set_option maxRecDepth 20000 in
set_option maxHeartbeats 1000000 in
theorem VCheck_any (w : World) (x s : ByteArray) (hx : x.size ≤ 9223372036854775807) (hs : s.size ≤ 9223372036854775807) :
    Calls Try.prog 23 #[.string x, .string s] w fun e w' => Below w.heap.size w w' ∧ ChA w w' x s e := by
  have HO := hide (Open_any w x hx)
  have HS := hide hs
  clear hx hs
  go_enter Try.func23, Try.ntmps23
  go_wp2_with fail
  refine (unhide HO).mono ?_
  rintro e w1 ⟨hb1, h⟩
  clear HO
  rcases h with ⟨hok, g, tc, rfl, htb⟩ | ⟨hno, rfl⟩
  · have HB1 := hide hb1
    have HOK := hide hok
    have HTB : Hid (Tbs (w1.alloc (.cells (imC (bt x 2) (imF x) (some ⟨g, 0, none⟩) (bt x 3) tc) 83)) (w1.alloc (.cells (imC (bt x 2) (imF x) (some ⟨g, 0, none⟩) (bt x 3) tc) 83)).heap.size g (bt x 3) (imT x)) := htb.up ((Below.refl _ _).alloc (Nat.le_refl _) _)
    have HIB : Hid (ImB (w1.alloc (.cells (imC (bt x 2) (imF x) (some ⟨g, 0, none⟩) (bt x 3) tc) 83)) w1.heap.size (bt x 2) (imF x) (some ⟨g, 0, none⟩) (bt x 3) tc) := ⟨heap_alloc_new _ _⟩
    have HB2 : Hid (Below w.heap.size w (w1.alloc (.cells (imC (bt x 2) (imF x) (some ⟨g, 0, none⟩) (bt x 3) tc) 83))) := hb1.alloc hb1.size _
    clear hb1 hok htb
    unfold imC at *
    by_cases hl : s.size ≤ bt x 2
    · have HL := hide hl
      clear hl
      go_wp2_with fail
      refine (Check_ok _ w1.heap.size (bt x 2) (bt x 3) tc g (imF x) (imT x) (unhide HIB) (unhide HTB) (unhide HOK).r2 (by rw [imF_size (unhide HOK).fl]; have := (unhide HOK).f2; omega) (unhide HOK).n s (unhide HL)).mono ?_
      rintro e w3 ⟨tv, rfl, hb3, hd⟩
      have HB3 : Hid (Below w.heap.size w w3) := (unhide HB2).trans (hb3.mono (unhide HB2).size)
      have HD3 : Hid (NR w3 w.heap.size tv (imTr x)) := own_less hd (unhide HB2).size
      clear hb3 hd HB2 HIB HTB
      go_wp2_with fail
      refine bodyPost_ret (v := .tuple #[.bool (imV x s), tv, .int .i64 0]) (by simp [results, Try.results23, go_sem, imV]) rfl ?_
      exact ⟨unhide HB3, .inl ⟨unhide HOK, unhide HL, tv, rfl, unhide HD3⟩⟩
    · have HL : Hid (bt x 2 < s.size) := by show _ < _; omega
      clear hl
      go_wp2_with fail
      refine (Check_long _ w1.heap.size (bt x 2) (bt x 3) tc (imF x) _ (unhide HIB) (unhide HOK).n s (unhide HL) (unhide HS)).mono ?_
      rintro e w3 ⟨rfl, hb3⟩
      have HB3 : Hid (Below w.heap.size w w3) := (unhide HB2).trans (hb3.mono (unhide HB2).size)
      clear hb3 HB2 HIB HTB
      go_wp2_with fail
      refine bodyPost_ret (v := .tuple #[.bool false, .slice none 0 0, .int .i64 1]) (by simp [results, Try.results23, go_sem]) rfl ?_
      exact ⟨unhide HB3, .inr (.inl ⟨unhide HOK, unhide HL, rfl⟩)⟩
  · have HB1 := hide hb1
    have HF := hide hno
    clear hb1 hno
    unfold zIm at *
    go_wp2_with fail
    refine bodyPost_ret (v := .tuple #[.bool false, .slice none 0 0, .int .i64 7]) (by simp [results, Try.results23, go_sem]) rfl ?_
    exact ⟨(unhide HB1).alloc (unhide HB1).size _, .inr (.inr ⟨unhide HF, rfl⟩)⟩

end Mc
end Go.Proofs.Ytnkdbcicphnmiaa
