/-
  The answers of Witness and Differ are one; veil.Witness, veil.Differ.
-/
import Derived.Test.YtnkdbcicphnmiaaJl
namespace Go.Proofs.Ytnkdbcicphnmiaa
namespace Mc
open Go.RowKit

theorem nv_least {P : List Nat → Bool} : ∀ (n : Nat) (v : List Nat), nv v ≤ n → Byt v → P v = true → ∃ u, Byt u ∧ P u = true ∧ ∀ v, Byt v → P v = true → nv u ≤ nv v
  | 0, v, hn, hv, hp => ⟨v, hv, hp, fun u _ _ => by omega⟩
  | n + 1, v, hn, hv, hp => by
    by_cases h : ∃ u, Byt u ∧ P u = true ∧ nv u < nv v
    · obtain ⟨u, hu, hpu, hlt⟩ := h
      exact nv_least n u (by omega) hu hpu
    · exact ⟨v, hv, hp, fun u hu hpu => Nat.le_of_not_lt fun hlt => h ⟨u, hu, hpu, hlt⟩⟩
theorem nv_le_len {a b : List Nat} (ha : Byt a) (hb : Byt b) (h : nv a ≤ nv b) : a.length ≤ b.length := Nat.le_of_not_lt fun hl => by have := nv_len a b hb ha hl; omega
/-- The first string that is wanted, or none. -/
theorem first_or (P : List Nat → Bool) : (∃ u, Byt u ∧ P u = true ∧ ∀ v, Byt v → P v = true → nv u ≤ nv v) ∨ ∀ v, Byt v → P v = false := by
  by_cases h : ∃ v, Byt v ∧ P v = true
  · obtain ⟨v, hv, hp⟩ := h
    exact .inl (nv_least _ v (Nat.le_refl _) hv hp)
  · exact .inr fun v hv => by
      cases hp : P v
      · rfl
      · exact absurd ⟨v, hv, hp⟩ h
theorem WitA.big {N : Nat} {P : List Nat → Bool} {M : Prop} {e : Ending} (h : WitA N P M e) (hM : M) : e = .returned (.tuple #[.string ⟨#[]⟩, .bool false, .int .i64 3]) := by
  rcases h with h | h | h
  · exact h.2
  · exact absurd hM h.1
  · exact absurd hM h.1
theorem WitA.some {N : Nat} {P : List Nat → Bool} {M : Prop} {e : Ending} (h : WitA N P M e) (hM : ¬ M) {u : List Nat} (hu : Byt u) (hl : u.length ≤ N) (hp : P u = true) (hmin : ∀ v, Byt v → P v = true → nv u ≤ nv v) : e = .returned (.tuple #[.string (mkV u), .bool true, .int .i64 0]) := by
  rcases h with h | ⟨-, u', hu', hl', hp', hmin', rfl⟩ | h
  · exact absurd h.1 hM
  · rw [nv_inj u u' hu hu' (Nat.le_antisymm (hmin u' hu' hp') (hmin' u hu hp))]
  · rw [h.2.1 u hu hl] at hp; cases hp
theorem WitA.nil {N : Nat} {P : List Nat → Bool} {M : Prop} {e : Ending} (h : WitA N P M e) (hM : ¬ M) (hno : ∀ v, Byt v → v.length ≤ N → P v = false) : e = .returned (.tuple #[.string ⟨#[]⟩, .bool false, .int .i64 0]) := by
  rcases h with h | ⟨-, u', hu', hl', hp', hmin', rfl⟩ | h
  · exact absurd h.1 hM
  · rw [hno u' hu' hl'] at hp'; cases hp'
  · exact h.2.2
theorem DifA.big {P : List Nat → Bool} {M : Prop} {e : Ending} (h : DifA P M e) (hM : M) : e = .returned (.tuple #[.string ⟨#[]⟩, .bool false, .int .i64 3]) := by
  rcases h with h | h | h
  · exact h.2
  · exact absurd hM h.1
  · exact absurd hM h.1
theorem DifA.some {P : List Nat → Bool} {M : Prop} {e : Ending} (h : DifA P M e) (hM : ¬ M) {u : List Nat} (hu : Byt u) (hp : P u = true) (hmin : ∀ v, Byt v → P v = true → nv u ≤ nv v) : u.length ≤ 255 ∧ e = .returned (.tuple #[.string (mkV u), .bool true, .int .i64 0]) := by
  rcases h with h | ⟨-, u', hu', hl', hp', hmin', rfl⟩ | h
  · exact absurd h.1 hM
  · rw [nv_inj u u' hu hu' (Nat.le_antisymm (hmin u' hu' hp') (hmin' u hu hp))]
    exact ⟨hl', rfl⟩
  · rw [h.2.1 u hu] at hp; cases hp
theorem DifA.nil {P : List Nat → Bool} {M : Prop} {e : Ending} (h : DifA P M e) (hM : ¬ M) (hno : ∀ v, Byt v → P v = false) : e = .returned (.tuple #[.string ⟨#[]⟩, .bool false, .int .i64 0]) := by
  rcases h with h | ⟨-, u', hu', hl', hp', hmin', rfl⟩ | h
  · exact absurd h.1 hM
  · rw [hno u' hu'] at hp'; cases hp'
  · exact h.2.2

theorem Tbs.up2 {w w' : World} {g m : Nat} {ts : Nat → TabN} (h : Tbs w w.heap.size g m ts) (hb : Below w.heap.size w w') : Tbs w' w'.heap.size g m ts := by
  refine ⟨fun j hj => ?_, Nat.lt_of_lt_of_le h.lt hb.size⟩
  obtain ⟨gv, nv, h1, h2⟩ := h.at_ j hj
  exact ⟨gv, nv, fun k v hv => (Fr.ofBelow hb).cell (h1 k v hv) (by simp), h2.fr (Fr.ofBelow hb) (NoRows.nil _) hb.size⟩
/-- What an image's text says of a string. -/
def truX (x : ByteArray) (v : List Nat) : Bool := tru (imF x) (bt x 3) (imT x) v
theorem imT_ok {x : ByteArray} (h : ImOk x) : ∀ i, i < bt x 3 → (imT x i).Ok := fun i hi => (h.ts.1 i hi).ok
/-- What veil.Witness, veil.Differ answer. -/
def VWiA (x : ByteArray) (e : Ending) : Prop :=
  (ImOk x ∧ WitA (bt x 2) (truX x) (Many (stT (bt x 3) (imT x))) e) ∨ (¬ ImOk x ∧ e = .returned (.tuple #[.string ⟨#[]⟩, .bool false, .int .i64 7]))
def VDiA (x y : ByteArray) (e : Ending) : Prop :=
  (ImOk x ∧ ImOk y ∧ DifA (fun v => truX x v != truX y v) (Many (stT (bt x 3 + bt y 3) (joinT (bt x 3) (imT x) (imT y)))) e) ∨ (¬ (ImOk x ∧ ImOk y) ∧ e = .returned (.tuple #[.string ⟨#[]⟩, .bool false, .int .i64 7]))
theorem wit_form {N : Nat} {P : List Nat → Bool} {M : Prop} {e : Ending} (h : WitA N P M e) : ∃ s b n, e = .returned (.tuple #[.string s, .bool b, .int .i64 n]) := by
  rcases h with h | ⟨-, u', hu', hl', hp', hmin', rfl⟩ | h
  · exact ⟨_, _, _, h.2⟩
  · exact ⟨_, _, _, rfl⟩
  · exact ⟨_, _, _, h.2.2⟩
theorem dif_form {P : List Nat → Bool} {M : Prop} {e : Ending} (h : DifA P M e) : ∃ s b n, e = .returned (.tuple #[.string s, .bool b, .int .i64 n]) := by
  rcases h with h | ⟨-, u', hu', hl', hp', hmin', rfl⟩ | h
  · exact ⟨_, _, _, h.2⟩
  · exact ⟨_, _, _, rfl⟩
  · exact ⟨_, _, _, h.2.2⟩
section
attribute [local go_sem ↓] Go.wp_at_zero Go.wp_at_succ
set_option maxRecDepth 20000 in
set_option maxHeartbeats 1000000 in
theorem VWitness_any (w : World) (x : ByteArray) (hx : x.size ≤ 9223372036854775807) :
    Calls Try.prog 15 #[.string x] w fun e w' => Below w.heap.size w w' ∧ VWiA x e := by
  have HO := hide (Open_any w x hx)
  clear hx
  go_enter Try.func15, Try.ntmps15
  go_wp2_with fail
  refine (unhide HO).mono ?_
  rintro e w1 ⟨hb1, h⟩
  clear HO
  rcases h with ⟨hok, g, tc, rfl, htb⟩ | ⟨hno, rfl⟩
  · have HB1 := hide hb1
    have HOK := hide hok
    have HTB : Hid (Tbs (w1.alloc (.cells (imC (bt x 2) (imF x) (some ⟨g, 0, none⟩) (bt x 3) tc) 83)) (w1.alloc (.cells (imC (bt x 2) (imF x) (some ⟨g, 0, none⟩) (bt x 3) tc) 83)).heap.size g (bt x 3) (imT x)) := htb.up2 ((Below.refl _ _).alloc (Nat.le_refl _) _)
    have HIB : Hid (ImB (w1.alloc (.cells (imC (bt x 2) (imF x) (some ⟨g, 0, none⟩) (bt x 3) tc) 83)) w1.heap.size (bt x 2) (imF x) (some ⟨g, 0, none⟩) (bt x 3) tc) := ⟨heap_alloc_new _ _⟩
    have HB2 : Hid (Below w.heap.size w (w1.alloc (.cells (imC (bt x 2) (imF x) (some ⟨g, 0, none⟩) (bt x 3) tc) 83))) := hb1.alloc hb1.size _
    clear hb1 hok htb
    unfold imC at *
    go_wp2_with fail
    refine (Witness_any _ _ w1.heap.size (bt x 2) (bt x 3) tc g (imF x) (imT x) (unhide HIB) (unhide HTB) (Nat.le_refl _) (unhide HOK).r1 (unhide HOK).r2 (by rw [imF_size (unhide HOK).fl]; have := (unhide HOK).f2; omega) (by have := (unhide HOK).n; omega) (imT_ok (unhide HOK))).mono ?_
    rintro e w3 ⟨hb3, ha⟩
    have HB3 : Hid (Below w.heap.size w w3) := (unhide HB2).trans (hb3.mono (unhide HB2).size)
    have HA := hide ha
    obtain ⟨s, b, n, rfl⟩ := wit_form ha
    clear hb3 ha HB2 HIB HTB
    go_wp2_with fail
    refine bodyPost_ret (v := .tuple #[.string s, .bool b, .int .i64 n]) (by simp [results, Try.results15, go_sem]) rfl ?_
    exact ⟨unhide HB3, .inl ⟨unhide HOK, unhide HA⟩⟩
  · have HB1 := hide hb1
    have HF := hide hno
    clear hb1 hno
    unfold zIm at *
    go_wp2_with fail
    refine bodyPost_ret (v := .tuple #[.string ⟨#[]⟩, .bool false, .int .i64 7]) (by simp [results, Try.results15, go_sem]) rfl ?_
    exact ⟨(unhide HB1).alloc (unhide HB1).size _, .inr ⟨unhide HF, rfl⟩⟩
set_option maxRecDepth 20000 in
set_option maxHeartbeats 1000000 in
theorem VDiffer_any (w : World) (x y : ByteArray) (hx : x.size ≤ 9223372036854775807) (hy : y.size ≤ 9223372036854775807) :
    Calls Try.prog 18 #[.string x, .string y] w fun e w' => Below w.heap.size w w' ∧ VDiA x y e := by
  have HO := hide (Open_any w x hx)
  have HOY := hide (fun W => Open_any W y hy)
  clear hx hy
  go_enter Try.func18, Try.ntmps18
  go_wp2_with fail
  refine (unhide HO).mono ?_
  rintro e w1 ⟨hb1, h⟩
  clear HO
  rcases h with ⟨hok, g, tc, rfl, htb⟩ | ⟨hno, rfl⟩
  · have HOK := hide hok
    have HTB : Hid (Tbs (w1.alloc (.cells (imC (bt x 2) (imF x) (some ⟨g, 0, none⟩) (bt x 3) tc) 83)) (w1.alloc (.cells (imC (bt x 2) (imF x) (some ⟨g, 0, none⟩) (bt x 3) tc) 83)).heap.size g (bt x 3) (imT x)) := htb.up2 ((Below.refl _ _).alloc (Nat.le_refl _) _)
    have HIB : Hid (ImB (w1.alloc (.cells (imC (bt x 2) (imF x) (some ⟨g, 0, none⟩) (bt x 3) tc) 83)) w1.heap.size (bt x 2) (imF x) (some ⟨g, 0, none⟩) (bt x 3) tc) := ⟨heap_alloc_new _ _⟩
    have HB2 : Hid (Below w.heap.size w (w1.alloc (.cells (imC (bt x 2) (imF x) (some ⟨g, 0, none⟩) (bt x 3) tc) 83))) := hb1.alloc hb1.size _
    have hlt : w1.heap.size < (w1.alloc (.cells (imC (bt x 2) (imF x) (some ⟨g, 0, none⟩) (bt x 3) tc) 83)).heap.size := by simp
    clear hb1 hok htb
    unfold imC at *
    go_wp2_with fail
    generalize w1.alloc (.cells #[.int .i64 (bt x 2 : Int), .string (imF x), .slice (some ⟨g, 0, none⟩) (bt x 3) tc] 83) = w2 at *
    generalize w1.heap.size = gx at *
    refine (unhide HOY _).mono ?_
    rintro e w3 ⟨hb3, h⟩
    clear HOY
    have HB3 : Hid (Below w.heap.size w w3) := (unhide HB2).trans (hb3.mono (unhide HB2).size)
    rcases h with ⟨hok, g', tc', rfl, htb⟩ | ⟨hno, rfl⟩
    · have HOK' := hide hok
      have HBA : Hid (Below w3.heap.size w3 (w3.alloc (.cells (imC (bt y 2) (imF y) (some ⟨g', 0, none⟩) (bt y 3) tc') 83))) := (Below.refl _ _).alloc (Nat.le_refl _) _
      have HTB' : Hid (Tbs (w3.alloc (.cells (imC (bt y 2) (imF y) (some ⟨g', 0, none⟩) (bt y 3) tc') 83)) (w3.alloc (.cells (imC (bt y 2) (imF y) (some ⟨g', 0, none⟩) (bt y 3) tc') 83)).heap.size g' (bt y 3) (imT y)) := htb.up2 (unhide HBA)
      have HIB' : Hid (ImB (w3.alloc (.cells (imC (bt y 2) (imF y) (some ⟨g', 0, none⟩) (bt y 3) tc') 83)) w3.heap.size (bt y 2) (imF y) (some ⟨g', 0, none⟩) (bt y 3) tc') := ⟨heap_alloc_new _ _⟩
      have HTX : Hid (Tbs (w3.alloc (.cells (imC (bt y 2) (imF y) (some ⟨g', 0, none⟩) (bt y 3) tc') 83)) (w3.alloc (.cells (imC (bt y 2) (imF y) (some ⟨g', 0, none⟩) (bt y 3) tc') 83)).heap.size g (bt x 3) (imT x)) := ((unhide HTB).up2 hb3).up2 (unhide HBA)
      have HIX : Hid (ImB (w3.alloc (.cells (imC (bt y 2) (imF y) (some ⟨g', 0, none⟩) (bt y 3) tc') 83)) gx (bt x 2) (imF x) (some ⟨g, 0, none⟩) (bt x 3) tc) := ((unhide HIB).below hb3 hlt).below (unhide HBA) (by have := hb3.size; omega)
      have HB4 : Hid (Below w.heap.size w (w3.alloc (.cells (imC (bt y 2) (imF y) (some ⟨g', 0, none⟩) (bt y 3) tc') 83))) := (unhide HB3).alloc (unhide HB3).size _
      clear hb3 hok htb HTB HIB HBA hlt
      unfold imC at *
      go_wp2_with fail
      refine (Differ_any _ _ gx (bt x 2) (bt x 3) tc g w3.heap.size (bt y 2) (bt y 3) tc' g' (imF x) (imF y) (imT x) (imT y) (unhide HIX) (unhide HTX) (unhide HIB') (unhide HTB') (Nat.le_refl _) (unhide HOK).r1 (unhide HOK).r2 (unhide HOK').r1 (unhide HOK').r2 (by rw [imF_size (unhide HOK).fl]; have := (unhide HOK).f2; omega) (by rw [imF_size (unhide HOK').fl]; have := (unhide HOK').f2; omega) (imT_ok (unhide HOK)) (imT_ok (unhide HOK'))).mono ?_
      rintro e w5 ⟨hb5, ha⟩
      have HB5 : Hid (Below w.heap.size w w5) := (unhide HB4).trans (hb5.mono (unhide HB4).size)
      have HA := hide ha
      obtain ⟨s, b, n, rfl⟩ := dif_form ha
      clear hb5 ha HB4 HIX HTX HIB' HTB'
      go_wp2_with fail
      refine bodyPost_ret (v := .tuple #[.string s, .bool b, .int .i64 n]) (by simp [results, Try.results18, go_sem]) rfl ?_
      exact ⟨unhide HB5, .inl ⟨unhide HOK, unhide HOK', unhide HA⟩⟩
    · have HF := hide hno
      clear hb3 hno HTB HIB
      unfold zIm at *
      go_wp2_with fail
      refine bodyPost_ret (v := .tuple #[.string ⟨#[]⟩, .bool false, .int .i64 7]) (by simp [results, Try.results18, go_sem]) rfl ?_
      exact ⟨(unhide HB3).alloc (unhide HB3).size _, .inr ⟨fun h => unhide HF h.2, rfl⟩⟩
  · have HB1 := hide hb1
    have HF := hide hno
    clear hb1 hno HOY
    unfold zIm at *
    go_wp2_with fail
    refine bodyPost_ret (v := .tuple #[.string ⟨#[]⟩, .bool false, .int .i64 7]) (by simp [results, Try.results18, go_sem]) rfl ?_
    exact ⟨(unhide HB1).alloc (unhide HB1).size _, .inr ⟨fun h => unhide HF h.1, rfl⟩⟩
end

end Mc
end Go.Proofs.Ytnkdbcicphnmiaa
