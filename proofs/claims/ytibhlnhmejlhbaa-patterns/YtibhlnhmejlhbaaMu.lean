/-
  Plain mathematics: the true weights of the reader's nodes; the node that is handed back is the last one.
-/
import Derived.Test.YtibhlnhmejlhbaaMt
namespace Go.Proofs.Ytibhlnhmejlhbaa

def max1 (w : Int) : Int := if w < 1 then 1 else w
def cl (w : Int) : Int := if 13 < w then 13 else w
def trueAll (ns : List Nd) : List Int := ns.foldl (fun ws n => ws ++ [max1 (rawW ws n)]) []
def lt' (ns : List Nd) : Int := lastW (trueAll ns)

theorem trueAll_snoc (ns : List Nd) (n : Nd) : trueAll (ns ++ [n]) = trueAll ns ++ [max1 (rawW (trueAll ns) n)] := by
  simp [trueAll, List.foldl_append]
theorem lt_snoc (ns : List Nd) (n : Nd) : lt' (ns ++ [n]) = max1 (rawW (trueAll ns) n) := by
  unfold lt' lastW; rw [trueAll_snoc]; simp
theorem trueAll_len (ns : List Nd) : (trueAll ns).length = ns.length :=
  snoc_ind (p := fun ns => (trueAll ns).length = ns.length) rfl (fun ns n ih => by simp only [trueAll_snoc, List.length_append, ih, List.length_cons, List.length_nil]) ns
theorem trueAll_pos (ns : List Nd) : ∀ w ∈ trueAll ns, 1 ≤ w := by
  refine snoc_ind (p := fun ns => ∀ w ∈ trueAll ns, 1 ≤ w) ?_ ?_ ns
  · intro w hw; simp [trueAll] at hw
  · intro ns n ih w hw
    rw [trueAll_snoc, List.mem_append] at hw
    rcases hw with hw | hw
    · exact ih w hw
    · simp at hw; subst hw; unfold max1; split <;> omega
theorem trueAll_app (ns x : List Nd) : ∃ e, trueAll (ns ++ x) = trueAll ns ++ e := by
  refine snoc_ind (p := fun x => ∃ e, trueAll (ns ++ x) = trueAll ns ++ e) ⟨[], by simp⟩ ?_ x
  intro x n ⟨e, he⟩
  refine ⟨e ++ [max1 (rawW (trueAll (ns ++ x)) n)], ?_⟩
  rw [← List.append_assoc, trueAll_snoc, he, List.append_assoc]
theorem wAt_last (ns x : List Nd) (h : ns ≠ []) : wAt (trueAll (ns ++ x)) ((ns.length : Int) - 1) = lt' ns := by
  have hl : 0 < ns.length := List.length_pos_iff.2 h
  obtain ⟨e, he⟩ := trueAll_app ns x
  have hlen := trueAll_len ns
  unfold wAt
  rw [if_neg (by rw [trueAll_len]; simp only [List.length_append]; omega), he, show ((ns.length : Int) - 1).toNat = ns.length - 1 from by omega, List.getD_eq_getElem?_getD, List.getElem?_append_left (by omega)]
  unfold lt' lastW
  rw [List.getLast?_eq_getElem?, hlen]

theorem wAt_cl (ws : List Int) (i : Int) : wAt (ws.map cl) i = cl (wAt ws i) := by
  unfold wAt
  rw [List.length_map]
  split
  · rfl
  · rename_i h
    have hi : i.toNat < ws.length := by omega
    rw [List.getD_eq_getElem?_getD, List.getD_eq_getElem?_getD, List.getElem?_map, List.getElem?_eq_getElem hi]
    rfl
theorem wAt_nonneg {ws : List Int} (h : ∀ w ∈ ws, 1 ≤ w) (i : Int) : 0 ≤ wAt ws i := by
  unfold wAt
  split
  · omega
  · rename_i hi
    have hlt : i.toNat < ws.length := by omega
    have := h (ws[i.toNat]) (List.getElem_mem hlt)
    rw [List.getD_eq_getElem?_getD, List.getElem?_eq_getElem hlt]
    simp only [Option.getD_some]
    omega
theorem cl_sum {a c : Int} (ha : 0 ≤ a) (hc : 0 ≤ c) : clampW (cl a + cl c) = cl (max1 (a + c)) := by
  unfold clampW cl max1; split <;> split <;> split <;> (try split) <;> (try split) <;> omega
theorem cl_same {a : Int} (_ha : 0 ≤ a) : clampW (cl a) = cl (max1 a) := by
  unfold clampW cl max1; split <;> split <;> (try split) <;> (try split) <;> omega
theorem cl_times {a h : Int} (ha : 0 ≤ a) (hh : 0 ≤ h) : clampW (cl a * h) = cl (max1 (a * h)) := by
  by_cases h13 : 13 < a
  · have e : cl a = 13 := by unfold cl; rw [if_pos h13]
    rw [e]
    by_cases h0 : h = 0
    · subst h0; simp; decide
    · have h1 : a ≤ a * h := by
        have := Int.mul_le_mul_of_nonneg_left (show 1 ≤ h by omega) ha
        simpa using this
      unfold clampW cl max1
      rw [if_neg (by omega), if_neg (show ¬ a * h < 1 by omega), if_pos (show 13 < a * h by omega)]
      split <;> omega
  · have e : cl a = a := by unfold cl; rw [if_neg h13]
    rw [e]
    unfold clampW cl max1
    split
    · rw [if_neg (by omega)]
    · rfl
theorem weigh_cl (ns : List Nd) (hd : DigitsOk ns) : weighAll ns = (trueAll ns).map cl := by
  refine snoc_ind (p := fun ns => DigitsOk ns → weighAll ns = (trueAll ns).map cl) (fun _ => rfl) ?_ ns hd
  intro ns n ih hd
  have hd1 : DigitsOk ns := fun m hm => hd m (by simp [hm])
  have hn := hd n (by simp)
  rw [weighAll_snoc, trueAll_snoc, ih hd1, List.map_append]
  congr 1
  simp only [List.map_cons, List.map_nil, List.cons.injEq, and_true]
  have hp := trueAll_pos ns
  have a1 := wAt_nonneg hp n.left
  have a2 := wAt_nonneg hp n.right
  unfold weighNd rawW
  rw [wAt_cl, wAt_cl]
  split
  · exact cl_sum a1 a2
  · split
    · exact cl_same a1
    · split
      · exact cl_times a1 hn.1
      · decide
theorem lastW_cl (ns : List Nd) (hd : DigitsOk ns) (hne : ns ≠ []) : lastW (weighAll ns) = cl (lt' ns) := by
  rw [weigh_cl ns hd]
  unfold lt' lastW
  rw [List.getLast?_map]
  cases h : (trueAll ns).getLast? with
  | none =>
    rw [List.getLast?_eq_none_iff] at h
    have := trueAll_len ns
    rw [h] at this
    exact absurd (List.eq_nil_of_length_eq_zero this.symm) hne
  | some w => rfl

def Last (tag : Nat) (whole : Int) (st : St) (r : St × Int) : Prop :=
  (∃ e, r.1.ns = st.ns ++ e) ∧
  (match tag with
   | 1 => st.ns ≠ [] → whole = (st.ns.length : Int) - 1 → r.2 = (r.1.ns.length : Int) - 1
   | 3 => st.ns ≠ [] → whole = (st.ns.length : Int) - 1 → r.2 = (r.1.ns.length : Int) - 1
   | 5 => st.ns ≠ [] → whole = (st.ns.length : Int) - 1 → r.2 = (r.1.ns.length : Int) - 1
   | _ => r.1.ns ≠ [] ∧ r.2 = (r.1.ns.length : Int) - 1)

theorem add_last (x : St) (n : Nd) : (x.add n).ns ≠ [] ∧ x.num = ((x.add n).ns.length : Int) - 1 := by
  constructor
  · simp [St.add]
  · simp [St.add, St.num]
theorem suffix_ns (t : ByteArray) (whole : Int) (x : St) : ∃ n, (readSuffixS t whole x).ns = x.ns ++ [n] := by
  unfold readSuffixS
  split
  · exact ⟨_, rfl⟩
  · split
    · exact ⟨_, rfl⟩
    · split
      · exact ⟨_, rfl⟩
      · exact ⟨_, rfl⟩
theorem leaf_ns (t : ByteArray) (x : St) : ∃ s, (readLeafS t x).ns = x.ns ++ [⟨1, 0, 0, 0, 0, s⟩] := by
  unfold readLeafS
  split
  · exact ⟨_, rfl⟩
  · split
    · exact ⟨_, rfl⟩
    · exact ⟨_, rfl⟩

theorem rdF_last (t : ByteArray) : ∀ (f tag : Nat) (whole : Int) (st : St) (r : St × Int), rdF t f tag whole st = some r → Last tag whole st r := by
  intro f
  induction f with
  | zero => intro tag whole st r h; simp [rdF] at h
  | succ f ih =>
    intro tag whole st r h
    match tag with
    | 0 =>
      simp only [rdF, Option.bind_eq_some_iff] at h
      obtain ⟨r1, h1, h2⟩ := h
      obtain ⟨⟨e1, he1⟩, ne1, l1⟩ := ih 2 _ _ _ h1
      obtain ⟨⟨e2, he2⟩, l2⟩ := ih 1 _ _ _ h2
      exact ⟨⟨e1 ++ e2, by rw [he2, he1, List.append_assoc]⟩, by rw [he2]; simp [ne1], l2 ne1 l1⟩
    | 1 =>
      simp only [rdF] at h
      split at h
      · simp only [Option.bind_eq_some_iff] at h
        obtain ⟨r1, h1, h2⟩ := h
        obtain ⟨⟨e1, he1⟩, ne1, l1⟩ := ih 2 _ _ _ h1
        obtain ⟨⟨e2, he2⟩, l2⟩ := ih 1 _ _ _ h2
        refine ⟨⟨e1 ++ [⟨3, whole, r1.2, 0, 0, 0⟩] ++ e2, ?_⟩, fun _ _ => l2 (add_last _ _).1 (add_last _ _).2⟩
        rw [he2]
        show (r1.1.ns ++ [_]) ++ e2 = _
        rw [he1]
        show st.ns ++ e1 ++ [_] ++ e2 = _
        simp
      · simp only [Option.some.injEq] at h; subst h
        exact ⟨⟨[], by simp⟩, fun _ e => e⟩
    | 2 =>
      simp only [rdF] at h
      split at h
      · simp only [Option.bind_eq_some_iff] at h
        obtain ⟨r1, h1, h2⟩ := h
        obtain ⟨⟨e1, he1⟩, ne1, l1⟩ := ih 4 _ _ _ h1
        obtain ⟨⟨e2, he2⟩, l2⟩ := ih 3 _ _ _ h2
        exact ⟨⟨e1 ++ e2, by rw [he2, he1, List.append_assoc]⟩, by rw [he2]; simp [ne1], l2 ne1 l1⟩
      · simp only [Option.some.injEq] at h; subst h
        exact ⟨⟨_, rfl⟩, (add_last _ _).1, (add_last _ _).2⟩
    | 3 =>
      simp only [rdF] at h
      split at h
      · simp only [Option.bind_eq_some_iff] at h
        obtain ⟨r1, h1, h2⟩ := h
        obtain ⟨⟨e1, he1⟩, ne1, l1⟩ := ih 4 _ _ _ h1
        obtain ⟨⟨e2, he2⟩, l2⟩ := ih 3 _ _ _ h2
        refine ⟨⟨e1 ++ [⟨2, whole, r1.2, 0, 0, 0⟩] ++ e2, ?_⟩, fun _ _ => l2 (add_last _ _).1 (add_last _ _).2⟩
        rw [he2]
        show (r1.1.ns ++ [_]) ++ e2 = _
        rw [he1]
        simp
      · simp only [Option.some.injEq] at h; subst h
        exact ⟨⟨[], by simp⟩, fun _ e => e⟩
    | 4 =>
      simp only [rdF, Option.bind_eq_some_iff] at h
      obtain ⟨r1, h1, h2⟩ := h
      obtain ⟨⟨e1, he1⟩, ne1, l1⟩ := ih 6 _ _ _ h1
      obtain ⟨⟨e2, he2⟩, l2⟩ := ih 5 _ _ _ h2
      exact ⟨⟨e1 ++ e2, by rw [he2, he1, List.append_assoc]⟩, by rw [he2]; simp [ne1], l2 ne1 l1⟩
    | 5 =>
      simp only [rdF] at h
      split at h
      · obtain ⟨⟨e2, he2⟩, l2⟩ := ih 5 _ _ _ h
        obtain ⟨n, hn⟩ := suffix_ns t whole st
        refine ⟨⟨[n] ++ e2, by rw [he2, hn, List.append_assoc]⟩, fun _ _ => l2 (by rw [hn]; simp) ?_⟩
        rw [hn]; simp [St.num]
      · simp only [Option.some.injEq] at h; subst h
        exact ⟨⟨[], by simp⟩, fun _ e => e⟩
    | tag + 6 =>
      simp only [rdF] at h
      split at h
      · simp only [Option.bind_eq_some_iff, Option.some.injEq] at h
        obtain ⟨r1, h1, rfl⟩ := h
        obtain ⟨⟨e1, he1⟩, ne1, l1⟩ := ih 0 _ _ _ h1
        exact ⟨⟨e1, he1⟩, ne1, l1⟩
      · simp only [Option.some.injEq] at h; subst h
        obtain ⟨s, hs⟩ := leaf_ns t st
        refine ⟨⟨_, hs⟩, by simp only; rw [hs]; simp, ?_⟩
        simp only; rw [hs]; simp [St.num]

end Go.Proofs.Ytibhlnhmejlhbaa
