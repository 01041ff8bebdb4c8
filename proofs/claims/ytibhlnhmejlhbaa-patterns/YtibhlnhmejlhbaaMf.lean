/-
  Plain definitions: the weights of nodes.
-/
import Derived.Test.YtibhlnhmejlhbaaMe
namespace Go.Proofs.Ytibhlnhmejlhbaa

def wAt (ws : List Int) (i : Int) : Int := if i < 0 ∨ (ws.length : Int) ≤ i then 0 else ws.getD i.toNat 0
def rawW (ws : List Int) (n : Nd) : Int :=
  if (n.kind == 2 || n.kind == 3) = true then wAt ws n.left + wAt ws n.right
  else if (n.kind == 4 || n.kind == 5 || n.kind == 6) = true then wAt ws n.left
  else if (n.kind == 7) = true then wAt ws n.left * n.high
  else 1
def clampW (w : Int) : Int := if w < 1 then 1 else if 13 < w then 13 else w
def weighNd (ws : List Int) (n : Nd) : Int := clampW (rawW ws n)
def weighAll (ns : List Nd) : List Int := ns.foldl (fun ws n => ws ++ [weighNd ws n]) []

theorem snoc_ind {α : Type} {p : List α → Prop} (h0 : p []) (h1 : ∀ l a, p l → p (l ++ [a])) (l : List α) : p l := by
  have h : ∀ l : List α, p l.reverse := by
    intro l
    induction l with
    | nil => exact h0
    | cons a l ih => rw [List.reverse_cons]; exact h1 _ _ ih
  have := h l.reverse
  rwa [List.reverse_reverse] at this

theorem weighAll_snoc (ns : List Nd) (n : Nd) : weighAll (ns ++ [n]) = weighAll ns ++ [weighNd (weighAll ns) n] := by
  simp [weighAll, List.foldl_append]
theorem clampW_bd (w : Int) : 1 ≤ clampW w ∧ clampW w ≤ 13 := by
  unfold clampW; split
  · omega
  · split <;> omega
theorem weighAll_len (ns : List Nd) : (weighAll ns).length = ns.length :=
  snoc_ind (p := fun ns => (weighAll ns).length = ns.length) rfl (fun ns n ih => by simp only [weighAll_snoc, List.length_append, ih, List.length_cons, List.length_nil]) ns
theorem weighAll_bd (ns : List Nd) : ∀ w ∈ weighAll ns, 1 ≤ w ∧ w ≤ 13 := by
  refine snoc_ind (p := fun ns => ∀ w ∈ weighAll ns, 1 ≤ w ∧ w ≤ 13) ?_ ?_ ns
  · intro w hw; simp [weighAll] at hw
  · intro ns n ih w hw
    rw [weighAll_snoc, List.mem_append] at hw
    rcases hw with hw | hw
    · exact ih w hw
    · simp at hw; subst hw; exact clampW_bd _
theorem wAt_bd {ws : List Int} (h : ∀ w ∈ ws, 1 ≤ w ∧ w ≤ 13) (i : Int) : 0 ≤ wAt ws i ∧ wAt ws i ≤ 13 := by
  unfold wAt
  split
  · omega
  · rename_i hi
    have hlt : i.toNat < ws.length := by omega
    have := h (ws[i.toNat]) (List.getElem_mem hlt)
    rw [List.getD_eq_getElem?_getD, List.getElem?_eq_getElem hlt]
    simp only [Option.getD_some]
    omega

end Go.Proofs.Ytibhlnhmejlhbaa
