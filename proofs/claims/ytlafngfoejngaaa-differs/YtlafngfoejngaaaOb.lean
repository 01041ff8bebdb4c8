/-
  The code that judges a secret: reading a byte, a secret, by a table.
-/
import Derived.Test.YtlafngfoejngaaaOa
namespace Go.Proofs.Ytlafngfoejngaaa
namespace Mc

def readByteOps (i cb ce rb re p : Nat) : List OpI :=
  [opN 0 10 i 0, opN 5 10 10 1, opN 3 4 4 10, opN 0 10 (1 + i) 0, opN 6 5 10 0, opN 0 10 cb 0, opN 1 5 5 10] ++ (lookOps cb ce (p + 7) ++ ([opN 1 5 3 6] ++ (lookOps rb re (p + 18) ++ [opN 4 10 3 6, opN 2 10 10 4, opN 4 3 6 10])))
def readByteT (i cb ce rb re : Nat) : List Nat := [1 + i] ++ (lookT cb (ce - cb) ++ lookT rb (re - rb))
def readByteN (cb ce rb re : Nat) : Nat := 7 + ((3 + 7 * (ce - cb)) + (1 + ((3 + 7 * (re - rb)) + 3)))

theorem found_le {M : List Nat} (hM : ∀ i, M.getD i 0 ≤ 65535) (b e w : Nat) : found M b e w ≤ 65535 := by unfold found; split; exact hM _; omega
/-- Whether the secret has ended. -/
def endW (b : Bool) : Nat := if b then 65535 else 0
theorem pick_row {r r2 : Nat} (h1 : r ≤ 65535) (h2 : r2 ≤ 65535) (b : Bool) : r2 ^^^ ((r ^^^ r2) &&& endW b) = if b then r else r2 := by
  cases b
  · simp [endW]
  · have hx : r ^^^ r2 ≤ 65535 := by
      have : r ^^^ r2 < 2 ^ 16 := Nat.xor_lt_two_pow (by omega) (by omega)
      omega
    show r2 ^^^ ((r ^^^ r2) &&& 65535) = r
    rw [and_full hx, Nat.xor_comm r r2, ← Nat.xor_assoc, Nat.xor_self, Nat.zero_xor]
theorem or_end (b c : Bool) : endW b ||| endW c = endW (b || c) := by cases b <;> cases c <;> decide

theorem j1 {x y : Nat} (h : x + y ≤ 65535) : joinN ((1 : Nat) : Int) x y = x + y := by show joinN 1 x y = _; unfold joinN; rw [if_pos rfl]; omega
theorem j2 (x y : Nat) : joinN ((2 : Nat) : Int) x y = x &&& y := by show joinN 2 x y = _; unfold joinN; rw [if_neg (by decide), if_pos rfl]
theorem j3 (x y : Nat) : joinN ((3 : Nat) : Int) x y = x ||| y := by show joinN 3 x y = _; unfold joinN; rw [if_neg (by decide), if_neg (by decide), if_pos rfl]
theorem j4 (x y : Nat) : joinN ((4 : Nat) : Int) x y = x ^^^ y := by show joinN 4 x y = _; unfold joinN; rw [if_neg (by decide), if_neg (by decide), if_neg (by decide), if_pos rfl]
theorem j5 (x y : Nat) : joinN ((5 : Nat) : Int) x y = endW (decide (x = y)) := by show joinN 5 x y = _; unfold joinN endW; rw [if_neg (by decide), if_neg (by decide), if_neg (by decide), if_neg (by decide)]; simp
theorem At.get {cs : List OpI} {p : Nat} {l : List OpI} (h : At cs p l) (i : Nat) {o : OpI} (ho : l[i]? = some o) : cs[p + i]? = some o := (h i (List.getElem?_eq_some_iff.1 ho).1).trans ho

/-- The registers that matter between the pieces. -/
structure Rg (g : Nat → Nat) (L v r : Nat) (en : Bool) : Prop where
  one : g 0 = 1
  len : g 1 = L
  ver : g 2 = v
  row : g 3 = r
  en : g 4 = endW en

theorem readByte_any {cs : List OpI} {M : List Nat} {i cb ce rb re p L v r : Nat} {en : Bool} {g : Nat → Nat} {T : List Nat} (hc : At cs p (readByteOps i cb ce rb re p)) (hM : ∀ i, M.getD i 0 ≤ 65535) (hcb : cb < ce) (hce : ce ≤ 4096) (hrb : rb < re) (hre : re ≤ 4096) (hi : 1 + i < 4096)
    (hw : M.getD (1 + i) 0 + cb ≤ 65535) (hr : r + found M cb ce (M.getD (1 + i) 0 + cb) ≤ 65535) (hg : Rg g L v r en) :
    Goes cs (readByteN cb ce rb re) g M p T (fun g' => Rg g' L v (if en || decide (i = L) then r else found M rb re (r + found M cb ce (M.getD (1 + i) 0 + cb))) (en || decide (i = L))) M (p + 31) (T ++ readByteT i cb ce rb re) := by
  obtain ⟨a1, hc2⟩ := hc.app
  obtain ⟨a2, hc3⟩ := hc2.app
  obtain ⟨a3, hc4⟩ := hc3.app
  obtain ⟨a4, a5⟩ := hc4.app
  simp only [List.length_cons, List.length_nil, Nat.zero_add, lookOps] at a2 a3 a4 a5
  have e0 := a1.get 0 rfl
  have e1 := a1.get 1 rfl
  have e2 := a1.get 2 rfl
  have e3 := a1.get 3 rfl
  have e4 := a1.get 4 rfl
  have e5 := a1.get 5 rfl
  have e6 := a1.get 6 rfl
  have e17 := a3.get 0 rfl
  have e28 := a5.get 0 rfl
  have e29 := a5.get 1 rfl
  have e30 := a5.get 2 rfl
  generalize hen : (en || decide (i = L)) = en'
  generalize hw0 : M.getD (1 + i) 0 = w at *
  unfold readByteN readByteT
  -- the first seven
  have p1 : Goes cs 7 g M p T (fun q => Rg q L v r en' ∧ q 5 = w + cb) M (p + 7) (T ++ [1 + i]) := by
    refine Goes.next (n := 1) (m := 6) (goes_set (post := fun q => Rg q L v r en ∧ q 10 = i) e0 ⟨⟨?_, ?_, ?_, ?_, ?_⟩, upd_same _ _ _⟩) fun q hq => ?_
    · rw [upd_ne _ _ (by decide)]; exact hg.one
    · rw [upd_ne _ _ (by decide)]; exact hg.len
    · rw [upd_ne _ _ (by decide)]; exact hg.ver
    · rw [upd_ne _ _ (by decide)]; exact hg.row
    · rw [upd_ne _ _ (by decide)]; exact hg.en
    obtain ⟨hq, h10⟩ := hq
    refine Goes.next (n := 1) (m := 5) (goes_join (k := 5) (post := fun q => Rg q L v r en ∧ q 10 = endW (decide (i = L))) (by decide) (by decide) (by decide) e1 ⟨⟨?_, ?_, ?_, ?_, ?_⟩, ?_⟩) fun q hq => ?_
    · rw [upd_ne _ _ (by decide)]; exact hq.one
    · rw [upd_ne _ _ (by decide)]; exact hq.len
    · rw [upd_ne _ _ (by decide)]; exact hq.ver
    · rw [upd_ne _ _ (by decide)]; exact hq.row
    · rw [upd_ne _ _ (by decide)]; exact hq.en
    · rw [upd_same, j5, h10, hq.len]
    obtain ⟨hq, h10⟩ := hq
    refine Goes.next (n := 1) (m := 4) (goes_join (k := 3) (post := fun q => Rg q L v r en') (by decide) (by decide) (by decide) e2 ⟨?_, ?_, ?_, ?_, ?_⟩) fun q hq => ?_
    · rw [upd_ne _ _ (by decide)]; exact hq.one
    · rw [upd_ne _ _ (by decide)]; exact hq.len
    · rw [upd_ne _ _ (by decide)]; exact hq.ver
    · rw [upd_ne _ _ (by decide)]; exact hq.row
    · rw [upd_same, j3, hq.en, h10, or_end, hen]
    refine Goes.next (n := 1) (m := 3) (goes_set (post := fun q => Rg q L v r en' ∧ q 10 = 1 + i) e3 ⟨⟨?_, ?_, ?_, ?_, ?_⟩, upd_same _ _ _⟩) fun q hq => ?_
    · rw [upd_ne _ _ (by decide)]; exact hq.one
    · rw [upd_ne _ _ (by decide)]; exact hq.len
    · rw [upd_ne _ _ (by decide)]; exact hq.ver
    · rw [upd_ne _ _ (by decide)]; exact hq.row
    · rw [upd_ne _ _ (by decide)]; exact hq.en
    obtain ⟨hq, h10⟩ := hq
    have hl := goes_load (g := q) (M := M) (p := p + 4) (T := T) (a := 5) (x := 10) (c := 0) (post := fun q => Rg q L v r en' ∧ q 5 = w) (by decide) (by rw [h10]; exact hi) e4 ⟨⟨by rw [upd_ne _ _ (by decide)]; exact hq.one, by rw [upd_ne _ _ (by decide)]; exact hq.len, by rw [upd_ne _ _ (by decide)]; exact hq.ver, by rw [upd_ne _ _ (by decide)]; exact hq.row, by rw [upd_ne _ _ (by decide)]; exact hq.en⟩, by rw [upd_same, h10, hw0]⟩
    rw [h10] at hl
    refine Goes.next (n := 1) (m := 2) hl fun q hq => ?_
    obtain ⟨hq, h5⟩ := hq
    refine Goes.next (n := 1) (m := 1) (goes_set (post := fun q => Rg q L v r en' ∧ q 5 = w ∧ q 10 = cb) e5 ⟨⟨?_, ?_, ?_, ?_, ?_⟩, ?_, upd_same _ _ _⟩) fun q hq => ?_
    · rw [upd_ne _ _ (by decide)]; exact hq.one
    · rw [upd_ne _ _ (by decide)]; exact hq.len
    · rw [upd_ne _ _ (by decide)]; exact hq.ver
    · rw [upd_ne _ _ (by decide)]; exact hq.row
    · rw [upd_ne _ _ (by decide)]; exact hq.en
    · rw [upd_ne _ _ (by decide)]; exact h5
    obtain ⟨hq, h5, h10⟩ := hq
    refine goes_join (k := 1) (by decide) (by decide) (by decide) e6 ⟨⟨?_, ?_, ?_, ?_, ?_⟩, ?_⟩
    · rw [upd_ne _ _ (by decide)]; exact hq.one
    · rw [upd_ne _ _ (by decide)]; exact hq.len
    · rw [upd_ne _ _ (by decide)]; exact hq.ver
    · rw [upd_ne _ _ (by decide)]; exact hq.row
    · rw [upd_ne _ _ (by decide)]; exact hq.en
    · rw [upd_same, h5, h10, j1 hw]
  refine Goes.next p1 fun q hq => ?_
  obtain ⟨hq, h5⟩ := hq
  refine Goes.next ((look_any (p := p + 7) (by simpa [lookOps] using a2) hM hcb hce q hq.one (T ++ [1 + i])).mono (post2 := fun q' => Rg q' L v r en' ∧ q' 6 = found M cb ce (w + cb)) fun q' hq' => ⟨⟨?_, ?_, ?_, ?_, ?_⟩, by rw [hq'.2, h5]⟩) fun q hq => ?_
  · rw [hq'.1 0 (by decide) (by decide) (by decide) (by decide) (by decide)]; exact hq.one
  · rw [hq'.1 1 (by decide) (by decide) (by decide) (by decide) (by decide)]; exact hq.len
  · rw [hq'.1 2 (by decide) (by decide) (by decide) (by decide) (by decide)]; exact hq.ver
  · rw [hq'.1 3 (by decide) (by decide) (by decide) (by decide) (by decide)]; exact hq.row
  · rw [hq'.1 4 (by decide) (by decide) (by decide) (by decide) (by decide)]; exact hq.en
  obtain ⟨hq, h6⟩ := hq
  refine Goes.next (n := 1) (goes_join (k := 1) (post := fun q => Rg q L v r en' ∧ q 5 = r + found M cb ce (w + cb)) (by decide) (by decide) (by decide) e17 ⟨⟨?_, ?_, ?_, ?_, ?_⟩, ?_⟩) fun q hq => ?_
  · rw [upd_ne _ _ (by decide)]; exact hq.one
  · rw [upd_ne _ _ (by decide)]; exact hq.len
  · rw [upd_ne _ _ (by decide)]; exact hq.ver
  · rw [upd_ne _ _ (by decide)]; exact hq.row
  · rw [upd_ne _ _ (by decide)]; exact hq.en
  · rw [upd_same, hq.row, h6, j1 hr]
  obtain ⟨hq, h5⟩ := hq
  have hlk := look_any (p := p + 18) (by simpa [lookOps] using a4) hM hrb hre q hq.one (T ++ [1 + i] ++ lookT cb (ce - cb))
  refine Goes.next (hlk.mono (post2 := fun q' => Rg q' L v r en' ∧ q' 6 = found M rb re (r + found M cb ce (w + cb))) fun q' hq' => ⟨⟨?_, ?_, ?_, ?_, ?_⟩, by rw [hq'.2, h5]⟩) fun q hq => ?_
  · rw [hq'.1 0 (by decide) (by decide) (by decide) (by decide) (by decide)]; exact hq.one
  · rw [hq'.1 1 (by decide) (by decide) (by decide) (by decide) (by decide)]; exact hq.len
  · rw [hq'.1 2 (by decide) (by decide) (by decide) (by decide) (by decide)]; exact hq.ver
  · rw [hq'.1 3 (by decide) (by decide) (by decide) (by decide) (by decide)]; exact hq.row
  · rw [hq'.1 4 (by decide) (by decide) (by decide) (by decide) (by decide)]; exact hq.en
  obtain ⟨hq, h6⟩ := hq
  have hr2 : found M rb re (r + found M cb ce (w + cb)) ≤ 65535 := found_le hM _ _ _
  have hr1 : r ≤ 65535 := by omega
  generalize found M rb re (r + found M cb ce (w + cb)) = r2 at *
  rw [show T ++ ([1 + i] ++ (lookT cb (ce - cb) ++ lookT rb (re - rb))) = T ++ [1 + i] ++ lookT cb (ce - cb) ++ lookT rb (re - rb) by simp [List.append_assoc]]
  generalize T ++ [1 + i] ++ lookT cb (ce - cb) ++ lookT rb (re - rb) = T9
  refine Goes.next (n := 1) (m := 2) (goes_join (k := 4) (post := fun q => Rg q L v r en' ∧ q 6 = r2 ∧ q 10 = r ^^^ r2) (by decide) (by decide) (by decide) e28 ⟨⟨?_, ?_, ?_, ?_, ?_⟩, ?_, ?_⟩) fun q hq => ?_
  · rw [upd_ne _ _ (by decide)]; exact hq.one
  · rw [upd_ne _ _ (by decide)]; exact hq.len
  · rw [upd_ne _ _ (by decide)]; exact hq.ver
  · rw [upd_ne _ _ (by decide)]; exact hq.row
  · rw [upd_ne _ _ (by decide)]; exact hq.en
  · rw [upd_ne _ _ (by decide)]; exact h6
  · rw [upd_same, j4, hq.row, h6]
  obtain ⟨hq, h6, h10⟩ := hq
  refine Goes.next (n := 1) (m := 1) (goes_join (k := 2) (post := fun q => Rg q L v r en' ∧ q 6 = r2 ∧ q 10 = (r ^^^ r2) &&& endW en') (by decide) (by decide) (by decide) e29 ⟨⟨?_, ?_, ?_, ?_, ?_⟩, ?_, ?_⟩) fun q hq => ?_
  · rw [upd_ne _ _ (by decide)]; exact hq.one
  · rw [upd_ne _ _ (by decide)]; exact hq.len
  · rw [upd_ne _ _ (by decide)]; exact hq.ver
  · rw [upd_ne _ _ (by decide)]; exact hq.row
  · rw [upd_ne _ _ (by decide)]; exact hq.en
  · rw [upd_ne _ _ (by decide)]; exact h6
  · rw [upd_same, j2, h10, hq.en]
  obtain ⟨hq, h6, h10⟩ := hq
  refine goes_join (k := 4) (by decide) (by decide) (by decide) e30 ⟨?_, ?_, ?_, ?_, ?_⟩
  · rw [upd_ne _ _ (by decide)]; exact hq.one
  · rw [upd_ne _ _ (by decide)]; exact hq.len
  · rw [upd_ne _ _ (by decide)]; exact hq.ver
  · rw [upd_same, j4, h6, h10, pick_row hr1 hr2]
  · rw [upd_ne _ _ (by decide)]; exact hq.en

end Mc
end Go.Proofs.Ytlafngfoejngaaa
