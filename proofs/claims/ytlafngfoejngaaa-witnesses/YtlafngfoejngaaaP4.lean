/-
  judge.memory: what a secret and the code's data are laid into.
  The code of an image is code, its memory is memory, and what it answers.
-/
import Derived.Test.YtlafngfoejngaaaP3
import Derived.Test.YtlafngfoejngaaaPn
namespace Go.Proofs.Ytlafngfoejngaaa
namespace Mc
open Go.RowKit
attribute [local go_sem ↓] Go.wp_at_zero Go.wp_at_succ

/-- The words ahead of the data, with so many bytes of the secret. -/
def memW (s : ByteArray) : Nat → List Nat
  | 0 => (List.replicate 32 0).set 0 s.size
  | i + 1 => (memW s i).set (1 + i) (bt s i)
theorem memW_len (s : ByteArray) : ∀ i, (memW s i).length = 32
  | 0 => by rw [memW, List.length_set, List.length_replicate]
  | i + 1 => by rw [memW, List.length_set, memW_len s i]
/-- A row of numbers is appended. -/
theorem appR {ops : Array Oper} {rest : List Oper} {o : Oper} {a : Act} {W : World} {Q : Exit → Act → World → Prop} (hgd : o.guard = none) (s x : Operand)
    (ho : o.op = .call { callee := .builtin .append, args := #[s, x], argTypes := #[64, 64] }) (B : Nat) (v : Value) (xs : List Nat) (hs : a.eval s = v) (hown : NR W B v xs) (g0 cap0 B0 : Nat) (ys : List Nat)
    (hx : a.eval x = .slice (some ⟨g0, 0, none⟩) ys.length cap0) (hy : NR W B0 (.slice (some ⟨g0, 0, none⟩) ys.length cap0) ys) (hp : 0 < ys.length) (hlen : xs.length + ys.length ≤ 3000000) (hB : B ≤ W.heap.size) (H : Nat) (hH : W.heap.size = H)
    (h : ∀ g cap w', NR w' B (.slice (some ⟨g, 0, none⟩) (xs.length + ys.length) cap) (xs ++ ys) → W.grownBy w' v.ownBlock → (v.ownBlock = some g ∨ g = H) → g < w'.heap.size → wpList Try.prog ops Q rest (a.put o.dst (.slice (some ⟨g, 0, none⟩) (xs.length + ys.length) cap)) w') : wpList Try.prog ops Q (o :: rest) a W := by
  obtain ⟨i, i0, i1, i2, i3⟩ := info_of infoI
  refine wpList_append_lies W hgd s x 64 ho B 3 i (.int .i64 0) 1 8 Try.underlying64 i0 i1 i2 i3 rfl (by decide) v xs.length (ncs xs) hs hown ⟨g0, 0, none⟩ ys.length cap0 (ncs ys) hx (by rw [ncs_len, Nat.mul_one]) ?_ (ncs_one ys) hp (by unfold maxLen; omega) (by omega) hB H hH ?_
  · intro j u hj
    have hy' : W.ownsRow B0 3 1 (.slice (some ⟨g0, 0, none⟩) ys.length cap0) ys.length (ncs ys) := hy
    exact hy'.cells (g := g0) rfl j u hj
  · intro g cap w' h1 h2 h3 h4
    refine h g cap w' ?_ h2 h3 h4
    unfold NR
    rw [List.length_append, show ncs (xs ++ ys) = ncs xs ++ ncs ys from by unfold ncs; rw [List.map_append]]
    exact h1

end Mc
end Go.Proofs.Ytlafngfoejngaaa
namespace Go.Proofs.Ytlafngfoejngaaa
namespace Mc

section
variable {n : Nat}
theorem look_ok {b e p : Nat} (hb : b ≤ 65535) (he : e ≤ 65535) (hp : p + 10 ≤ n) : (lookOps b e p).all (fun o => opOk o (n : Int)) = true := by
  simp [lookOps, opOk, opN, regOk, wordOk]
  omega
theorem readByte_ok {i cb ce rb re p : Nat} (hi : i ≤ 16) (h1 : cb ≤ 65535) (h2 : ce ≤ 65535) (h3 : rb ≤ 65535) (h4 : re ≤ 65535) (hp : p + 31 ≤ n) : (readByteOps i cb ce rb re p).all (fun o => opOk o (n : Int)) = true := by
  unfold readByteOps
  rw [List.all_append, List.all_append, List.all_append, List.all_append, look_ok h1 h2 (by omega), look_ok h3 h4 (by omega)]
  simp [opOk, opN, regOk, wordOk]
  omega
theorem reads_ok {cb ce rb re p : Nat} (h1 : cb ≤ 65535) (h2 : ce ≤ 65535) (h3 : rb ≤ 65535) (h4 : re ≤ 65535) : ∀ N, N ≤ 16 → p + 31 * N ≤ n → (readsOps cb ce rb re p N).all (fun o => opOk o (n : Int)) = true
  | 0, _, _ => rfl
  | N + 1, hN, hp => by
    rw [readsOps, List.all_append, reads_ok h1 h2 h3 h4 N (by omega) (by omega), readByte_ok (by omega) h1 h2 h3 h4 (by omega)]
    rfl
theorem addMark_ok {rb re p : Nat} (h3 : rb ≤ 65535) (h4 : re ≤ 65535) (hp : p + 12 ≤ n) : (addMarkOps rb re p).all (fun o => opOk o (n : Int)) = true := by
  unfold addMarkOps
  rw [List.all_append, List.all_append, look_ok h3 h4 (by omega)]
  rfl
theorem table_ok {cb rb N p : Nat} {t : TabN} (h1 : cb + 256 ≤ 4096) (h2 : rb + t.S * (t.C + 1) ≤ 4096) (hN : N ≤ 16) (hp : p + (14 + 31 * N) ≤ n) : (tableOps cb rb t N p).all (fun o => opOk o (n : Int)) = true := by
  unfold tableOps
  rw [List.all_append, List.all_append, reads_ok (by omega) (by omega) (by omega) (by omega) N hN (by omega), addMark_ok (by omega) (by omega) (by omega)]
  simp [opOk, opN, regOk, wordOk]
  omega
theorem parts_ok {N : Nat} (hN : N ≤ 16) : ∀ (l : List Pt) (p : Nat), (∀ x ∈ l, x.cb + 256 ≤ 4096 ∧ x.rb + x.t.S * (x.t.C + 1) ≤ 4096) → p + l.length * (14 + 31 * N) ≤ n → (partsOps N p l).all (fun o => opOk o (n : Int)) = true
  | [], _, _, _ => rfl
  | x :: l, p, h, hp => by
    rw [List.length_cons, Nat.add_mul, Nat.one_mul] at hp
    rw [partsOps, List.all_append, table_ok (h x (by simp)).1 (h x (by simp)).2 hN (by omega), parts_ok hN l _ (fun y hy => h y (by simp [hy])) (by omega)]
    rfl
end
theorem code_ok {N : Nat} {l : List Pt} {M : List Nat} {i : Nat} (hN : N ≤ 16) (hl : l.length ≤ 4) (h : PartsOk M i l) : codeB (codeOf 32 N l) = true := by
  have hlen := codeOf_len 32 N l
  have hmul : l.length * (14 + 31 * N) ≤ 4 * (14 + 31 * 16) := Nat.mul_le_mul hl (by omega)
  have h2 : 2 ^ l.length ≤ 2 ^ 4 := Nat.pow_le_pow_right (by decide) hl
  unfold codeB
  rw [Bool.and_eq_true]
  refine ⟨by simp; omega, ?_⟩
  rw [hlen]
  unfold codeOf
  rw [List.all_append, List.all_append, parts_ok hN l 4 (fun x hx => by
    obtain ⟨j, hj⟩ := List.getElem?_of_mem hx
    exact ⟨(h j x hj).ce, (h j x hj).re⟩) (by omega)]
  unfold tailOps headOps
  rw [List.all_append, List.all_append, look_ok (by decide) (by omega) (by omega)]
  simp [opOk, opN, regOk, wordOk]

end Mc
end Go.Proofs.Ytlafngfoejngaaa
