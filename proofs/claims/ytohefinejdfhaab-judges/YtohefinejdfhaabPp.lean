/-
  The code of an image is code, its memory is memory, and what it answers.
-/
import Derived.Test.YtohefinejdfhaabPo
namespace Go.Proofs.Ytohefinejdfhaab
namespace Mc

section
variable {n : Nat}
theorem look_ok {b e p : Nat} (hb : b ≤ 65535) (he : e ≤ 65535) (hp : p + 10 ≤ n) : (lookOps b e p).all (fun o => opOk o (n : Int)) = true := by
  simp [lookOps, opOk, opN, regOk, wordOk]
  omega
theorem readByte_ok {i cb ce rb re p : Nat} (hi : i ≤ 16) (h1 : cb ≤ 65535) (h2 : ce ≤ 65535) (h3 : rb ≤ 65535) (h4 : re ≤ 65535) (hp : p + 31 ≤ n) : (readByteOps i cb ce rb re p).all (fun o => opOk o (n : Int)) = true := by
  unfold readByteOps
  rw [List.all_append, List.all_append, List.all_append, List.all_append, look_ok h1 h2 (by omega), look_ok h3 h4 (by omega)]
  simp [opOk, opN, regOk, wordOk]
  omega
theorem reads_ok {cb ce rb re p : Nat} (h1 : cb ≤ 65535) (h2 : ce ≤ 65535) (h3 : rb ≤ 65535) (h4 : re ≤ 65535) : ∀ N, N ≤ 16 → p + 31 * N ≤ n → (readsOps cb ce rb re p N).all (fun o => opOk o (n : Int)) = true
  | 0, _, _ => rfl
  | N + 1, hN, hp => by
    rw [readsOps, List.all_append, reads_ok h1 h2 h3 h4 N (by omega) (by omega), readByte_ok (by omega) h1 h2 h3 h4 (by omega)]
    rfl
theorem addMark_ok {rb re p : Nat} (h3 : rb ≤ 65535) (h4 : re ≤ 65535) (hp : p + 12 ≤ n) : (addMarkOps rb re p).all (fun o => opOk o (n : Int)) = true := by
  unfold addMarkOps
  rw [List.all_append, List.all_append, look_ok h3 h4 (by omega)]
  rfl
theorem table_ok {cb rb N p : Nat} {t : TabN} (h1 : cb + 256 ≤ 4096) (h2 : rb + t.S * (t.C + 1) ≤ 4096) (hN : N ≤ 16) (hp : p + (14 + 31 * N) ≤ n) : (tableOps cb rb t N p).all (fun o => opOk o (n : Int)) = true := by
  unfold tableOps
  rw [List.all_append, List.all_append, reads_ok (by omega) (by omega) (by omega) (by omega) N hN (by omega), addMark_ok (by omega) (by omega) (by omega)]
  simp [opOk, opN, regOk, wordOk]
  omega
theorem parts_ok {N : Nat} (hN : N ≤ 16) : ∀ (l : List Pt) (p : Nat), (∀ x ∈ l, x.cb + 256 ≤ 4096 ∧ x.rb + x.t.S * (x.t.C + 1) ≤ 4096) → p + l.length * (14 + 31 * N) ≤ n → (partsOps N p l).all (fun o => opOk o (n : Int)) = true
  | [], _, _, _ => rfl
  | x :: l, p, h, hp => by
    rw [List.length_cons, Nat.add_mul, Nat.one_mul] at hp
    rw [partsOps, List.all_append, table_ok (h x (by simp)).1 (h x (by simp)).2 hN (by omega), parts_ok hN l _ (fun y hy => h y (by simp [hy])) (by omega)]
    rfl
end
theorem code_ok {N : Nat} {l : List Pt} {M : List Nat} {i : Nat} (hN : N ≤ 16) (hl : l.length ≤ 4) (h : PartsOk M i l) : codeB (codeOf 32 N l) = true := by
  have hlen := codeOf_len 32 N l
  have hmul : l.length * (14 + 31 * N) ≤ 4 * (14 + 31 * 16) := Nat.mul_le_mul hl (by omega)
  have h2 : 2 ^ l.length ≤ 2 ^ 4 := Nat.pow_le_pow_right (by decide) hl
  unfold codeB
  rw [Bool.and_eq_true]
  refine ⟨by simp; omega, ?_⟩
  rw [hlen]
  unfold codeOf
  rw [List.all_append, List.all_append, parts_ok hN l 4 (fun x hx => by
    obtain ⟨j, hj⟩ := List.getElem?_of_mem hx
    exact ⟨(h j x hj).ce, (h j x hj).re⟩) (by omega)]
  unfold tailOps headOps
  rw [List.all_append, List.all_append, look_ok (by decide) (by omega) (by omega)]
  simp [opOk, opN, regOk, wordOk]

end Mc
end Go.Proofs.Ytohefinejdfhaab
