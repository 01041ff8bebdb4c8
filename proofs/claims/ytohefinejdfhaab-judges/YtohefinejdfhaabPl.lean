/-
  judge.Code: the code of an image and its data.
-/
import Derived.Test.YtohefinejdfhaabPk
namespace Go.Proofs.Ytohefinejdfhaab
namespace Mc
open Go.RowKit

theorem own_keep {w w' : World} {B e z : Nat} {v : Value} {n : Nat} {xs : List Value} (h : w.ownsRow B e z v n xs) (hk : ∀ (k : Nat) (cs : Array Value) (fr : Nat × Nat), w.heap[k]? = some (Obj.cells cs e fr) → w'.heap[k]? = some (Obj.cells cs e fr)) : w'.ownsRow B e z v n xs := by
  refine ⟨h.1, ?_⟩
  rcases h.2 with hl | ⟨g, cap, cur, rfl, h1, hg, rest⟩
  · exact .inl hl
  · exact .inr ⟨g, cap, cur, rfl, h1, hk _ _ _ hg, rest⟩
theorem WB.presL {w w' : World} {B gw : Nat} {os : List OpI} (h : WB w B gw os) (hp : PresL B w w') : WB w' B gw os := by
  obtain ⟨v, h1, h2⟩ := h.ex
  exact ⟨h.hB, v, hp.keep _ _ _ _ h1 (by decide) (by decide), own_keep h2 (fun k cs fr hk => hp.keep k cs _ fr hk (by decide) (by decide))⟩
theorem LB.presW {w w' : World} {B gl : Nat} {ds : List Nat} (h : LB w B gl ds) (hp : PresW B w w') : LB w' B gl ds := by
  obtain ⟨v, h⟩ := h
  exact ⟨v, h.hB, hp.keep _ _ _ _ h.heap (by decide) (by decide), own_keep h.row (fun k cs fr hk => hp.keep k cs _ fr hk (by decide) (by decide))⟩

/-- What the making of the code leaves as it was. -/
structure PresC (B : Nat) (w w' : World) : Prop where
  below : Below B w w'
  keep : ∀ (k : Nat) (cs : Array Value) (ty : TypeId) (fr : Nat × Nat), w.heap[k]? = some (.cells cs ty fr) → (ty = 131 ∨ ty = 78) → w'.heap[k]? = some (.cells cs ty fr)
theorem PresC.refl (B : Nat) (w : World) : PresC B w w := ⟨Below.refl _ _, fun _ _ _ _ h _ => h⟩
theorem PresC.trans {B : Nat} {a b c : World} (h : PresC B a b) (k : PresC B b c) : PresC B a c := ⟨h.below.trans k.below, fun q cs ty fr h1 h2 => k.keep q cs ty fr (h.keep q cs ty fr h1 h2) h2⟩
theorem PresW.c {B : Nat} {w w' : World} (h : PresW B w w') : PresC B w w' := ⟨h.below, fun k cs ty fr hk ht => h.keep k cs ty fr hk (by rcases ht with rfl | rfl <;> decide) (by rcases ht with rfl | rfl <;> decide)⟩
theorem PresL.c {B : Nat} {w w' : World} (h : PresL B w w') : PresC B w w' := ⟨h.below, fun k cs ty fr hk ht => h.keep k cs ty fr hk (by rcases ht with rfl | rfl <;> decide) (by rcases ht with rfl | rfl <;> decide)⟩

/-- The maker's state: the writer, the layer, and all else as it was. -/
structure CS (B : Nat) (w wr : World) (gw gl : Nat) (os : List OpI) (ds : List Nat) : Prop where
  below : Below B w wr
  wb : WB wr B gw os
  lb : LB wr B gl ds
section
variable {B : Nat} {w wr w' : World} {gw gl : Nat} {os os' : List OpI} {ds ds' : List Nat}
theorem CS.size (h : CS B w wr gw gl os ds) : B ≤ wr.heap.size := by have := h.wb.lt; have := h.wb.hB; omega
theorem CS.pw (h : CS B w wr gw gl os ds) (hp : PresW B wr w') (hw : WB w' B gw os') : CS B w w' gw gl os' ds := ⟨h.below.trans hp.below, hw, h.lb.presW hp⟩
theorem CS.pl (h : CS B w wr gw gl os ds) (hp : PresL B wr w') (hl : LB w' B gl ds') : CS B w w' gw gl os ds' := ⟨h.below.trans hp.below, h.wb.presL hp, hl⟩
theorem CS.bel (h : CS B w wr gw gl os ds) (hb : Below wr.heap.size wr w') : CS B w w' gw gl os ds := by
  have hp := PresL.ofBelow (B := B) hb h.size
  obtain ⟨v, hx⟩ := h.lb
  exact ⟨h.below.trans hp.below, h.wb.presL hp, v, hx.below hb⟩
theorem CS.alloc (h : CS B w wr gw gl os ds) (o : Obj) : CS B w (wr.alloc o) gw gl os ds := h.bel ((Below.refl _ _).alloc (Nat.le_refl _) _)
theorem CS.drewN (h : CS B w wr gw gl os ds) (n : Nat) : CS B w (wr.drewN n) gw gl os ds := by
  obtain ⟨v, hx⟩ := h.lb
  obtain ⟨v', h1, h2⟩ := h.wb.ex
  exact ⟨⟨h.below.os, h.below.tape, h.below.output, h.below.size, h.below.block⟩, ⟨h.wb.hB, v', h1, h2⟩, v, hx.drewN n⟩
end
theorem PresC.ofBelow {B : Nat} {w w' : World} (h : Below w.heap.size w w') (hB : B ≤ w.heap.size) : PresC B w w' := (PresL.ofBelow h hB).c

/-- The data and the parts of an image's code. -/
def layD (f : ByteArray) (m : Nat) (ts : Nat → TabN) : Nat → List Nat
  | 0 => verdW f m (2 ^ m)
  | i + 1 => layD f m ts i ++ clsW (ts i) 256 ++ rowsW (ts i) (32 + (layD f m ts i ++ clsW (ts i) 256).length) (2 ^ i) (ts i).S
def layP (f : ByteArray) (m : Nat) (ts : Nat → TabN) : Nat → List Pt
  | 0 => []
  | i + 1 => layP f m ts i ++ [⟨32 + (layD f m ts i).length, 32 + (layD f m ts i).length + 256, ts i⟩]
theorem layP_len (f : ByteArray) (m : Nat) (ts : Nat → TabN) : ∀ i, (layP f m ts i).length = i
  | 0 => rfl
  | i + 1 => by rw [layP, List.length_append, layP_len f m ts i]; rfl
theorem partsOps_snoc (N : Nat) (x : Pt) : ∀ (l : List Pt) (p : Nat), partsOps N p (l ++ [x]) = partsOps N p l ++ tableOps x.cb x.rb x.t N (p + l.length * (14 + 31 * N))
  | [], p => by simp [partsOps]
  | y :: l, p => by
    rw [List.cons_append, partsOps, partsOps, partsOps_snoc N x l, List.append_assoc, List.length_cons, Nat.add_mul, Nat.one_mul, show p + (14 + 31 * N) + l.length * (14 + 31 * N) = p + (l.length * (14 + 31 * N) + (14 + 31 * N)) by omega]
def layO (f : ByteArray) (m N : Nat) (ts : Nat → TabN) (i : Nat) : List OpI := headOps 32 ++ partsOps N 4 (layP f m ts i)
theorem layO_len (f : ByteArray) (m N : Nat) (ts : Nat → TabN) (i : Nat) : (layO f m N ts i).length = 4 + i * (14 + 31 * N) := by
  unfold layO; rw [List.length_append, partsOps_len, layP_len]; rfl
theorem layO_succ (f : ByteArray) (m N : Nat) (ts : Nat → TabN) (i : Nat) : layO f m N ts (i + 1) = layO f m N ts i ++ tableOps (32 + (layD f m ts i).length) (32 + (layD f m ts i).length + 256) (ts i) N (layO f m N ts i).length := by
  rw [layO_len]
  unfold layO
  rw [layP, partsOps_snoc, layP_len, List.append_assoc]
theorem table_steps (os : List OpI) (cb rb N : Nat) (t : TabN) : (os ++ [(⟨0, 3, (rb : Int), 0⟩ : OpI), ⟨0, 4, 0, 0⟩] ++ readsOps cb (cb + 256) rb (rb + t.S * (1 + t.C)) (os.length + 2) N) ++ addMarkOps rb (rb + t.S * (1 + t.C)) (os ++ [(⟨0, 3, (rb : Int), 0⟩ : OpI), ⟨0, 4, 0, 0⟩] ++ readsOps cb (cb + 256) rb (rb + t.S * (1 + t.C)) (os.length + 2) N).length = os ++ tableOps cb rb t N os.length := by
  rw [List.length_append, List.length_append, readsOps_len, Nat.add_comm 1 t.C]
  unfold tableOps
  simp only [List.append_assoc, List.length_cons, List.length_nil]
  rfl
theorem layD_len (f : ByteArray) (m : Nat) (ts : Nat → TabN) (h : ∀ i, i < m → (ts i).Ok) (hm : m ≤ 4) : ∀ i, i ≤ m → (layD f m ts i).length ≤ 16 + i * 856
  | 0, _ => by
    rw [layD, verdW_len]
    have : 2 ^ m ≤ 2 ^ 4 := Nat.pow_le_pow_right (by decide) hm
    omega
  | i + 1, hi => by
    have ih := layD_len f m ts h hm i (by omega)
    have ho := h i (by omega)
    have h1 : (ts i).S * (1 + (ts i).C) ≤ 24 * 25 := Nat.mul_le_mul ho.s2 (by have := ho.c2; omega)
    rw [layD, List.length_append, List.length_append, clsW_len, rowsW_len]
    omega

end Mc
end Go.Proofs.Ytohefinejdfhaab
