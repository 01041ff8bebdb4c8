/-
  machine.machine.do at operations that join two registers.
  machine.machine.do and hasAddress at whatever operation.
  machine.Run, veil.Run: what the program answers.
  Runs of code, piece by piece: single operations, and looking a word up among all the words of an area.
-/
import Derived.Test.YtjooemengpeaaaaGreatT00
import Derived.WalkKit
import Derived.Deep.QuietTactic
namespace Go.Proofs.YtjooemengpeaaaaGreat
namespace Mc
open Go.RowKit
attribute [local go_sem ↓] Go.wp_at_zero Go.wp_at_succ
theorem below_drewN {B:Nat} {w w1:World} (h:Below B w w1) (n:Nat):Below B w (w1.drewN n):=⟨h.os,h.tape,h.output,h.size,h.block⟩
end Mc
end Go.Proofs.YtjooemengpeaaaaGreat
namespace Go.Proofs.YtjooemengpeaaaaGreat
namespace Mc
open Go.RowKit
theorem has_any (w:World) (B gm:Nat) (s:MS) (n:Nat) (o:OpI) (h:PM w B gm s) (hs:s.Ok n) (ho:opOk o n=true) :
  Calls Tryz.prog 116 #[.pointer (some ⟨gm,0,none⟩),opV o] w fun e w'=>e=.returned (.bool (stepN o s).isSome)∧Below w.heap.size w w':=by
 by_cases hk:o.k=6∨o.k=7
 ·rw [opOk6 hk] at ho
  obtain ⟨ha,hb⟩:=andT ho
  obtain ⟨k,a,b,c⟩:=o
  simp only at hk ha hb
  obtain ⟨X,rfl,hX⟩:=regA hb
  have e:(stepN ⟨k,a,(X:Int),c⟩ s).isSome=decide (s.R.getD X 0 < 4096):=by
   rcases hk with rfl | rfl
   ·rw [stepN,if_neg (by simp),if_pos rfl]
    show Option.isSome (if s.R.getD X 0 < 4096 then _ else _)=_
    split<;>simp_all
   ·rw [stepN,if_neg (by simp),if_neg (by simp),if_pos rfl]
    show Option.isSome (if s.R.getD X 0 < 4096 then _ else _)=_
    split<;>simp_all
  rw [e]
  exact has_mem w B gm s n k a c hk X hX h hs
 ·have e:(stepN o s).isSome=true:=by
   unfold stepN
   split
   ·rfl
   ·rw [if_neg (fun e=>hk (.inl e)),if_neg (fun e=>hk (.inr e))]
    split
    ·split<;>rfl
    ·rfl
  rw [e]
  exact has_other w gm o (fun e=>hk (.inl e)) (fun e=>hk (.inr e))
end Mc
end Go.Proofs.YtjooemengpeaaaaGreat
namespace Go.Proofs.YtjooemengpeaaaaGreat
namespace Mc
open Go.RowKit
attribute [local go_sem ↓] Go.wp_at_zero Go.wp_at_succ
theorem zvP (w:World):(zeroValue 150).run Tryz.prog w=.ok (.agg zcP) w:=by kernel_rfl
theorem zcP_size:zcP.size=19:=pmC_size (by simp)
theorem zcP_ne:zcP≠#[]:=fun e=>by have:=zcP_size;rw [e] at this;cases this
theorem setRow_alloc2' (w:World) (o:Obj) (A B:Array Value) (t:TypeId):((w.alloc o).alloc (Obj.cells A t)).setRow (w.heap.size+1) B=(w.alloc o).alloc (Obj.cells B t):=by
 have hs:(w.alloc o).heap.size=w.heap.size+1:=by simp
 rw [←hs]
 generalize w.alloc o=W
 simp only [World.setRow,World.alloc]
 congr 1
 apply Array.ext_getElem?
 intro i
 rw [Array.getElem?_modify,Array.getElem?_push,Array.getElem?_push]
 by_cases h:i=W.heap.size
 ·subst h;simp
 ·rw [if_neg (fun e=>h e.symm),if_neg h,if_neg h]
attribute [local go_sem ↓] zvP
attribute [local go_sem] zcP_size zcP_ne
end Mc
end Go.Proofs.YtjooemengpeaaaaGreat
namespace Go.Proofs.YtjooemengpeaaaaGreat
namespace Mc
structure St (s:MS) (g:Nat→Nat) (M:List Nat) (p:Nat) (T:List Nat):Prop where
 len:s.R.length=16
 reg:∀ j,j < 16→s.R.getD j 0=g j
 mem:s.M=M
 pos:s.p=p
 tr:s.T=T
section
variable {cs : List OpI} {n m : Nat} {g : Nat → Nat} {M M' M2 : List Nat} {p p' p2 : Nat} {T T' T2 : List Nat} {post post2 : (Nat → Nat) → Prop}
end
def lookOps (b e p:Nat):List OpI:=[opN 0 7 b 0,opN 0 8 e 0,opN 0 6 0 0,opN 6 9 7 0,opN 5 10 7 5,opN 2 9 9 10,opN 3 6 6 9,opN 1 7 7 0,opN 4 10 7 8,opN 8 10 (p+3) 0]
def Keeps (g g':Nat→Nat):Prop:=∀ j,j≠6→j≠7→j≠8→j≠9→j≠10→g' j=g j
end Mc
end Go.Proofs.YtjooemengpeaaaaGreat
