/-
  machine.Run, veil.Run: what the program answers.
  The code that judges a secret: a secret is read by tables, the marks are added, the verdict is looked up.
  judge.writer.readSecret; what is asked of a table: States, Classes, Class, Granted, Next.
  judge.layer: address, classes; table.at, table.Table.Next.
-/
import Derived.Test.YtobfpgoepaeknaaGreatPO00
import Derived.WalkKit
import Derived.Laws.CopyRow
namespace Go.Proofs.YtobfpgoepaeknaaGreat
namespace Mc
open Go.RowKit
attribute [local go_sem ↓] Go.wp_at_zero Go.wp_at_succ
def zcP:Array Value:=pmC (List.replicate 16 0) (.slice none 0 0) (.slice none 0 0) 0
theorem zvP (w:World):(zeroValue 181).run Tryz.prog w=.ok (.agg zcP) w:=by kernel_rfl
theorem zcP_size:zcP.size=19:=pmC_size (by simp)
theorem zcP_ne:zcP≠#[]:=fun e=>by have:=zcP_size;rw [e] at this;cases this
theorem setRow_alloc2' (w:World) (o:Obj) (A B:Array Value) (t:TypeId):((w.alloc o).alloc (Obj.cells A t)).setRow (w.heap.size+1) B=(w.alloc o).alloc (Obj.cells B t):=by
 have hs:(w.alloc o).heap.size=w.heap.size+1:=by simp
 rw [←hs]
 generalize w.alloc o=W
 simp only [World.setRow,World.alloc]
 congr 1
 apply Array.ext_getElem?
 intro i
 rw [Array.getElem?_modify,Array.getElem?_push,Array.getElem?_push]
 by_cases h:i=W.heap.size
 ·subst h;simp
 ·rw [if_neg (fun e=>h e.symm),if_neg h,if_neg h]
attribute [local go_sem ↓] zvP
attribute [local go_sem] zcP_size zcP_ne
end Mc
end Go.Proofs.YtobfpgoepaeknaaGreat
namespace Go.Proofs.YtobfpgoepaeknaaGreat
namespace Mc
structure TabN where
 S:Nat
 C:Nat
 cl:Nat→Nat
 gr:Nat→Bool
 nx:Nat→Nat→Nat
structure TabN.Ok (t:TabN):Prop where
 s1:0 < t.S
 c1:0 < t.C
 s2:t.S≤24
 c2:t.C≤24
 cl:∀ b,b < 256→t.cl b < t.C
 nx:∀ q c,q < t.S→c < t.C→t.nx q c < t.S
end Mc
end Go.Proofs.YtobfpgoepaeknaaGreat
namespace Go.Proofs.YtobfpgoepaeknaaGreat
namespace Mc
open Go.RowKit
attribute [local go_sem ↓] Go.wp_at_zero Go.wp_at_succ
def tbC (cl:Nat→Nat) (C:Nat) (gv nv:Value):Array Value:=(ncs ((List.range 256).map cl)++[.int .i64 (C:Int),gv,nv]).toArray
theorem tbC_cl (cl:Nat→Nat) (C:Nat) (gv nv:Value) {b:Nat} (hb:b < 256):(tbC cl C gv nv)[b]?=some (.int .i64 ((cl b:Nat):Int)):=by
 unfold tbC
 rw [List.getElem?_toArray,List.getElem?_append_left (by rw [ncs_len];simpa using hb),ncs_get _ (by simpa using hb),List.getD_eq_getElem?_getD,List.getElem?_map,List.getElem?_range hb];rfl
theorem tbC_tail (cl:Nat→Nat) (C:Nat) (gv nv:Value) (j:Nat):(tbC cl C gv nv)[256+j]?=[.int .i64 (C:Int),gv,nv][j]?:=by
 unfold tbC
 rw [List.getElem?_toArray,List.getElem?_append_right (by rw [ncs_len];simp),ncs_len,List.length_map,List.length_range,Nat.add_sub_cancel_left]
def bcs (bs:List Bool):List Value:=bs.map fun b=>.bool b
def BR (w:World) (B:Nat) (v:Value) (bs:List Bool):Prop:=w.ownsRow B 4 1 v bs.length (bcs bs)
theorem BR.form {w:World} {B:Nat} {v:Value} {xs:List Bool} (h:BR w B v xs):(∃ a c,v=.slice a xs.length c):=by
 rcases h.2 with ⟨rfl,h0⟩ | ⟨g,cap,cur,rfl,_⟩
 ·exact ⟨none,0,by rw [h0]⟩
 ·exact ⟨_,_,rfl⟩
theorem row_keep {w w':World} {B e z:Nat} (hb:Below B w w') {v:Value} {n:Nat} {xs:List Value} (h:w.ownsRow 0 e z v n xs) (hq:∀ q,v.ownBlock=some q→q < B):w'.ownsRow 0 e z v n xs:=by
 refine ⟨h.1,?_⟩
 rcases h.2 with hl | ⟨g,cap,cur,rfl,h1,hg,rest⟩
 ·exact .inl hl
 ·exact .inr ⟨g,cap,cur,rfl,h1,(hb.block g (hq g rfl)).trans hg,rest⟩
end Mc
end Go.Proofs.YtobfpgoepaeknaaGreat
namespace Go.Proofs.YtobfpgoepaeknaaGreat
namespace Mc
open Go.RowKit
attribute [local go_sem ↓] Go.wp_at_zero Go.wp_at_succ
theorem u8_wrap (b:Nat) (h:b < 256):IntKind.u8.wrap (b:Int)=(b:Int):=by
 unfold IntKind.wrap
 simp only [IntKind.bits,IntKind.signed]
 have h1:(b:Int) % (2 ^ 8:Int)=b:=Int.emod_eq_of_lt (by omega) (by omega)
 simp only [h1]
 simp
end Mc
end Go.Proofs.YtobfpgoepaeknaaGreat
