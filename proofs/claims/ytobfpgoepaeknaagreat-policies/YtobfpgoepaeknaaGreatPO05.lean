/-
  Sets of bytes: arrays of 256 bools, by value.
  The reader of patterns: an item of a set, a whole set.
  The reader of patterns: a whole set.
  The reader of patterns: a node is laid behind the others.
-/
import Derived.Test.YtobfpgoepaeknaaGreatPO04
import Derived.Deep.LoopGhost
import Derived.Deep.RegionLaw
namespace Go.Proofs.YtobfpgoepaeknaaGreat
open Go.RowKit
def setA (f:Nat→Bool):Array Value:=Array.ofFn (n:=256) fun i=>.bool (f i.val)
def addTo (f:Nat→Bool) (lo hi:Int) (k:Nat):Nat→Bool:=fun j=>f j || (decide (j < k) && (decide (lo≤(j:Int)) && decide ((j:Int)≤hi)))
def notTo (f:Nat→Bool) (k:Nat):Nat→Bool:=fun j=>if j < k then !f j else f j
theorem size_setA (f:Nat→Bool):(setA f).size=256:=by simp [setA]
def zcS:Array Value:=setA fun _=>false
theorem zero84:zcS=setA (fun _=>false):=rfl
theorem zcS_size:zcS.size=256:=size_setA _
theorem zcS_ne:zcS≠#[]:=fun e=>by have:=zcS_size;rw [e] at this;simp at this
theorem zvS (w:World):(zeroValue 132).run Tryz.prog w=.ok (.agg zcS) w:=by kernel_rfl
attribute [local go_sem ↓] zvS
attribute [local go_sem] zcS_size zcS_ne
theorem get_setA (f:Nat→Bool) (k:Nat) (h:k < 256):(setA f)[k]?=some (.bool (f k)):=by simp [setA,h]
theorem setA_congr {f g:Nat→Bool} (h:∀ j,j < 256→f j=g j):setA f=setA g:=by
 unfold setA
 congr 1
 funext i
 rw [h i.val i.isLt]
theorem setA_one (f:Nat→Bool):(setA f).all (·.oneCell')=true:=by
 rw [Array.all_eq_true]
 intro i hi
 simp [setA,Value.oneCell']
theorem setA_set (f:Nat→Bool) (k:Nat) (v:Bool):(setA f).setIfInBounds k (.bool v)=setA (fun j=>if j=k then v else f j):=by
 apply Array.ext_getElem?
 intro i
 rw [Array.getElem?_setIfInBounds]
 by_cases hi:i < 256
 ·rw [get_setA (fun j=>if j=k then v else f j) i hi]
  by_cases hk:k=i
  ·subst hk;simp [size_setA,hi]
  ·rw [if_neg hk,get_setA f i hi];simp [show ¬i=k from fun e=>hk e.symm]
 ·have h1:(setA f)[i]?=none:=by rw [Array.getElem?_eq_none];simp [size_setA];omega
  have h2:(setA (fun j=>if j=k then v else f j))[i]?=none:=by rw [Array.getElem?_eq_none];simp [size_setA];omega
  rw [h1,h2]
  split
  ·rw [if_neg (by simp [size_setA];omega)]
  ·rfl
theorem addTo_yes (f:Nat→Bool) (lo hi:Int) (k:Nat) (h1:lo≤(k:Int)) (h2:(k:Int)≤hi):(setA (addTo f lo hi k)).setIfInBounds k (.bool true)=setA (addTo f lo hi (k+1)):=by
 rw [setA_set]
 apply setA_congr
 intro j _
 unfold addTo
 by_cases hj:j=k
 ·subst hj;simp [h1,h2]
 ·simp [hj,show (j < k+1)=(j < k) from propext ⟨fun _=>by omega,fun _=>by omega⟩]
theorem addTo_no (f:Nat→Bool) (lo hi:Int) (k:Nat) (h:¬(lo≤(k:Int)∧(k:Int)≤hi)):setA (addTo f lo hi k)=setA (addTo f lo hi (k+1)):=by
 apply setA_congr
 intro j _
 unfold addTo
 by_cases hj:j=k
 ·subst hj
  have:(decide (lo≤(j:Int)) && decide ((j:Int)≤hi))=false:=by simp;omega
  simp [this]
 ·simp [show (j < k+1)=(j < k) from propext ⟨fun _=>by omega,fun _=>by omega⟩]
theorem addTo_zero (f:Nat→Bool) (lo hi:Int):setA f=setA (addTo f lo hi 0):=by
 apply setA_congr;intro j _;simp [addTo]
theorem addTo_all (f:Nat→Bool) (lo hi:Int):setA (addTo f lo hi 256)=setA (addR f lo hi):=by
 apply setA_congr;intro j hj;simp [addTo,addR,hj]
theorem notTo_zero (f:Nat→Bool):setA f=setA (notTo f 0):=by
 apply setA_congr;intro j _;simp [notTo]
theorem notTo_all (f:Nat→Bool):setA (notTo f 256)=setA (fun j=>!f j):=by
 apply setA_congr;intro j hj;simp [notTo,hj]
theorem notTo_step (f:Nat→Bool) (k:Nat):(setA (notTo f k)).setIfInBounds k (.bool !(f k))=setA (notTo f (k+1)):=by
 rw [setA_set]
 apply setA_congr
 intro j _
 unfold notTo
 by_cases hj:j=k
 ·subst hj;simp
 ·simp [hj,show (j < k+1)=(j < k) from propext ⟨fun _=>by omega,fun _=>by omega⟩]
def left256 (i:Value):Nat:=256 - (intOf i).toNat
theorem below_setRow {B g:Nat} {a w:World} (h:Below B a w) (hg:B≤g) (cs:Array Value):Below B a (w.setRow g cs) :=
 h.trans ⟨rfl,rfl,rfl,by simp,fun k hk=>setRow_other w g k cs (by omega)⟩
theorem wpList_store_row0 {P:Program} {ops:Array Oper} {rest:List Oper} {o:Oper} {a:Act} {w:World} {Q:Exit→Act→World→Prop} (hgd:o.guard=none) (ty:TypeId) (x y:Operand) (ho:o.op=.store ty x y) (hd:o.dst=none)
  (g:Nat) (cells:Array Value) (hx:a.eval x=.pointer (some ⟨g,0,none⟩)) (hy:a.eval y=.agg cells)
  (t:TypeId) (old:Array Value) (hg:w.heap[g]?=some (.cells old t (0,0))) (hi:(P.info? ty).map (·.size)=some cells.size)
  (hold:old.size=cells.size) (h1:cells.all (·.oneCell')=true)
  (h:wpList P ops Q rest a (w.setRow g cells)):wpList P ops Q (o ::rest) a w :=
 wpList_store_row hgd ty x y ho g cells hx hy t old hg hi hold h1 (by rw [hd];exact h)
set_option maxHeartbeats 400000 in
theorem addRange_any (w:World) (f:Nat→Bool) (lo hi:Int)  :
  Calls Tryz.prog 169 #[.agg (setA f),.int .i64 lo,.int .i64 hi] w fun e w' =>
   e=.returned (.agg (setA (addR f lo hi)))∧Below w.heap.size w w':=by
 go_enter Tryz.func169,Tryz.ntmps169
 go_wp2
 go_loopw [7] (fun i wr=>∃ k:Nat,k≤256∧i=.int .i64 k∧Below w.heap.size w wr∧wr.heap[w.heap.size]?=some (Obj.cells (setA (addTo f lo hi k)) 132 (0,0))∧wr.heap[w.heap.size+1]?=some (Obj.cells (setA fun _=>false) 132 (0,0))) (fun i _=>left256 i)
 case atStart=>exact ⟨0,by omega,rfl,(((Below.refl _ _).alloc (Nat.le_refl _) _).alloc (by simp) _),by rw [←addTo_zero];exact heap_alloc2_old _ _ _,by rw [←zero84];exact heap_alloc2_new _ _ _⟩
 case round =>
  rename_i wr
  obtain ⟨k,hk,rfl,hb,hs,hz⟩:=hrel
  have HB:=hide hb
  have HS:=hide hs
  have HZ:=hide hz
  by_cases hlt:k < 256
  ·have hc:wr.cell? ⟨w.heap.size,k,none⟩=some (.bool (addTo f lo hi k k)):=by rw [cell_of_row _ _ _ _ _ _ hs,get_setA _ _ hlt]
   have hf:wr.frozen? ⟨w.heap.size,k,none⟩=false:=frozen_of_row _ _ _ _ _ hs
   clear hb hs hz hk
   have hlt':(k:Int) < 256:=by omega
   have HL:=hide hlt
   clear hlt
   generalize hv:addTo f lo hi k k=v0 at hc
   clear hv
   by_cases h1:lo≤(k:Int)
   ·by_cases h2:(k:Int)≤hi
    ·go_wp2
     go_roundw
     case rel=>exact ⟨k+1,by have:=unhide HL;omega,by go_num,(unhide HB).setCell (Nat.le_refl _) _,by rw [←addTo_yes f lo hi k h1 h2,heap_setCell_same _ _ _ _ _ _ (unhide HS)],by rw [heap_setCell_other _ _ _ _ (by simp)];exact unhide HZ⟩
     case measure=>have:=unhide HL;simp [left256,intOf];omega
    ·go_wp2
     go_roundw
     case rel=>exact ⟨k+1,by have:=unhide HL;omega,by go_num,unhide HB,by rw [←addTo_no f lo hi k (by omega)];exact unhide HS,unhide HZ⟩
     case measure=>have:=unhide HL;simp [left256,intOf];omega
   ·go_wp2
    go_roundw
    case rel=>exact ⟨k+1,by have:=unhide HL;omega,by go_num,unhide HB,by rw [←addTo_no f lo hi k (by omega)];exact unhide HS,unhide HZ⟩
    case measure=>have:=unhide HL;simp [left256,intOf];omega
  ·have hk2:k=256:=by omega
   subst hk2
   clear hb hs hz
   go_wp2_with (first
    | refine wpList_load_row rfl 132 _ rfl w.heap.size rfl 132 _ (0,0) _ (unhide HS) Tryz.underlying132 rfl (by rw [size_setA];kernel_rfl) ?_
    | refine wpList_store_row rfl 132 _ _ rfl (w.heap.size+1) _ rfl rfl 132 _ (unhide HZ) (by rw [size_setA];kernel_rfl) (by rw [size_setA,size_setA]) (setA_one _) ?_)
   exact bodyPost_ret (v:=.agg (setA (addTo f lo hi 256)))
    (results_cell_row (p:=6) (ty:=132) rfl _ _ (w.heap.size+1) 132 _ (0,0) _ rfl (setRow_heap _ _ _ _ _ _ (unhide HZ)) Tryz.underlying132 rfl (by rw [size_setA];kernel_rfl))
    rfl ⟨by rw [addTo_all],below_setRow (unhide HB) (by omega) _⟩
set_option maxHeartbeats 400000 in
theorem complement_any (w:World) (f:Nat→Bool) :
  Calls Tryz.prog 167 #[.agg (setA f)] w fun e w' =>
   e=.returned (.agg (setA fun j=>!f j))∧Below w.heap.size w w':=by
 go_enter Tryz.func167,Tryz.ntmps167
 go_wp2
 go_loopw [3] (fun i wr=>∃ k:Nat,k≤256∧i=.int .i64 k∧Below w.heap.size w wr∧wr.heap[w.heap.size]?=some (Obj.cells (setA (notTo f k)) 132 (0,0))∧wr.heap[w.heap.size+1]?=some (Obj.cells (setA fun _=>false) 132 (0,0))) (fun i _=>left256 i)
 case atStart=>exact ⟨0,by omega,rfl,(((Below.refl _ _).alloc (Nat.le_refl _) _).alloc (by simp) _),by rw [←notTo_zero];exact heap_alloc2_old _ _ _,by rw [←zero84];exact heap_alloc2_new _ _ _⟩
 case round =>
  rename_i wr
  obtain ⟨k,hk,rfl,hb,hs,hz⟩:=hrel
  have HB:=hide hb
  have HS:=hide hs
  have HZ:=hide hz
  by_cases hlt:k < 256
  ·have hc:wr.cell? ⟨w.heap.size,k,none⟩=some (.bool (f k)):=by rw [cell_of_row _ _ _ _ _ _ hs,get_setA _ _ hlt];simp [notTo]
   have hf:wr.frozen? ⟨w.heap.size,k,none⟩=false:=frozen_of_row _ _ _ _ _ hs
   clear hb hs hz hk
   have hlt':(k:Int) < 256:=by omega
   have HL:=hide hlt
   clear hlt
   go_wp2
   go_roundw
   case rel=>exact ⟨k+1,by have:=unhide HL;omega,by go_num,(unhide HB).setCell (Nat.le_refl _) _,by rw [←notTo_step f k,heap_setCell_same _ _ _ _ _ _ (unhide HS)],by rw [heap_setCell_other _ _ _ _ (by simp)];exact unhide HZ⟩
   case measure=>have:=unhide HL;simp [left256,intOf];omega
  ·have hk2:k=256:=by omega
   subst hk2
   clear hb hs hz
   go_wp2_with (first
    | refine wpList_load_row rfl 132 _ rfl w.heap.size rfl 132 _ (0,0) _ (unhide HS) Tryz.underlying132 rfl (by rw [size_setA];kernel_rfl) ?_
    | refine wpList_store_row rfl 132 _ _ rfl (w.heap.size+1) _ rfl rfl 132 _ (unhide HZ) (by rw [size_setA];kernel_rfl) (by rw [size_setA,size_setA]) (setA_one _) ?_)
   exact bodyPost_ret (v:=.agg (setA (notTo f 256)))
    (results_cell_row (p:=2) (ty:=132) rfl _ _ (w.heap.size+1) 132 _ (0,0) _ rfl (setRow_heap _ _ _ _ _ _ (unhide HZ)) Tryz.underlying132 rfl (by rw [size_setA];kernel_rfl))
    rfl ⟨by rw [notTo_all],below_setRow (unhide HB) (by omega) _⟩
end Go.Proofs.YtobfpgoepaeknaaGreat
namespace Go.Proofs.YtobfpgoepaeknaaGreat
open Go.RowKit
attribute [local go_sem ↓] zvS
attribute [local go_sem] zcS_size zcS_ne
theorem grownBy_of_below {w w':World} (h:Below w.heap.size w w') (r:Option Nat):w.grownBy w' r :=
 ⟨h.os,h.tape,h.output,h.size,fun k hk _=>h.block k hk⟩
theorem grownBy_setRow {w w1:World} {r:Option Nat} (h:w.grownBy w1 r) {g:Nat} (hg:w.heap.size≤g) (cs:Array Value):w.grownBy (w1.setRow g cs) r :=
 ⟨h.os,h.tape,h.output,by simpa using h.size,fun k hk hr=>by rw [setRow_other w1 g k cs (by omega)];exact h.block k hk hr⟩
section
variable {w w' : World} {b : Nat} {t : ByteArray} {s : S1} {nv sv : Value}
theorem Post1.alloc (h:Post1 w w' b t s nv sv) (o:Obj):Post1 w (w'.alloc o) b t s nv sv :=
 ⟨grownBy_alloc h.1 o,by unfold Rd1;rw [Below.heap_alloc _ _ _ h.2.lt];exact h.2⟩
theorem Post1.below {w2:World} (h:Post1 w w' b t s nv sv) (k:Below w'.heap.size w' w2):Post1 w w2 b t s nv sv :=
 ⟨grownBy_trans h.1 (grownBy_of_below k _),by unfold Rd1;rw [k.block _ h.2.lt];exact h.2⟩
theorem Post1.setRow (h:Post1 w w' b t s nv sv) (hb:b < w.heap.size) {g:Nat} (hg:w.heap.size≤g) (cs:Array Value):Post1 w (w'.setRow g cs) b t s nv sv :=
 ⟨grownBy_setRow h.1 hg cs,by unfold Rd1;rw [setRow_other _ _ _ _ (by omega)];exact h.2⟩
theorem Post1.other (h:Post1 w w' b t s nv sv) {g:Nat} {o:Obj} (hg:w.heap[g]?=some o) (hne:g≠b):w'.heap[g]?=some o:=by
 rw [h.1.block g (Array.getElem?_eq_some_iff.1 hg).1 (by simpa using hne)];exact hg
end
set_option maxHeartbeats 400000 in
theorem readItem_any (w:World) (b:Nat) (t:ByteArray) (s:S1) (nv sv:Value) (f:Nat→Bool) (h:Rd1 w b t s nv sv)
  (ht:t.size≤60) (hk:s.k≤t.size) :
  Calls Tryz.prog 173 #[.pointer (some ⟨b,0,none⟩),.agg (setA f)] w fun e w' =>
   e=.returned (.agg (setA (addR f (readItemS t s).1.1 (readItemS t s).1.2)))∧Post1 w w' b t (readItemS t s).2 nv sv:=by
 have hbl:=h.lt
 have P0:Post1 w ((w.alloc (Obj.cells (setA f) 132)).alloc (Obj.cells zcS 132)) b t s nv sv:=((Post1.refl h).alloc _).alloc _
 have HS0:=hide (heap_alloc2_old w (Obj.cells (setA f) 132) (Obj.cells zcS 132))
 have HZ0:=hide (heap_alloc2_new w (Obj.cells (setA f) 132) (Obj.cells zcS 132))
 have hk1:=readSetByteS_le (t:=t) (s:=s) hk
 go_enter Tryz.func173,Tryz.ntmps173
 go_wp2_with fail
 refine (readSetByte_any _ b t s nv sv P0.2 ht hk).mono ?_
 rintro e w1 ⟨rfl,hw1⟩
 have P1:=P0.trans hw1
 have HS1:=hide (hw1.other (unhide HS0) (by omega))
 have HZ1:=hide (hw1.other (unhide HZ0) (by omega))
 generalize hr1:readSetByteS t s=r1 at *
 obtain ⟨lo,s1⟩:=r1
 have Hr1:=hide hr1
 clear hr1 HS0 HZ0 P0 hw1
 simp only at hk1 P1
 go_wp2_with fail
 refine (take_any _ b t s1 nv sv 45 P1.2 ht hk1).mono ?_
 rintro e w2 ⟨rfl,hw2⟩
 have P2:=P1.trans hw2
 have HS2:=hide (hw2.other (unhide HS1) (by omega))
 have HZ2:=hide (hw2.other (unhide HZ1) (by omega))
 clear HS1 HZ1 P1 hw2
 by_cases hc:(s1.pk t == 45)=true
 ·have hk2:=takeS_le (t:=t) (c:=45) (s:=s1) (by omega) hk1
  have hk3:=readSetByteS_le (t:=t) (s:=takeS t 45 s1) hk2
  have HC:=hide hc
  generalize hs2:takeS t 45 s1=s2 at *
  have Hs2:=hide hs2
  clear hs2
  go_wp2_with fail
  refine (readSetByte_any _ b t s2 nv sv P2.2 ht hk2).mono ?_
  rintro e w3 ⟨rfl,hw3⟩
  have P3:=P2.trans hw3
  have HS3:=hide (hw3.other (unhide HS2) (by omega))
  have HZ3:=hide (hw3.other (unhide HZ2) (by omega))
  generalize hr3:readSetByteS t s2=r3 at *
  obtain ⟨hi,s3⟩:=r3
  have Hr3:=hide hr3
  clear hr3 HS2 HZ2 P2 hw3
  simp only at hk3 P3
  go_wp2_with (refine wpList_load_row rfl 132 _ rfl w.heap.size rfl 132 _ (0,0) _ (unhide HS3) Tryz.underlying132 rfl (by rw [size_setA];kernel_rfl) ?_)
  refine (addRange_any _ f lo hi).mono ?_
  rintro e w4 ⟨rfl,hw4⟩
  have P4:=P3.below hw4
  have HZ4:=hide ((hw4.block _ (Array.getElem?_eq_some_iff.1 (unhide HZ3)).1).trans (unhide HZ3))
  clear P3 HS3 HZ3 hw4
  go_wp2_with (refine wpList_store_row rfl 132 _ _ rfl (w.heap.size+1) _ rfl rfl 132 _ (unhide HZ4) (by rw [size_setA];kernel_rfl) (by rw [zero84,size_setA,size_setA]) (setA_one _) ?_)
  refine bodyPost_ret (v:=.agg (setA (addR f lo hi)))
    (results_cell_row (p:=4) (ty:=132) rfl _ _ (w.heap.size+1) 132 _ (0,0) _ rfl (setRow_heap _ _ _ _ _ _ (unhide HZ4)) Tryz.underlying132 rfl (by rw [size_setA];kernel_rfl))
    rfl ?_
  have hfin:readItemS t s=((lo,hi),s3):=by
   simp only [readItemS,unhide Hr1,unhide HC,unhide Hs2,unhide Hr3,if_true]
  rw [hfin]
  exact ⟨rfl,P4.setRow hbl (by omega) _⟩
 ·have hc':(s1.pk t == 45)=false:=by simpa using hc
  have e2:takeS t 45 s1=s1:=by simp only [takeS,hc'];rfl
  rw [e2] at P2
  have HC:=hide hc'
  clear e2 hc
  go_wp2_with (refine wpList_load_row rfl 132 _ rfl w.heap.size rfl 132 _ (0,0) _ (unhide HS2) Tryz.underlying132 rfl (by rw [size_setA];kernel_rfl) ?_)
  refine (addRange_any _ f lo lo).mono ?_
  rintro e w4 ⟨rfl,hw4⟩
  have P4:=P2.below hw4
  have HZ4:=hide ((hw4.block _ (Array.getElem?_eq_some_iff.1 (unhide HZ2)).1).trans (unhide HZ2))
  clear P2 HS2 HZ2 hw4
  go_wp2_with (refine wpList_store_row rfl 132 _ _ rfl (w.heap.size+1) _ rfl rfl 132 _ (unhide HZ4) (by rw [size_setA];kernel_rfl) (by rw [zero84,size_setA,size_setA]) (setA_one _) ?_)
  refine bodyPost_ret (v:=.agg (setA (addR f lo lo)))
    (results_cell_row (p:=4) (ty:=132) rfl _ _ (w.heap.size+1) 132 _ (0,0) _ rfl (setRow_heap _ _ _ _ _ _ (unhide HZ4)) Tryz.underlying132 rfl (by rw [size_setA];kernel_rfl))
    rfl ?_
  have hfin:readItemS t s=((lo,lo),s1):=by
   simp only [readItemS,unhide Hr1,unhide HC];rfl
  rw [hfin]
  exact ⟨rfl,P4.setRow hbl (by omega) _⟩
end Go.Proofs.YtobfpgoepaeknaaGreat
namespace Go.Proofs.YtobfpgoepaeknaaGreat
open Go.RowKit
attribute [local go_sem ↓] zvS
attribute [local go_sem] zcS_size zcS_ne
set_option maxHeartbeats 400000 in
theorem readSet_any (w:World) (b:Nat) (t:ByteArray) (s:S1) (nv sv:Value) (h:Rd1 w b t s nv sv)
  (ht:t.size≤60) (hk:s.k≤t.size) :
  Calls Tryz.prog 165 #[.pointer (some ⟨b,0,none⟩)] w fun e w' =>
   e=.returned (.agg (setA (readSetS t s).1))∧Post1 w w' b t (readSetS t s).2 nv sv:=by
 have hbl:=h.lt
 have P0:Post1 w (w.alloc (Obj.cells zcS 132)) b t s nv sv:=(Post1.refl h).alloc _
 have HZ0:=hide (heap_alloc_new w (Obj.cells zcS 132))
 have hk1:=takeS_le (t:=t) (c:=94) (s:=s) (by omega) hk
 go_enter Tryz.func165,Tryz.ntmps165
 go_wp2_with fail
 refine (take_any _ b t s nv sv 94 P0.2 ht hk).mono ?_
 rintro e w1 ⟨rfl,hw1⟩
 have P1:=P0.trans hw1
 have HZ1:=hide (hw1.other (unhide HZ0) (by omega))
 generalize hr1:takeS t 94 s=s1 at *
 have Hr1:=hide hr1
 clear hr1 HZ0 P0 hw1
 go_wp2_with fail
 rw [zero84]
 refine (readItem_any _ b t s1 nv sv (fun _=>false) P1.2 ht hk1).mono ?_
 rintro e w2 ⟨rfl,hw2⟩
 have P2:=P1.trans hw2
 have HZ2:=hide (hw2.other (unhide HZ1) (by omega))
 have hk2:=readItemS_le (t:=t) (s:=s1) hk1
 have hsz2:=P2.1.size
 have hbl2:=hw2.2.lt
 generalize hr2:readItemS t s1=r2 at *
 obtain ⟨⟨lo,hi⟩,s2⟩:=r2
 have Hr2:=hide hr2
 clear hr2 HZ1 P1 hw2
 simp only at hk2 P2
 have hzlt:=(Array.getElem?_eq_some_iff.1 (unhide HZ2)).1
 have HZ3:=hide ((Below.heap_alloc w2 (Obj.cells zcS 132) w.heap.size hzlt).trans (unhide HZ2))
 have HN3:=hide (heap_alloc_new w2 (Obj.cells zcS 132))
 have P3:=P2.alloc (Obj.cells zcS 132)
 generalize hN:w2.heap.size=N at *
 go_wp2_with (refine wpList_store_row0 rfl 132 _ _ rfl rfl N _ rfl rfl 132 _ (unhide HN3) (by rw [size_setA];kernel_rfl) (by rw [zero84,size_setA,size_setA]) (setA_one _) ?_)
 have P4:=P3.setRow hbl (g:=N) (by omega) (setA (addR (fun _=>false) lo hi))
 have HN4:=hide (setRow_heap _ _ _ (setA (addR (fun _=>false) lo hi)) _ _ (unhide HN3))
 have HZ4:=hide ((setRow_other (w2.alloc (Obj.cells zcS 132)) N w.heap.size (setA (addR (fun _=>false) lo hi)) (by omega)).trans (unhide HZ3))
 generalize (w2.alloc (Obj.cells zcS 132)).setRow N (setA (addR (fun _=>false) lo hi))=w4 at *
 generalize hf0:addR (fun _=>false) lo hi=f0 at *
 have Hf0:=hide hf0
 have hlft:left t s2≤t.size+1:=by unfold left;split<;>omega
 clear hf0 P2 P3 HZ2 HZ3 HN3
 go_loopg [10] (t.size+1) (fun n _ wr=>∃ (f:Nat→Bool) (x:S1),Hid (left t x≤n∧x.k≤t.size∧setLoop t n f x=setLoop t (t.size+1) f0 s2∧Post1 w wr b t x nv sv∧wr.heap[N]?=some (Obj.cells (setA f) 132 (0,0))∧wr.heap[w.heap.size]?=some (Obj.cells zcS 132 (0,0))))
 case atStart=>exact ⟨f0,s2,hlft,hk2,rfl,P4,unhide HN4,unhide HZ4⟩
 case round =>
  obtain ⟨f,x,H⟩:=hrel
  obtain ⟨hl,hkx,hloop,P5,hN5,hZ5⟩:=unhide H
  have HL:=hide hl
  have HLoop:=hide hloop
  have HN5:=hide hN5
  have HZ5:=hide hZ5
  clear hl hloop hN5 hZ5 H HN4 HZ4 P4
  have HP:=hide (peek_any _ b t x nv sv P5.2 ht hkx)
  obtain ⟨c0,c1,c2,-,-⟩:=P5.2.cells
  by_cases hgo:(!x.bad && x.pk t != 93)=true
  ·have hbx:x.bad=false:=by revert hgo;cases x.bad<;>simp
   have hpx:(x.pk t != 93)=true:=by revert hgo;rw [hbx];simp
   have hl1:1≤gk:=by have:=unhide HL;unfold left at this;rw [hbx] at this;simp at this;omega
   obtain ⟨g1,rfl⟩:∃ g1,gk=g1+1:=⟨gk - 1,by omega⟩
   have HGo:=hide hgo
   clear hgo hl1
   go_wp2_with (first
    | (go_at_call 146;refine (unhide HP).mono ?_;rintro e w' ⟨rfl,n,rfl⟩)
    | refine wpList_load_row rfl 132 _ rfl N rfl 132 _ (0,0) _ (unhide HN5) Tryz.underlying132 rfl (by rw [size_setA];kernel_rfl) ?_)
   have P6:=P5.drewN n
   refine (readItem_any _ b t x nv sv f P6.2 ht hkx).mono ?_
   rintro e w7 ⟨rfl,hw7⟩
   have P7:=P6.trans hw7
   have HN7:=hide (hw7.other (g:=N) (unhide HN5) (by omega))
   have HZ7:=hide (hw7.other (g:=w.heap.size) (unhide HZ5) (by omega))
   go_wp2_with (refine wpList_store_row0 rfl 132 _ _ rfl rfl N _ rfl rfl 132 _ (unhide HN7) (by rw [size_setA];kernel_rfl) (by rw [size_setA,size_setA]) (setA_one _) ?_)
   go_roundg g1
   case measure=>omega
   case rel =>
    refine ⟨_,_,?_,readItemS_le hkx,(setLoop_go g1 f x (unhide HGo)).symm.trans (unhide HLoop),P7.setRow hbl (by omega) _,setRow_heap _ _ _ _ _ _ (unhide HN7),(setRow_other _ _ _ _ (by omega)).trans (unhide HZ7)⟩
    have:=left_goes (t:=t) hbx (readItemS_le hkx) (readItemS_goes t x)
    have:=unhide HL
    omega
  ·have hgo':(!x.bad && x.pk t != 93)=false:=by simpa using hgo
   have hst:=setLoop_stop gk f x hgo'
   have HF:=hide (hst.symm.trans (unhide HLoop))
   have hke:=expectS_le (t:=t) (c:=93) (s:=x) (by omega) hkx
   clear hgo hst HL HLoop
   have fin:∀ wx:World,Post1 w wx b t x nv sv→wx.heap[N]?=some (Obj.cells (setA f) 132 (0,0))→wx.heap[w.heap.size]?=some (Obj.cells zcS 132 (0,0)) →
     Calls Tryz.prog 164 #[.pointer (some ⟨b,0,none⟩),.int .i64 93] wx fun e wy=>e=.returned (.tuple #[])∧Post1 w wy b t (expectS t 93 x) nv sv∧wy.heap[N]?=some (Obj.cells (setA f) 132 (0,0))∧wy.heap[w.heap.size]?=some (Obj.cells zcS 132 (0,0)):=by
    intro wx hx1 hx2 hx3
    refine (expect_any wx b t x nv sv 93 hx1.2 ht hkx).mono ?_
    rintro e wy ⟨rfl,hy⟩
    exact ⟨rfl,hx1.trans hy,hy.other hx2 (by omega),hy.other hx3 (by omega)⟩
   have HFin:=hide fin
   have ffin:∀ v,v=s.pk t→readSetS t s=(if v == 94 then fun j=>!f j else f,expectS t 93 x):=by
    rintro v rfl
    simp only [readSetS,unhide Hr1,unhide Hr2,unhide Hf0,←unhide HF]
   have FF:=hide ffin
   clear fin ffin c0 c1
   obtain ⟨kx,bx⟩:=x
   simp only at c2 hgo' hke
   by_cases hnot:(s.pk t == 94)=true
   ·cases bx
    ·have hpx:(S1.pk t ⟨kx,false⟩ != 93)=false:=by simpa using hgo'
     clear hgo'
     go_wp2_with (go_at_call 146;refine (unhide HP).mono ?_;rintro e w' ⟨rfl,n,rfl⟩)
     refine (unhide HFin _ (P5.drewN n) (unhide HN5) (unhide HZ5)).mono ?_
     rintro e wy ⟨rfl,P6,hN6,hZ6⟩
     have HN6:=hide hN6
     have HZ6:=hide hZ6
     clear hN6 hZ6
     go_wp2_with (refine wpList_load_row rfl 132 _ rfl N rfl 132 _ (0,0) _ (unhide HN6) Tryz.underlying132 rfl (by rw [size_setA];kernel_rfl) ?_)
     refine (complement_any _ f).mono ?_
     rintro e w7 ⟨rfl,hw7⟩
     have P7:=P6.below hw7
     have HZ7:=hide ((hw7.block _ (Array.getElem?_eq_some_iff.1 (unhide HZ6)).1).trans (unhide HZ6))
     go_wp2_with (refine wpList_store_row0 rfl 132 _ _ rfl rfl w.heap.size _ rfl rfl 132 _ (unhide HZ7) (by rw [size_setA];kernel_rfl) (by rw [zero84,size_setA,size_setA]) (setA_one _) ?_)
     refine bodyPost_ret (v:=.agg (setA (fun j=>!f j)))
      (results_cell_row (p:=2) (ty:=132) rfl _ _ w.heap.size 132 _ (0,0) _ rfl (setRow_heap _ _ _ _ _ _ (unhide HZ7)) Tryz.underlying132 rfl (by rw [size_setA];kernel_rfl))
      rfl ?_
     rw [unhide FF _ rfl,hnot]
     exact ⟨rfl,P7.setRow hbl (Nat.le_refl _) _⟩
    ·clear hgo'
     go_wp2_with fail
     refine (unhide HFin _ P5 (unhide HN5) (unhide HZ5)).mono ?_
     rintro e wy ⟨rfl,P6,hN6,hZ6⟩
     have HN6:=hide hN6
     have HZ6:=hide hZ6
     clear hN6 hZ6
     go_wp2_with (refine wpList_load_row rfl 132 _ rfl N rfl 132 _ (0,0) _ (unhide HN6) Tryz.underlying132 rfl (by rw [size_setA];kernel_rfl) ?_)
     refine (complement_any _ f).mono ?_
     rintro e w7 ⟨rfl,hw7⟩
     have P7:=P6.below hw7
     have HZ7:=hide ((hw7.block _ (Array.getElem?_eq_some_iff.1 (unhide HZ6)).1).trans (unhide HZ6))
     go_wp2_with (refine wpList_store_row0 rfl 132 _ _ rfl rfl w.heap.size _ rfl rfl 132 _ (unhide HZ7) (by rw [size_setA];kernel_rfl) (by rw [zero84,size_setA,size_setA]) (setA_one _) ?_)
     refine bodyPost_ret (v:=.agg (setA (fun j=>!f j)))
      (results_cell_row (p:=2) (ty:=132) rfl _ _ w.heap.size 132 _ (0,0) _ rfl (setRow_heap _ _ _ _ _ _ (unhide HZ7)) Tryz.underlying132 rfl (by rw [size_setA];kernel_rfl))
      rfl ?_
     rw [unhide FF _ rfl,hnot]
     exact ⟨rfl,P7.setRow hbl (Nat.le_refl _) _⟩
   ·have hnot':(s.pk t == 94)=false:=by simpa using hnot
    clear hnot
    cases bx
    ·have hpx:(S1.pk t ⟨kx,false⟩ != 93)=false:=by simpa using hgo'
     clear hgo'
     go_wp2_with (go_at_call 146;refine (unhide HP).mono ?_;rintro e w' ⟨rfl,n,rfl⟩)
     refine (unhide HFin _ (P5.drewN n) (unhide HN5) (unhide HZ5)).mono ?_
     rintro e wy ⟨rfl,P6,hN6,hZ6⟩
     have HN6:=hide hN6
     have HZ6:=hide hZ6
     clear hN6 hZ6
     go_wp2_with (first
      | refine wpList_load_row rfl 132 _ rfl N rfl 132 _ (0,0) _ (unhide HN6) Tryz.underlying132 rfl (by rw [size_setA];kernel_rfl) ?_
      | refine wpList_store_row0 rfl 132 _ _ rfl rfl w.heap.size _ rfl rfl 132 _ (unhide HZ6) (by rw [size_setA];kernel_rfl) (by rw [zero84,size_setA,size_setA]) (setA_one _) ?_)
     refine bodyPost_ret (v:=.agg (setA (f)))
      (results_cell_row (p:=2) (ty:=132) rfl _ _ w.heap.size 132 _ (0,0) _ rfl (setRow_heap _ _ _ _ _ _ (unhide HZ6)) Tryz.underlying132 rfl (by rw [size_setA];kernel_rfl))
      rfl ?_
     rw [unhide FF _ rfl,hnot']
     exact ⟨rfl,P6.setRow hbl (Nat.le_refl _) _⟩
    ·clear hgo'
     go_wp2_with fail
     refine (unhide HFin _ P5 (unhide HN5) (unhide HZ5)).mono ?_
     rintro e wy ⟨rfl,P6,hN6,hZ6⟩
     have HN6:=hide hN6
     have HZ6:=hide hZ6
     clear hN6 hZ6
     go_wp2_with (first
      | refine wpList_load_row rfl 132 _ rfl N rfl 132 _ (0,0) _ (unhide HN6) Tryz.underlying132 rfl (by rw [size_setA];kernel_rfl) ?_
      | refine wpList_store_row0 rfl 132 _ _ rfl rfl w.heap.size _ rfl rfl 132 _ (unhide HZ6) (by rw [size_setA];kernel_rfl) (by rw [zero84,size_setA,size_setA]) (setA_one _) ?_)
     refine bodyPost_ret (v:=.agg (setA (f)))
      (results_cell_row (p:=2) (ty:=132) rfl _ _ w.heap.size 132 _ (0,0) _ rfl (setRow_heap _ _ _ _ _ _ (unhide HZ6)) Tryz.underlying132 rfl (by rw [size_setA];kernel_rfl))
      rfl ?_
     rw [unhide FF _ rfl,hnot']
     exact ⟨rfl,P6.setRow hbl (Nat.le_refl _) _⟩
end Go.Proofs.YtobfpgoepaeknaaGreat
namespace Go.Proofs.YtobfpgoepaeknaaGreat
open Go.RowKit
theorem step_append_own {P:Program} {ops:Array Oper} {o:Oper} {a:Act} {w:World} {K:Act→World→Prop} {Q:Exit→Act→World→Prop} {E:Prop}
  (hg:o.guard=none) (s x:Operand) (t:TypeId) (hop:o.op=Op.call { callee:=Callee.builtin Builtin.append,args:=#[s,x],argTypes:=#[t,t] })
  (base:Nat) (e:TypeId) (i:TypeInfo) (z:Value) (size bytes:Nat) (h1:P.underlying t=some (.slice e)) (h2:P.info? e=some i) (h3:i.zero=some z) (h4:i.size=size) (h5:i.bytes=bytes) (h6:z.cells.size=size) (h7:0 < size)
  (v:Value) (n:Nat) (xs:List Value) (hs:a.eval s=v) (hown:w.ownsRow base e size v n xs)
  (ad:Addr) (m c:Nat) (news:List Value) (hx:a.eval x=.slice (some ad) m c) (hn:news.length=m * size) (hc:∀ j u,news[j]?=some u→w.cell? (ad.add j)=some u) (h1c:∀ u∈news,u.oneCell'=true)
  (b1:n+m≤maxLen) (b2:(n+m) * bytes≤140737488355328) (hbase:base≤w.heap.size)
  (hK:∀ v' w',w'.ownsRow base e size v' (n+m) (xs++news)→w.grownBy w' v.ownBlock→K (a.put o.dst v') w') :
  if Region.wanted o (yielded ops a.tmps)=true then Oper.wp P o a w K Q else E:=by
 have hw:Region.wanted o (yielded ops a.tmps)=true:=by simp [Region.wanted,hg]
 rw [if_pos hw]
 obtain ⟨v',w',hrun,r1,r2,_⟩:=run_append_own (P:=P) w base t o.type e i z size bytes h1 h2 h3 h4 h5 h6 h7 v n xs hown ad m c news hn hc h1c b1 b2 hbase
 unfold Oper.wp
 simp [execOp,hop,resolve,invoke,builtin,hs,hx,hrun,Result.andThen]
 exact hK v' w' r1 r2
def ndCells (n:Nd):List Value:=[.int .i64 n.kind,.int .i64 n.left,.int .i64 n.right,.int .i64 n.low,.int .i64 n.high,.int .i64 n.set]
def nodeCells (l:List Nd):List Value:=l.flatMap ndCells
def setsCells (l:List (Nat→Bool)):List Value:=l.flatMap fun f=>(setA f).toList
def Rd2 (w:World) (b:Nat) (t:ByteArray) (s:S1) (ns:List Nd) (fs:List (Nat→Bool)):Prop :=
 ∃ nv sv,Rd1 w b t s nv sv∧w.ownsRow (b+1) 186 6 nv ns.length (nodeCells ns)∧w.ownsRow (b+1) 132 256 sv fs.length (setsCells fs)
def Post2 (w w':World) (b:Nat) (t:ByteArray) (s:S1) (ns:List Nd) (fs:List (Nat→Bool)):Prop:=Below b w w'∧Rd2 w' b t s ns fs
theorem info_of {P:Program} {t:TypeId} {z:Value} {n m:Nat} (h:(P.info? t).map (fun i=>(i.zero,i.size,i.bytes))=some (some z,n,m)) :
  ∃ i,P.info? t=some i∧i.zero=some z∧i.size=n∧i.bytes=m:=by
 cases hi:P.info? t with
 | none=>rw [hi] at h;cases h
 | some i =>
  rw [hi] at h
  simp only [Option.map_some,Option.some.injEq,Prod.mk.injEq] at h
  exact ⟨i,rfl,h.1,h.2.1,h.2.2⟩
theorem info95:(Tryz.prog.info? 186).map (fun i=>(i.zero,i.size,i.bytes))=some (some (.agg #[.int .i64 0,.int .i64 0,.int .i64 0,.int .i64 0,.int .i64 0,.int .i64 0]),6,48):=by kernel_rfl
theorem rows_apart {w:World} {B B' e e' z z':Nat} {v v':Value} {n n':Nat} {xs xs':List Value} (hne:e≠e') (h:w.ownsRow B e z v n xs) (h':w.ownsRow B' e' z' v' n' xs') :
  v.ownBlock=none∨v.ownBlock≠v'.ownBlock:=by
 rcases h.2 with ⟨rfl,_⟩ | ⟨g,cap,cur,rfl,_,hg,_⟩
 ·exact Or.inl rfl
 ·rcases h'.2 with ⟨rfl,_⟩ | ⟨g',cap',cur',rfl,_,hg',_⟩
  ·exact Or.inr (by simp [Value.ownBlock])
  ·refine Or.inr ?_
   simp only [Value.ownBlock,ne_eq,Option.some.injEq]
   intro e1
   subst e1
   rw [hg] at hg'
   simp at hg'
   exact hne hg'.2
theorem own_ne {w:World} {b e z:Nat} {v:Value} {n:Nat} {xs:List Value} (h:w.ownsRow (b+1) e z v n xs):some b≠v.ownBlock:=by
 intro e1
 have:=(h.lt b e1.symm).1
 omega
theorem below_grown {b:Nat} {w w':World} {row:Option Nat} (hg:w.grownBy w' row) (hB:b≤w.heap.size) (hr:∀ k,row=some k→b≤k):Below b w w' :=
 (Below.refl b w).grown hg hB hr
theorem setNodes {w:World} {b:Nat} {t:ByteArray} {s:S1} {nv nv' sv:Value} (h:Rd1 w b t s nv sv):Rd1 (w.setCell ⟨b,3,none⟩ nv') b t s nv' sv:=by
 unfold Rd1 at h ⊢
 simp only [World.setCell,Array.getElem?_modify,if_pos,h]
 simp
theorem setSets {w:World} {b:Nat} {t:ByteArray} {s:S1} {nv sv sv':Value} (h:Rd1 w b t s nv sv):Rd1 (w.setCell ⟨b,4,none⟩ sv') b t s nv sv':=by
 unfold Rd1 at h ⊢
 simp only [World.setCell,Array.getElem?_modify,if_pos,h]
 simp
theorem Rd1.kept {w w':World} {b:Nat} {t:ByteArray} {s:S1} {nv sv:Value} {row:Option Nat} (h:Rd1 w b t s nv sv) (hg:w.grownBy w' row) (hne:some b≠row):Rd1 w' b t s nv sv:=by
 unfold Rd1;rw [hg.block b h.lt hne];exact h
theorem ndCells_one (n:Nd):∀ u∈ndCells n,u.oneCell'=true:=by
 intro u hu
 simp only [ndCells,List.mem_cons,List.not_mem_nil,or_false] at hu
 rcases hu with rfl | rfl | rfl | rfl | rfl | rfl<;>rfl
theorem cells_new (w:World) (cs:List Value) (e:TypeId):∀ j u,cs[j]?=some u→(w.alloc (.cells cs.toArray e)).cell? ((⟨w.heap.size,0,none⟩:Addr).add j)=some u:=by
 intro j u hu
 have hadd:(⟨w.heap.size,0,none⟩:Addr).add j=⟨w.heap.size,j,none⟩:=by unfold Addr.add;split<;>simp_all
 rw [hadd,cell_of_row _ _ _ _ _ _ (heap_alloc_new w _)]
 simpa using hu
theorem own_form {w:World} {B e z:Nat} {v:Value} {n:Nat} {xs:List Value} (h:w.ownsRow B e z v (n+1) xs):∃ g cap,v=.slice (some ⟨g,0,none⟩) (n+1) cap:=by
 rcases h.2 with ⟨_,h0⟩ | ⟨g,cap,cur,hv,_⟩
 ·omega
 ·exact ⟨g,cap,hv⟩
theorem nodeCells_snoc (ns:List Nd) (n:Nd):nodeCells (ns++[n])=nodeCells ns++ndCells n:=by simp [nodeCells]
theorem setsCells_snoc (fs:List (Nat→Bool)) (f:Nat→Bool):setsCells (fs++[f])=setsCells fs++(setA f).toList:=by simp [setsCells]
theorem add_fin {w W w':World} {b:Nat} {t:ByteArray} {s:S1} {nv sv v':Value} {ns:List Nd} {fs:List (Nat→Bool)} {n:Nd} (hb:b < w.heap.size) (hW:Below b w W)
  (h1:Rd1 W b t s nv sv) (h2:W.ownsRow (b+1) 186 6 nv ns.length (nodeCells ns)) (h3:W.ownsRow (b+1) 132 256 sv fs.length (setsCells fs))
  (hg:W.grownBy w' nv.ownBlock) (ho:w'.ownsRow (b+1) 186 6 v' (ns.length+1) (nodeCells ns++ndCells n)) :
  Post2 w (w'.setCell ⟨b,3,none⟩ v') b t s (ns++[n]) fs:=by
 have hsz:=hW.size
 refine ⟨(hW.trans (below_grown hg (by omega) (fun k hk=>by have:=(h2.lt k hk).1;omega))).setCell (Nat.le_refl _) _,v',sv,setNodes (h1.kept hg (own_ne h2)),?_,?_⟩
 ·refine ownsRow_setCell_below ?_ (by simp) _
  rw [nodeCells_snoc]
  simpa using ho
 ·exact ownsRow_setCell_below (h3.kept hg (rows_apart (by decide) h3 h2)) (by simp) _
set_option maxHeartbeats 400000 in
theorem add_any (w:World) (b:Nat) (t:ByteArray) (s:S1) (ns:List Nd) (fs:List (Nat→Bool)) (n:Nd) (h:Rd2 w b t s ns fs) (hn:ns.length≤1000) :
  Calls Tryz.prog 105 #[.pointer (some ⟨b,0,none⟩),.agg #[.int .i64 n.kind,.int .i64 n.left,.int .i64 n.right,.int .i64 n.low,.int .i64 n.high,.int .i64 n.set]] w fun e w' =>
   e=.returned (.int .i64 (ns.length:Int))∧Post2 w w' b t s (ns++[n]) fs:=by
 obtain ⟨nv,sv,h1,h2,h3⟩:=h
 obtain ⟨c0,c1,c2,c3,c4⟩:=h1.cells
 obtain ⟨f1,f2,f3,f4⟩:=h1.unfrozen
 obtain ⟨i,i0,i1,i2,i3⟩:=info_of info95
 have hbl:=h1.lt
 have H2:=hide ((h2.alloc (Obj.cells (ndCells n).toArray 186)).alloc (Obj.cells (ndCells n).toArray 186))
 have H3:=hide ((h3.alloc (Obj.cells (ndCells n).toArray 186)).alloc (Obj.cells (ndCells n).toArray 186))
 have HC:Hid (∀ j u,(ndCells n)[j]?=some u→((w.alloc (Obj.cells (ndCells n).toArray 186)).alloc (Obj.cells (ndCells n).toArray 186)).cell? ((⟨w.heap.size+1,0,none⟩:Addr).add j)=some u):=by
  have:=cells_new (w.alloc (Obj.cells (ndCells n).toArray 186)) (ndCells n) 186
  exact (by simpa using this:∀ j u,(ndCells n)[j]?=some u→((w.alloc (Obj.cells (ndCells n).toArray 186)).alloc (Obj.cells (ndCells n).toArray 186)).cell? ((⟨w.heap.size+1,0,none⟩:Addr).add j)=some u)
 have H1:=hide (((Post1.refl h1).alloc (Obj.cells (ndCells n).toArray 186)).alloc (Obj.cells (ndCells n).toArray 186))
 have HI:=hide (And.intro i0 (And.intro i1 (And.intro i2 i3)))
 have HN:=hide hn
 have HO:=hide (own_ne h2)
 have hL:(ns.length:Int)≤1000:=by omega
 clear i0 i1 i2 i3 h1 h2 h3 hn
 go_enter Tryz.func105,Tryz.ntmps105
 go_wp2
 go_region_law (refine step_append_own rfl (.tmp 10) (.tmp 12) 83 rfl (b+1) 186 i _ 6 48 Tryz.underlying83 (unhide HI).1 (unhide HI).2.1 (unhide HI).2.2.1 (unhide HI).2.2.2 rfl (by decide) nv ns.length (nodeCells ns) (by simp [Act.eval]) (by exact unhide H2) ⟨w.heap.size+1,0,none⟩ 1 1 (ndCells n) (by simp [Act.eval]) rfl (by exact unhide HC) (ndCells_one n) (by have:=unhide HN;unfold maxLen;omega) (by have:=unhide HN;omega) (by simp;omega) ?_;intro v' w' ho hg';have hr':=Rd1.kept (h:=by exact (unhide H1).2) hg' (unhide HO);obtain ⟨d0,d1,d2,d3,d4⟩:=hr'.cells;obtain ⟨g1,g2,g3,g4⟩:=hr'.unfrozen;obtain ⟨g,cap,hv⟩:=own_form ho;subst hv;have HG:=hide hg';have HO':=hide ho;have HR':=hide hr';clear hg' ho hr')
 all_goals
  go_wp2
  go_ret
  exact ⟨rfl,add_fin hbl (by exact (((Below.refl b w).alloc (by omega) _).alloc (by simp;omega) _).drew) (by exact (unhide H1).2) (by exact unhide H2) (by exact unhide H3) (unhide HG) (unhide HO')⟩
end Go.Proofs.YtobfpgoepaeknaaGreat
