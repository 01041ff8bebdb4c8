/-
  The document's answer: its nodes in memory; but.
  The document's answer: items of a set.
  The document's answer: a node is put behind the others.
  The document's answer: read.
-/
import Derived.Test.YtobfpgoepaeknaaGreatPO25
import Derived.Test.YtobfpgoepaeknaaGreatPO04
namespace Go.Proofs.YtobfpgoepaeknaaGreat
open Go.RowKit
def rnA (r:Rn):Array Value:=#[.int .i64 r.kind,.int .i64 r.l,.int .i64 r.r,.int .i64 r.m,.int .i64 r.n]++setA r.f
theorem size_rnA (r:Rn):(rnA r).size=261:=by simp [rnA,size_setA]
theorem get_rnA (r:Rn) (k:Nat) (h:k < 256):(rnA r)[5+k]?=some (.bool (r.f k)):=by
 unfold rnA
 rw [Array.getElem?_append_right (by simp)]
 simp only [List.size_toArray,List.length_cons,List.length_nil,Nat.zero_add,Nat.add_sub_cancel_left]
 exact get_setA r.f k h
theorem rnA_one (r:Rn):(rnA r).all (·.oneCell')=true:=by
 unfold rnA
 rw [Array.all_append,setA_one]
 simp [Value.oneCell']
theorem rnA_set (r:Rn) (k:Nat) (v:Bool):(rnA r).setIfInBounds (5+k) (.bool v)=rnA ⟨r.kind,r.l,r.r,r.m,r.n,fun j=>if j=k then v else r.f j⟩:=by
 unfold rnA
 rw [←setA_set]
 rw [Array.setIfInBounds_append_right (by simp)]
 simp
theorem rnA_kind (r:Rn) (v:Int):(rnA r).setIfInBounds 0 (.int .i64 v)=rnA ⟨v,r.l,r.r,r.m,r.n,r.f⟩:=by
 unfold rnA
 rw [Array.setIfInBounds_append_left (by simp)]
 simp
theorem rnA_l (r:Rn) (v:Int):(rnA r).setIfInBounds 1 (.int .i64 v)=rnA ⟨r.kind,v,r.r,r.m,r.n,r.f⟩:=by
 unfold rnA
 rw [Array.setIfInBounds_append_left (by simp)]
 simp
theorem rnA_r (r:Rn) (v:Int):(rnA r).setIfInBounds 2 (.int .i64 v)=rnA ⟨r.kind,r.l,v,r.m,r.n,r.f⟩:=by
 unfold rnA
 rw [Array.setIfInBounds_append_left (by simp)]
 simp
theorem rnA_m (r:Rn) (v:Int):(rnA r).setIfInBounds 3 (.int .i64 v)=rnA ⟨r.kind,r.l,r.r,v,r.n,r.f⟩:=by
 unfold rnA
 rw [Array.setIfInBounds_append_left (by simp)]
 simp
theorem rnA_n (r:Rn) (v:Int):(rnA r).setIfInBounds 4 (.int .i64 v)=rnA ⟨r.kind,r.l,r.r,r.m,v,r.f⟩:=by
 unfold rnA
 rw [Array.setIfInBounds_append_left (by simp)]
 simp
theorem rnA_congr {r r':Rn} (h0:r.kind=r'.kind) (h1:r.l=r'.l) (h2:r.r=r'.r) (h3:r.m=r'.m) (h4:r.n=r'.n) (h:∀ j,j < 256→r.f j=r'.f j):rnA r=rnA r':=by
 unfold rnA
 rw [h0,h1,h2,h3,h4,setA_congr h]
theorem zero78:Tryz.zeroCells151=rnA ⟨0,0,0,0,0,noSet⟩:=by kernel_rfl
theorem info78:(Tryz.prog.info? 151).map (·.size)=some 261:=by kernel_rfl
def butTo (f:Nat→Bool) (k:Nat):Nat→Bool:=fun j=>if j < k then !f j else false
def butR (r:Rn):Rn:=⟨2,0,0,0,0,fun j=>!r.f j⟩
theorem butTo_step (f:Nat→Bool) (k:Nat):rnA ⟨2,0,0,0,0,fun j=>if j=k then !f k else butTo f k j⟩=rnA ⟨2,0,0,0,0,butTo f (k+1)⟩:=by
 refine rnA_congr rfl rfl rfl rfl rfl (fun j _=>?_)
 simp only [butTo]
 by_cases e:j=k
 ·subst e;simp
 ·simp [e,show (j < k+1)=(j < k) from propext ⟨fun _=>by omega,fun _=>by omega⟩]
theorem heap3_0 (w:World) (A B C:Obj):(((w.alloc A).alloc B).alloc C).heap[w.heap.size]?=some A:=by
 rw [Below.heap_alloc _ _ _ (by simp;omega)];exact heap_alloc2_old w A B
theorem heap3_1 (w:World) (A B C:Obj):(((w.alloc A).alloc B).alloc C).heap[w.heap.size+1]?=some B:=by
 rw [Below.heap_alloc _ _ _ (by simp)];exact heap_alloc2_new w A B
theorem heap3_2 (w:World) (A B C:Obj):(((w.alloc A).alloc B).alloc C).heap[w.heap.size+2]?=some C:=by
 have:=heap_alloc_new ((w.alloc A).alloc B) C
 simpa using this
set_option maxHeartbeats 1000000 in
theorem but_any (w:World) (r:Rn) :
  Calls Tryz.prog 150 #[.agg (rnA r)] w fun e w'=>e=.returned (.agg (rnA (butR r)))∧Below w.heap.size w w':=by
 have HA:=hide (heap3_0 w (Obj.cells (rnA r) 151) (Obj.cells Tryz.zeroCells151 151) (Obj.cells Tryz.zeroCells151 151))
 have HB:=hide (heap3_1 w (Obj.cells (rnA r) 151) (Obj.cells Tryz.zeroCells151 151) (Obj.cells Tryz.zeroCells151 151))
 have HC:=hide (heap3_2 w (Obj.cells (rnA r) 151) (Obj.cells Tryz.zeroCells151 151) (Obj.cells Tryz.zeroCells151 151))
 have hB:Below w.heap.size w (((w.alloc (Obj.cells (rnA r) 151)).alloc (Obj.cells Tryz.zeroCells151 151)).alloc (Obj.cells Tryz.zeroCells151 151)):=(((Below.refl _ _).alloc (Nat.le_refl _) _).alloc (by simp) _).alloc (by simp;omega) _
 have HBel:=hide hB
 clear hB
 have hz2:Tryz.zeroCells151.setIfInBounds 0 (.int .i64 2)=rnA ⟨2,0,0,0,0,noSet⟩:=by rw [zero78,rnA_kind]
 have HZ2:=hide hz2
 clear hz2
 go_enter Tryz.func150,Tryz.ntmps150
 go_wp2_with (refine wpList_store_row0 rfl 151 _ _ rfl rfl (w.heap.size+2) _ rfl rfl 151 _ (unhide HC) (by rw [unhide HZ2,size_rnA];exact info78) (by rw [unhide HZ2,zero78,size_rnA,size_rnA]) (by rw [unhide HZ2];exact rnA_one _) ?_)
 have HA2:=hide ((setRow_other (((w.alloc (Obj.cells (rnA r) 151)).alloc (Obj.cells Tryz.zeroCells151 151)).alloc (Obj.cells Tryz.zeroCells151 151)) (w.heap.size+2) w.heap.size (Tryz.zeroCells151.setIfInBounds 0 (.int .i64 2)) (by omega)).trans (unhide HA))
 have HB2:=hide ((setRow_other (((w.alloc (Obj.cells (rnA r) 151)).alloc (Obj.cells Tryz.zeroCells151 151)).alloc (Obj.cells Tryz.zeroCells151 151)) (w.heap.size+2) (w.heap.size+1) (Tryz.zeroCells151.setIfInBounds 0 (.int .i64 2)) (by omega)).trans (unhide HB))
 have HC2:=hide (setRow_heap _ _ _ (Tryz.zeroCells151.setIfInBounds 0 (.int .i64 2)) _ _ (unhide HC))
 have HBel2:=hide (below_setRow (unhide HBel) (g:=w.heap.size+2) (by omega) (Tryz.zeroCells151.setIfInBounds 0 (.int .i64 2)))
 clear HA HB HC HBel
 generalize (((w.alloc (Obj.cells (rnA r) 151)).alloc (Obj.cells Tryz.zeroCells151 151)).alloc (Obj.cells Tryz.zeroCells151 151)).setRow (w.heap.size+2) (Tryz.zeroCells151.setIfInBounds 0 (.int .i64 2))=w0 at *
 go_loopw [4] (fun i wr=>∃ k:Nat,i=.int .i64 k∧Hid (k≤256∧Below w.heap.size w wr∧wr.heap[w.heap.size]?=some (Obj.cells (rnA r) 151 (0,0))∧wr.heap[w.heap.size+1]?=some (Obj.cells Tryz.zeroCells151 151 (0,0))∧wr.heap[w.heap.size+1+1]?=some (Obj.cells (rnA ⟨2,0,0,0,0,butTo r.f k⟩) 151 (0,0)))) (fun i _=>left256 i)
 case atStart=>exact ⟨0,rfl,by omega,unhide HBel2,unhide HA2,unhide HB2,by rw [show rnA ⟨2,0,0,0,0,butTo r.f 0⟩=rnA ⟨2,0,0,0,0,noSet⟩ from rnA_congr rfl rfl rfl rfl rfl (fun j _=>by simp [butTo,noSet]),←unhide HZ2];exact unhide HC2⟩
 case round =>
  rename_i wr
  obtain ⟨k,rfl,H⟩:=hrel
  obtain ⟨hk,hb,ha,hz,hc⟩:=unhide H
  have HB:=hide hb
  have HA:=hide ha
  have HZ:=hide hz
  have HC:=hide hc
  clear H HA2 HB2 HC2 HBel2
  by_cases hlt:k < 256
  ·have x1:wr.cell? ⟨w.heap.size,5+k,none⟩=some (.bool (r.f k)):=by rw [cell_of_row _ _ _ _ _ _ ha,get_rnA _ _ hlt]
   have x2:wr.cell? ⟨w.heap.size+1+1,5+k,none⟩=some (.bool (butTo r.f k k)):=by rw [cell_of_row _ _ _ _ _ _ hc,get_rnA _ _ hlt]
   have x3:wr.frozen? ⟨w.heap.size+1+1,5+k,none⟩=false:=frozen_of_row _ _ _ _ _ hc
   have hlt':(k:Int) < 256:=by omega
   have HL:=hide hlt
   generalize butTo r.f k k=v0 at x2
   clear hb ha hz hc hk hlt
   go_wp2
   go_roundw
   case rel =>
    refine ⟨k+1,by go_num,by have:=unhide HL;omega,(unhide HB).setCell (by simp;omega) _,by rw [heap_setCell_other _ _ _ _ (by simp;omega)];exact unhide HA,by rw [heap_setCell_other _ _ _ _ (by simp)];exact unhide HZ,?_⟩
    rw [heap_setCell_same _ _ _ _ _ _ (unhide HC),rnA_set,butTo_step]
   case measure=>have:=unhide HL;simp [left256,intOf];omega
  ·have hk2:k=256:=by omega
   subst hk2
   clear hb ha hz hc
   go_wp2_with (first
    | refine wpList_load_row rfl 151 _ rfl (w.heap.size+1+1) rfl 151 _ (0,0) _ (unhide HC) Tryz.underlying151 rfl (by rw [size_rnA];exact info78) ?_
    | refine wpList_store_row0 rfl 151 _ _ rfl rfl (w.heap.size+1) _ rfl rfl 151 _ (unhide HZ) (by rw [size_rnA];exact info78) (by rw [zero78,size_rnA,size_rnA]) (rnA_one _) ?_)
   have hfin:rnA ⟨2,0,0,0,0,butTo r.f 256⟩=rnA (butR r):=rnA_congr rfl rfl rfl rfl rfl (fun j hj=>by simp [butTo,butR,hj])
   exact bodyPost_ret (v:=.agg (rnA ⟨2,0,0,0,0,butTo r.f 256⟩))
    (results_cell_row (p:=2) (ty:=151) rfl _ _ (w.heap.size+1) 151 _ (0,0) _ rfl (setRow_heap _ _ _ _ _ _ (unhide HZ)) Tryz.underlying151 rfl (by rw [size_rnA];exact info78))
    rfl ⟨by rw [hfin],below_setRow (unhide HB) (by omega) _⟩
end Go.Proofs.YtobfpgoepaeknaaGreat
namespace Go.Proofs.YtobfpgoepaeknaaGreat
open Go.RowKit
def left257 (i:Value):Nat:=257 - (intOf i).toNat
def upTo (f:Nat→Bool) (lo b:Int):Nat→Bool:=fun j=>f j || (decide (lo≤(j:Int)) && decide ((j:Int) < b))
theorem upTo_start (f:Nat→Bool) (lo:Int):rnA ⟨2,0,0,0,0,upTo f lo lo⟩=rnA ⟨2,0,0,0,0,f⟩:=by
 refine rnA_congr rfl rfl rfl rfl rfl (fun j _=>?_)
 have:(decide (lo≤(j:Int)) && decide ((j:Int) < lo))=false:=by
  rw [Bool.and_eq_false_iff,decide_eq_false_iff_not,decide_eq_false_iff_not];omega
 simp only [upTo,this,Bool.or_false]
theorem upTo_step (f:Nat→Bool) (lo:Int) (k:Nat) (h:lo≤(k:Int)):rnA ⟨2,0,0,0,0,fun j=>if j=k then true else upTo f lo k j⟩=rnA ⟨2,0,0,0,0,upTo f lo ((k:Int)+1)⟩:=by
 refine rnA_congr rfl rfl rfl rfl rfl (fun j _=>?_)
 simp only [upTo]
 by_cases e:j=k
 ·subst e;simp [h,show (j:Int) < (j:Int)+1 by omega]
 ·rw [if_neg e,show decide ((j:Int) < (k:Int)+1)=decide ((j:Int) < (k:Int)) from decide_eq_decide.2 ⟨fun _=>by omega,fun _=>by omega⟩]
theorem upTo_end (f:Nat→Bool) (lo hi b:Int) (_h1:lo≤b) (h2:hi < b) (h3:b=lo∨b≤hi+1):rnA ⟨2,0,0,0,0,upTo f lo b⟩=rnA ⟨2,0,0,0,0,addR f lo hi⟩:=by
 refine rnA_congr rfl rfl rfl rfl rfl (fun j _=>?_)
 simp only [upTo,addR]
 congr 1
 rw [Bool.eq_iff_iff]
 simp
 omega
theorem namedS_bd {p:ByteArray} {i:Nat} {v:Int} {j:Nat} (h:namedS p i=some (v,j)):0≤v∧v≤255:=by
 unfold namedS at h
 repeat' split at h
 all_goals simp only [Option.some.injEq,Prod.mk.injEq,reduceCtorEq] at h
 all_goals obtain ⟨rfl,-⟩:=h
 ·exact byteAt_bd p (i+1)
 ·rename_i hx
  rcases digitI_hex hx.2.1 with ⟨a1,a2,a3⟩ | ⟨a1,a2,a3⟩<;>rcases digitI_hex hx.2.2 with ⟨b1,b2,b3⟩ | ⟨b1,b2,b3⟩<;>omega
 ·exact byteAt_bd p i
set_option maxHeartbeats 2000000 in
theorem items_any (p:ByteArray) (hp:p.size≤60) (fu i:Nat) (fin:Nat→Bool) (w:World) (h:itemsF p fu i noSet=some fin) :
  Calls Tryz.prog 151 #[.string p,.int .i64 (i:Int)] w fun e w'=>e=.returned (.agg (rnA ⟨2,0,0,0,0,fin⟩))∧Below w.heap.size w w':=by
 have hp':(p.size:Int)≤60:=by omega
 have HA:=hide (heap_alloc2_old w (Obj.cells Tryz.zeroCells151 151) (Obj.cells Tryz.zeroCells151 151))
 have HN:=hide (heap_alloc2_new w (Obj.cells Tryz.zeroCells151 151) (Obj.cells Tryz.zeroCells151 151))
 have hB:Below w.heap.size w ((w.alloc (Obj.cells Tryz.zeroCells151 151)).alloc (Obj.cells Tryz.zeroCells151 151)):=((Below.refl _ _).alloc (Nat.le_refl _) _).alloc (by simp) _
 have HBel:=hide hB
 have hz2:Tryz.zeroCells151.setIfInBounds 0 (.int .i64 2)=rnA ⟨2,0,0,0,0,noSet⟩:=by rw [zero78,rnA_kind]
 have HZ2:=hide hz2
 have H0:=hide h
 clear hz2 hB h
 go_enter Tryz.func151,Tryz.ntmps151
 go_wp2_with (refine wpList_store_row0 rfl 151 _ _ rfl rfl (w.heap.size+1) _ rfl rfl 151 _ (unhide HN) (by rw [unhide HZ2,size_rnA];exact info78) (by rw [unhide HZ2,zero78,size_rnA,size_rnA]) (by rw [unhide HZ2];exact rnA_one _) ?_)
 have HA2:=hide ((setRow_other ((w.alloc (Obj.cells Tryz.zeroCells151 151)).alloc (Obj.cells Tryz.zeroCells151 151)) (w.heap.size+1) w.heap.size (Tryz.zeroCells151.setIfInBounds 0 (.int .i64 2)) (by omega)).trans (unhide HA))
 have HN2:=hide (setRow_heap _ _ _ (Tryz.zeroCells151.setIfInBounds 0 (.int .i64 2)) _ _ (unhide HN))
 have HBel2:=hide (below_setRow (unhide HBel) (g:=w.heap.size+1) (by omega) (Tryz.zeroCells151.setIfInBounds 0 (.int .i64 2)))
 clear HA HN HBel
 generalize ((w.alloc (Obj.cells Tryz.zeroCells151 151)).alloc (Obj.cells Tryz.zeroCells151 151)).setRow (w.heap.size+1) (Tryz.zeroCells151.setIfInBounds 0 (.int .i64 2))=w0 at *
 go_loopg [1] fu (fun n s wr=>∃ (q:Nat) (f:Nat→Bool),s=.int .i64 (q:Int)∧Hid (itemsF p n q f=some fin∧Below w.heap.size w wr∧wr.heap[w.heap.size]?=some (Obj.cells Tryz.zeroCells151 151 (0,0))∧wr.heap[w.heap.size+1]?=some (Obj.cells (rnA ⟨2,0,0,0,0,f⟩) 151 (0,0))))
 case atStart=>exact ⟨i,noSet,rfl,unhide H0,unhide HBel2,unhide HA2,by rw [←unhide HZ2];exact unhide HN2⟩
 case round =>
  obtain ⟨q,f,rfl,H⟩:=hrel
  obtain ⟨h,hb,hz,hc⟩:=unhide H
  have HB:=hide hb
  have HZ:=hide hz
  have HC:=hide hc
  clear H H0 HA2 HN2 HBel2 hb hz hc HZ2
  obtain ⟨n,rfl⟩:∃ n',gk=n'+1:=by cases gk with | zero=>simp [itemsF] at h | succ n=>exact ⟨n,rfl⟩
  have hq:q < p.size:=by
   by_cases hq:q < p.size
   ·exact hq
   ·simp [itemsF,hq] at h
  have hq':(q:Int) < (p.size:Int):=by omega
  have hbq:=byteAt_eq hq
  simp only [itemsF,hq,if_true,hbq] at h
  clear hbq
  by_cases d1:((p[q].toNat:Int) == 93)=true
  ·rw [if_pos d1] at h
   simp only [Option.some.injEq] at h
   have d1':((p[q].toNat:Int) != 93)=false:=by simpa using d1
   subst h
   clear d1
   go_wp2_with (first
    | refine wpList_load_row rfl 151 _ rfl (w.heap.size+1) rfl 151 _ (0,0) _ (unhide HC) Tryz.underlying151 rfl (by rw [size_rnA];exact info78) ?_
    | refine wpList_store_row0 rfl 151 _ _ rfl rfl w.heap.size _ rfl rfl 151 _ (unhide HZ) (by rw [size_rnA];exact info78) (by rw [zero78,size_rnA,size_rnA]) (rnA_one _) ?_)
   exact bodyPost_ret (v:=.agg (rnA ⟨2,0,0,0,0,f⟩))
    (results_cell_row (p:=4) (ty:=151) rfl _ _ w.heap.size 151 _ (0,0) _ rfl (setRow_heap _ _ _ _ _ _ (unhide HZ)) Tryz.underlying151 rfl (by rw [size_rnA];exact info78))
    rfl ⟨rfl,below_setRow (unhide HB) (Nat.le_refl _) _⟩
  ·rw [if_neg d1] at h
   have d1':((p[q].toNat:Int) != 93)=true:=by simpa using d1
   clear d1
   rw [Option.bind_eq_some_iff] at h
   obtain ⟨⟨lo,j⟩,hn,h⟩:=h
   simp only at h
   have hlo:=namedS_bd hn
   have HN:=hide (fun wx=>named_any p hp q lo j wx hn)
   clear hn
   have hj:j < p.size:=by
    by_cases hj:j < p.size
    ·exact hj
    ·rw [if_neg hj] at h;cases h
   have hj':(j:Int) < (p.size:Int):=by omega
   have hbj:=byteAt_eq hj
   rw [if_pos hj,hbj] at h
   clear hbj
   by_cases d2:((p[j].toNat:Int) == 45)=true
   ·rw [if_pos d2,Option.bind_eq_some_iff] at h
    obtain ⟨⟨hi,j2⟩,hn2,h⟩:=h
    simp only at h
    have hhi:=namedS_bd hn2
    have HN2:=hide (fun wx=>named_any p hp (j+1) hi j2 wx hn2)
    have H2:=hide h
    have ej:((j+1:Nat):Int)=(j:Int)+1:=by omega
    rw [ej] at HN2
    clear hn2 h ej
    go_wp2_with fail
    refine (unhide HN _).mono ?_
    rintro e w' ⟨rfl,hww⟩
    subst hww
    go_wp2_with fail
    refine (unhide HN2 _).mono ?_
    rintro e w' ⟨rfl,hww⟩
    subst hww
    have l0:0≤lo:=hlo.1
    have h255:hi≤255:=hhi.2
    have hl255:lo≤255:=hlo.2
    go_wp2_with fail
    go_loopw [9] (fun ix wx=>∃ bb:Int,ix=.int .i64 bb∧Hid (lo≤bb∧bb≤256∧(bb=lo∨bb≤hi+1)∧Below w.heap.size w wx∧wx.heap[w.heap.size]?=some (Obj.cells Tryz.zeroCells151 151 (0,0))∧wx.heap[w.heap.size+1]?=some (Obj.cells (rnA ⟨2,0,0,0,0,upTo f lo bb⟩) 151 (0,0)))) (fun ix _=>left257 ix)
    case atStart=>exact ⟨lo,rfl,by omega,by omega,Or.inl rfl,unhide HB,unhide HZ,by rw [upTo_start];exact unhide HC⟩
    case round =>
     obtain ⟨bb,rfl,HH⟩:=hrel
     obtain ⟨e1,e2,e3,e4,e5,e6⟩:=unhide HH
     by_cases hle:bb≤hi
     ·obtain ⟨bn,rfl⟩:=Int.eq_ofNat_of_zero_le (by omega:0≤bb)
      have hbn:bn < 256:=by omega
      have x1:wr.cell? ⟨w.heap.size+1,5+bn,none⟩=some (.bool (upTo f lo bn bn)):=by rw [cell_of_row _ _ _ _ _ _ e6,get_rnA _ _ hbn]
      have x2:wr.frozen? ⟨w.heap.size+1,5+bn,none⟩=false:=frozen_of_row _ _ _ _ _ e6
      have hlt':(bn:Int) < 256:=by omega
      have HE:=hide (And.intro e1 (And.intro e2 (And.intro e3 (And.intro e4 (And.intro e5 e6)))))
      have HL:=hide hbn
      clear e1 e2 e3 e4 e5 e6 HH hbn
      generalize upTo f lo bn bn=v0 at x1
      go_wp2
      go_roundw
      case rel =>
       obtain ⟨e1,e2,e3,e4,e5,e6⟩:=unhide HE
       exact ⟨(bn:Int)+1,rfl,by omega,by omega,by omega,e4.setCell (by simp) _,by rw [heap_setCell_other _ _ _ _ (by simp)];exact e5,by rw [heap_setCell_same _ _ _ _ _ _ e6,rnA_set,upTo_step _ _ _ e1]⟩
      case measure=>have:=unhide HL;simp [left257,intOf];omega
     ·have HE:=hide (And.intro e1 (And.intro e2 (And.intro e3 (And.intro e4 (And.intro e5 e6)))))
      clear e1 e2 e3 e4 e5 e6 HH
      go_wp2
      go_roundg n
      case measure=>omega
      case rel =>
       obtain ⟨e1,e2,e3,e4,e5,e6⟩:=unhide HE
       exact ⟨j2,addR f lo hi,rfl,unhide H2,e4,e5,by rw [←upTo_end f lo hi bb e1 (by omega) e3];exact e6⟩
   ·rw [if_neg d2] at h
    have d2':((p[j].toNat:Int) == 45)=false:=by simpa using d2
    have H2:=hide h
    clear h d2
    go_wp2_with fail
    refine (unhide HN _).mono ?_
    rintro e w' ⟨rfl,hww⟩
    subst hww
    have l0:0≤lo:=hlo.1
    have h255:lo≤255:=hlo.2
    have hl255:lo≤255:=hlo.2
    go_wp2_with fail
    go_loopw [9] (fun ix wx=>∃ bb:Int,ix=.int .i64 bb∧Hid (lo≤bb∧bb≤256∧(bb=lo∨bb≤lo+1)∧Below w.heap.size w wx∧wx.heap[w.heap.size]?=some (Obj.cells Tryz.zeroCells151 151 (0,0))∧wx.heap[w.heap.size+1]?=some (Obj.cells (rnA ⟨2,0,0,0,0,upTo f lo bb⟩) 151 (0,0)))) (fun ix _=>left257 ix)
    case atStart=>exact ⟨lo,rfl,by omega,by omega,Or.inl rfl,unhide HB,unhide HZ,by rw [upTo_start];exact unhide HC⟩
    case round =>
     obtain ⟨bb,rfl,HH⟩:=hrel
     obtain ⟨e1,e2,e3,e4,e5,e6⟩:=unhide HH
     by_cases hle:bb≤lo
     ·obtain ⟨bn,rfl⟩:=Int.eq_ofNat_of_zero_le (by omega:0≤bb)
      have hbn:bn < 256:=by omega
      have x1:wr.cell? ⟨w.heap.size+1,5+bn,none⟩=some (.bool (upTo f lo bn bn)):=by rw [cell_of_row _ _ _ _ _ _ e6,get_rnA _ _ hbn]
      have x2:wr.frozen? ⟨w.heap.size+1,5+bn,none⟩=false:=frozen_of_row _ _ _ _ _ e6
      have hlt':(bn:Int) < 256:=by omega
      have HE:=hide (And.intro e1 (And.intro e2 (And.intro e3 (And.intro e4 (And.intro e5 e6)))))
      have HL:=hide hbn
      clear e1 e2 e3 e4 e5 e6 HH hbn
      generalize upTo f lo bn bn=v0 at x1
      go_wp2
      go_roundw
      case rel =>
       obtain ⟨e1,e2,e3,e4,e5,e6⟩:=unhide HE
       exact ⟨(bn:Int)+1,rfl,by omega,by omega,by omega,e4.setCell (by simp) _,by rw [heap_setCell_other _ _ _ _ (by simp)];exact e5,by rw [heap_setCell_same _ _ _ _ _ _ e6,rnA_set,upTo_step _ _ _ e1]⟩
      case measure=>have:=unhide HL;simp [left257,intOf];omega
     ·have HE:=hide (And.intro e1 (And.intro e2 (And.intro e3 (And.intro e4 (And.intro e5 e6)))))
      clear e1 e2 e3 e4 e5 e6 HH
      go_wp2
      go_roundg n
      case measure=>omega
      case rel =>
       obtain ⟨e1,e2,e3,e4,e5,e6⟩:=unhide HE
       exact ⟨j,addR f lo lo,rfl,unhide H2,e4,e5,by rw [←upTo_end f lo lo bb e1 (by omega) e3];exact e6⟩
end Go.Proofs.YtobfpgoepaeknaaGreat
namespace Go.Proofs.YtobfpgoepaeknaaGreat
open Go.RowKit
def rnCells (rs:List Rn):List Value:=rs.flatMap fun r=>(rnA r).toList
def RtS (w:World) (b:Nat) (rs:List Rn):Prop :=
 ∃ v,w.heap[b]?=some (.cells #[v] 102 (0,0))∧w.ownsRow (b+1) 151 261 v rs.length (rnCells rs)
def PostT (w w':World) (b:Nat) (rs:List Rn):Prop:=Below b w w'∧RtS w' b rs
theorem infoN:(Tryz.prog.info? 151).map (fun i=>(i.zero,i.size,i.bytes))=some (some (.agg (rnA ⟨0,0,0,0,0,noSet⟩)),261,296):=by kernel_rfl
theorem load_nd (w:World) (r:Rn) :
  (Instr.loadAt 151 (.pointer (some ⟨w.heap.size,0,none⟩))).run Tryz.prog (w.alloc (Obj.cells (rnA r) 151)).drew=.ok (.agg (rnA r)) (w.alloc (Obj.cells (rnA r) 151)).drew:=by
 have:=run_loadVar_row (P:=Tryz.prog) (w.alloc (Obj.cells (rnA r) 151)).drew w.heap.size 151 151 (rnA r) (0,0) _ (heap_alloc_new w _) Tryz.underlying151 rfl (by rw [size_rnA];exact info78)
 simp only [Instr.loadAt,Instr.sureAddr,Sem.run_bind,Sem.run_pure,Result.andThen_ok]
 exact this
theorem build_nd (w:World) (r:Rn) :
  (Instr.buildSlice 100 1 #[(0,.agg (rnA r))]).run Tryz.prog w=.ok (.slice (some ⟨w.heap.size,0,none⟩) 1 1) (w.alloc (Obj.cells (rnA r) 151)):=by
 obtain ⟨i,i0,i1,i2,i3⟩:=info_of infoN
 exact build_one w _ _ i _ (rnA r) Tryz.underlying100 i0 i1 (by rw [size_rnA,i2]) (by rw [i2];decide) (by rw [i2];decide)
theorem wp_load_nd (w:World) (r:Rn) (d:Option Tmp) (x:Operand) (ty:TypeId) (pos:String) (af:Array Edge) (gd:Option (Nat × Bool)) (a:Act) (K:Act→World→Prop) (Q:Exit→Act→World→Prop)
  (hx:a.eval x=.pointer (some ⟨w.heap.size,0,none⟩)) :
  Oper.wp Tryz.prog { dst:=d,op:=.load 151 x,type:=ty,pos:=pos,after:=af,guard:=gd } a (w.alloc (Obj.cells (rnA r) 151)).drew K Q=K (a.put d (.agg (rnA r))) (w.alloc (Obj.cells (rnA r) 151)).drew:=by
 unfold Oper.wp execOp
 simp only [hx,Sem.run_bind,Sem.run_pure,Result.andThen_ok,load_nd]
 rfl
theorem wp_build_nd (w:World) (r:Rn) (d:Option Tmp) (x:Operand) (ty:TypeId) (pos:String) (af:Array Edge) (gd:Option (Nat × Bool)) (a:Act) (K:Act→World→Prop) (Q:Exit→Act→World→Prop)
  (hx:a.eval x=.agg (rnA r)) :
  Oper.wp Tryz.prog { dst:=d,op:=.buildSlice 100 1 #[(0,x)],type:=ty,pos:=pos,after:=af,guard:=gd } a (w.alloc (Obj.cells (rnA r) 151)).drew K Q=K (a.put d (.slice (some ⟨w.heap.size+1,0,none⟩) 1 1)) (((w.alloc (Obj.cells (rnA r) 151)).alloc (Obj.cells (rnA r) 151)).drew):=by
 have hb:=build_nd (w.alloc (Obj.cells (rnA r) 151)).drew r
 have hz:(w.alloc (Obj.cells (rnA r) 151)).drew.heap.size=w.heap.size+1:=by simp
 rw [hz] at hb
 unfold Oper.wp execOp
 simp only [List.map_toArray,List.map_cons,List.map_nil,hx,Sem.run_bind,Sem.run_pure,Result.andThen_ok,hb]
 rfl
attribute [local go_sem ↓] wp_load_nd wp_build_nd
theorem zszN:(Value.agg (rnA ⟨0,0,0,0,0,noSet⟩)).cells.size=261:=by rw [cells_agg,size_rnA]
theorem pos261:0 < 261:=by omega
theorem len_rnA (r:Rn):(rnA r).toList.length=1 * 261:=by rw [Array.length_toList,size_rnA]
theorem rnA_toList_one (r:Rn):∀ u∈(rnA r).toList,u.oneCell'=true:=by
 intro u hu
 exact Array.all_eq_true_iff_forall_mem.1 (rnA_one r) u (by simpa using hu)
theorem rnCells_snoc (rs:List Rn) (r:Rn):rnCells (rs++[r])=rnCells rs++(rnA r).toList:=by simp [rnCells]
theorem setNodesT {w:World} {b:Nat} {v v':Value} (h:w.heap[b]?=some (.cells #[v] 102 (0,0))):(w.setCell ⟨b,0,none⟩ v').heap[b]?=some (.cells #[v'] 102 (0,0)):=by
 rw [heap_setCell_same w b 0 #[v] _ _ h];rfl
theorem put_fin {w W w':World} {b:Nat} {v v':Value} {rs:List Rn} {r:Rn} (hb:b < w.heap.size) (hW:Below b w W)
  (h1:W.heap[b]?=some (.cells #[v] 102 (0,0))) (h2:W.ownsRow (b+1) 151 261 v rs.length (rnCells rs))
  (hg:W.grownBy w' v.ownBlock) (ho:w'.ownsRow (b+1) 151 261 v' (rs.length+1) (rnCells rs++(rnA r).toList)) :
  PostT w (w'.setCell ⟨b,0,none⟩ v') b (rs++[r]):=by
 have hsz:=hW.size
 refine ⟨(hW.trans (below_grown hg (by omega) (fun k hk=>by have:=(h2.lt k hk).1;omega))).setCell (Nat.le_refl _) _,v',?_,?_⟩
 ·apply setNodesT (v:=v)
  rw [hg.block b (by omega) (own_ne h2)];exact h1
 ·refine ownsRow_setCell_below ?_ (by simp) _
  rw [rnCells_snoc]
  simpa using ho
set_option maxHeartbeats 1000000 in
theorem put_any (w:World) (b:Nat) (rs:List Rn) (r:Rn) (h:RtS w b rs) (hn:rs.length≤1000) :
  Calls Tryz.prog 78 #[.pointer (some ⟨b,0,none⟩),.agg (rnA r)] w fun e w' =>
   e=.returned (.int .i64 (rs.length:Int))∧PostT w w' b (rs++[r]):=by
 obtain ⟨v,h1,h2⟩:=h
 have c0:w.cell? ⟨b,0,none⟩=some v:=by rw [cell_of_row _ _ _ _ _ _ h1];rfl
 have f0:w.frozen? ⟨b,0,none⟩=false:=frozen_of_row _ _ _ _ _ h1
 obtain ⟨i,i0,i1,i2,i3⟩:=info_of infoN
 have hbl:b < w.heap.size:=(Array.getElem?_eq_some_iff.1 h1).1
 have H2:=hide ((h2.alloc (Obj.cells (rnA r) 151)).alloc (Obj.cells (rnA r) 151))
 have HC:Hid (∀ j u,(rnA r).toList[j]?=some u→((w.alloc (Obj.cells (rnA r) 151)).alloc (Obj.cells (rnA r) 151)).cell? ((⟨w.heap.size+1,0,none⟩:Addr).add j)=some u):=by
  have:=cells_new (w.alloc (Obj.cells (rnA r) 151)) (rnA r).toList 151
  simp only [Array.toArray_toList,World.size_alloc] at this
  exact this
 have hH1:((w.alloc (Obj.cells (rnA r) 151)).alloc (Obj.cells (rnA r) 151)).heap[b]?=some (.cells #[v] 102 (0,0)):=by
  rw [Below.heap_alloc _ _ _ (by simp;omega),Below.heap_alloc _ _ _ hbl];exact h1
 have H1:=hide hH1
 have HI:=hide (And.intro i0 (And.intro i1 (And.intro i2 i3)))
 have HN:=hide hn
 have HO:=hide (own_ne h2)
 have hL:(rs.length:Int)≤1000:=by omega
 clear i0 i1 i2 i3 h1 h2 hn hH1
 go_enter Tryz.func78,Tryz.ntmps78
 go_wp2
 go_region_law (refine step_append_own rfl (.tmp 9) (.tmp 11) 100 rfl (b+1) 151 i (.agg (rnA ⟨0,0,0,0,0,noSet⟩)) 261 296 Tryz.underlying100 (unhide HI).1 (unhide HI).2.1 (unhide HI).2.2.1 (unhide HI).2.2.2 zszN pos261 v rs.length (rnCells rs) (by simp [Act.eval]) (by exact unhide H2) ⟨w.heap.size+1,0,none⟩ 1 1 (rnA r).toList (by simp [Act.eval]) (len_rnA r) (by exact unhide HC) (rnA_toList_one r) (by have:=unhide HN;unfold maxLen;omega) (by have:=unhide HN;omega) (by simp;omega) ?_;intro v' w' ho hg';have hr':=(hg'.block b (by simp;omega) (unhide HO)).trans (by exact unhide H1);have d0:w'.cell? ⟨b,0,none⟩=some v:=(by rw [cell_of_row _ _ _ _ _ _ hr'];rfl);have g0:w'.frozen? ⟨b,0,none⟩=false:=frozen_of_row _ _ _ _ _ hr';obtain ⟨g,cap,hv⟩:=own_form ho;subst hv;have HG:=hide hg';have HO':=hide ho;clear hg' ho hr')
 all_goals
  go_wp2
  go_ret
  exact ⟨rfl,put_fin hbl (by exact (((Below.refl b w).alloc (by omega) _).alloc (by simp;omega) _).drew) (by exact unhide H1) (by exact unhide H2) (unhide HG) (unhide HO')⟩
end Go.Proofs.YtobfpgoepaeknaaGreat
namespace Go.Proofs.YtobfpgoepaeknaaGreat
open Go.RowKit
def DoesT (F tag n:Nat):Prop :=
 ∀ (p:ByteArray) (rs:List Rn) (r:List Rn × Int) (w:World) (b:Nat),p.size≤60→r.1.length≤1000→rfF n tag p 0 0 rs=some r→RtS w b rs →
  Calls Tryz.prog F #[.pointer (some ⟨b,0,none⟩),.string p] w fun e w'=>e=.returned (.int .i64 r.2)∧PostT w w' b r.1
theorem PostT.trans {w w1 w2:World} {b:Nat} {rs rs':List Rn} (h:PostT w w1 b rs) (k:PostT w1 w2 b rs'):PostT w w2 b rs':=⟨h.1.trans k.1,k.2⟩
set_option maxHeartbeats 1000000 in
theorem read_of (n:Nat) (ih0:∀ m,m < n→DoesT 42 0 m) (ih2:∀ m,m < n→DoesT 77 2 m):DoesT 42 0 n:=by
 intro p rs r w b hp hr h hb
 have hp':(p.size:Int)≤60:=by omega
 obtain ⟨n,rfl⟩:∃ n',n=n'+1:=by cases n with | zero=>simp [rfF] at h | succ n=>exact ⟨n,rfl⟩
 simp only [rfF] at h
 have I0:=hide ih0
 have I2:=hide ih2
 have H0:=hide h
 have HR:=hide hr
 clear ih0 ih2 h hr
 go_enter Tryz.func42,Tryz.ntmps42
 go_wp2_with fail
 go_loopg [5] n (fun m s wr=>∃ q:Nat,s=.int .i64 (q:Int)∧w=wr∧Hid (rfF m 1 p q 0 rs=some r∧m≤n))
 case atStart=>exact ⟨0,rfl,rfl,unhide H0,Nat.le_refl _⟩
 case round =>
  obtain ⟨q,rfl,rfl,H⟩:=hrel
  obtain ⟨h,hm⟩:=unhide H
  clear H H0
  obtain ⟨m,rfl⟩:∃ m',gk=m'+1:=by cases gk with | zero=>simp [rfF] at h | succ m=>exact ⟨m,rfl⟩
  simp only [rfF] at h
  by_cases hc:q < p.size∧(byteAt p q == 124)=false
  ·rw [if_pos hc,Option.bind_eq_some_iff] at h
   obtain ⟨j,hj,h⟩:=h
   obtain ⟨hq,hc2⟩:=hc
   rw [byteAt_eq hq] at hc2
   have hc3:((p[q].toNat:Int) != 124)=true:=by rw [bne,hc2];rfl
   have hq':(q:Int) < (p.size:Int):=by omega
   have HC:=hide (over_any p hp 200 q j w hj)
   have H2:=hide h
   clear hj h hc2
   go_wp2_with (go_at_call 76;refine (unhide HC).mono ?_;rintro e w' ⟨rfl,rfl⟩)
   go_roundg m
   case measure=>omega
   case rel=>exact ⟨j,rfl,rfl,unhide H2,by omega⟩
  ·rw [if_neg hc] at h
   have hq:q≤p.size:=by
    by_cases hq:q≤p.size
    ·exact hq
    ·rw [if_neg hq] at h;cases h
   rw [if_pos hq,Option.bind_eq_some_iff] at h
   obtain ⟨x,hx,h⟩:=h
   have hq':(q:Int)≤(p.size:Int):=by omega
   by_cases he:q=p.size
   ·rw [if_pos he] at h
    simp only [Option.some.injEq] at h
    subst h
    have he':((q:Int) == (p.size:Int))=true:=by simp [he]
    have hge:¬(q:Int) < (p.size:Int):=by omega
    have HB:=hide (unhide I2 m (by omega) (p.extract 0 q) rs x w b (by simp;omega) (unhide HR) hx hb)
    clear hx hc he
    go_wp2_with fail
    refine (unhide HB).mono ?_
    rintro e w1 ⟨rfl,hw1⟩
    go_wp2
    go_ret
    exact ⟨rfl,hw1⟩
   ·rw [if_neg he,Option.bind_eq_some_iff] at h
    obtain ⟨y,hy,h⟩:=h
    simp only [Option.some.injEq] at h
    subst h
    have g1:=rfF_grows _ _ _ _ _ _ _ hy
    have hrl:=unhide HR
    simp only [List.length_append,List.length_cons,List.length_nil] at hrl
    have he':((q:Int) == (p.size:Int))=false:=by simp;omega
    have hlt:(q:Int) < (p.size:Int):=by omega
    have hqn:q < p.size:=by omega
    have h124:((p[q].toNat:Int) != 124)=false:=by
     have:=hc
     rw [not_and,byteAt_eq hqn] at this
     have h3:=this hqn
     rw [bne]
     revert h3
     cases ((p[q].toNat:Int) == 124)<;>simp
    have HB:=hide (unhide I2 m (by omega) (p.extract 0 q) rs x w b (by simp;omega) (by omega) hx hb)
    have HB2:=hide (fun w1 hb1=>unhide I0 m (by omega) (p.extract (q+1) p.size) x.1 y w1 b (by simp;omega) (by omega) hy hb1)
    have hz:((Tryz.zeroCells151.setIfInBounds 0 (.int .i64 4)).setIfInBounds 1 (.int .i64 x.2)).setIfInBounds 2 (.int .i64 y.2)=rnA ⟨4,x.2,y.2,0,0,noSet⟩:=by rw [zero78,rnA_kind,rnA_l,rnA_r]
    have HZ:=hide hz
    have hyl:y.1.length≤1000:=by omega
    clear hx hy hc he g1 hrl hz
    go_wp2_with fail
    refine (unhide HB).mono ?_
    rintro e w1 ⟨rfl,hw1⟩
    go_wp2_with fail
    refine (unhide HB2 w1 hw1.2).mono ?_
    rintro e w2 ⟨rfl,hw2⟩
    go_wp2_with fail
    rw [unhide HZ]
    refine (put_any _ b y.1 _ hw2.2 hyl).mono ?_
    rintro e w3 ⟨rfl,hw3⟩
    go_wp2
    go_ret
    exact ⟨rfl,(hw1.trans hw2).trans hw3⟩
end Go.Proofs.YtobfpgoepaeknaaGreat
