/-
  Parts: beside.
  Parts: behind.
  Parts: repeat.
  Parts: timesPart, partOf.
-/
import Derived.Test.YtobfpgoepaeknaaGreatPO08
import Derived.Deep.DeepCutAuto
namespace Go.Proofs.YtobfpgoepaeknaaGreat
open Go.RowKit
attribute [local go_sem ↓] Go.wp_at_zero Go.wp_at_succ
def partA (p:Part) (nv sv:Value):Array Value:=#[.bool p.empty,.int .i64 (p.first:Int),.int .i64 (p.last:Int),nv,sv]
def zeroPart:Array Value:=#[.bool false,.int .i64 0,.int .i64 0,.slice none 0 0,.slice none 0 0]
structure Bs (w wr:World) (A B:Array Value) (e:Bool) (f l:Int) (nv sv:Value):Prop where
 below:Below w.heap.size w wr
 b0:wr.heap[w.heap.size]?=some (.cells A 127 (0,0))
 b1:wr.heap[w.heap.size+1]?=some (.cells B 127 (0,0))
 b2:wr.heap[w.heap.size+1+1]?=some (.cells zeroPart 127 (0,0))
 b3:wr.heap[w.heap.size+1+1+1]?=some (.cells #[.bool e,.int .i64 f,.int .i64 l,nv,sv] 127 (0,0))
theorem Bs.lt {w wr:World} {A B:Array Value} {e:Bool} {f l:Int} {nv sv:Value} (h:Bs w wr A B e f l nv sv):w.heap.size+1+1+1 < wr.heap.size:=(Array.getElem?_eq_some_iff.1 h.b3).1
theorem Bs.start (w:World) (A B:Array Value) (e:Bool) (f l:Int) (nv sv:Value) :
  Bs w ((((w.alloc (.cells A 127)).alloc (.cells B 127)).alloc (.cells zeroPart 127)).alloc (.cells #[.bool e,.int .i64 f,.int .i64 l,nv,sv] 127)) A B e f l nv sv:=by
 have s1:(w.alloc (.cells A 127)).heap.size=w.heap.size+1:=by simp
 have s2:((w.alloc (.cells A 127)).alloc (.cells B 127)).heap.size=w.heap.size+1+1:=by simp
 have s3:(((w.alloc (.cells A 127)).alloc (.cells B 127)).alloc (.cells zeroPart 127)).heap.size=w.heap.size+1+1+1:=by simp
 refine ⟨((((Below.refl _ _).alloc (Nat.le_refl _) _).alloc (by simp) _).alloc (by simp;omega) _).alloc (by simp;omega) _,?_,?_,?_,?_⟩
 ·rw [Below.heap_alloc _ _ _ (by omega),Below.heap_alloc _ _ _ (by omega),Below.heap_alloc _ _ _ (by omega)];exact heap_alloc_new w _
 ·rw [Below.heap_alloc _ _ _ (by omega),Below.heap_alloc _ _ _ (by omega),←s1];exact heap_alloc_new _ _
 ·rw [Below.heap_alloc _ _ _ (by omega),←s2];exact heap_alloc_new _ _
 ·rw [←s3];exact heap_alloc_new _ _
theorem Bs.grown {w wr w1:World} {A B:Array Value} {e:Bool} {f l:Int} {nv sv:Value} {row:Option Nat} (h:Bs w wr A B e f l nv sv) (hg:wr.grownBy w1 row) (hr:∀ k,row=some k→w.heap.size+4≤k):Bs w w1 A B e f l nv sv:=by
 have hl:=h.lt
 refine ⟨h.below.grown hg h.below.size (fun k hk=>by have:=hr k hk;omega),?_,?_,?_,?_⟩
 ·rw [hg.block _ (by omega) (fun e=>by have:=hr _ e.symm;omega)];exact h.b0
 ·rw [hg.block _ (by omega) (fun e=>by have:=hr _ e.symm;omega)];exact h.b1
 ·rw [hg.block _ (by omega) (fun e=>by have:=hr _ e.symm;omega)];exact h.b2
 ·rw [hg.block _ (by omega) (fun e=>by have:=hr _ e.symm;omega)];exact h.b3
theorem Bs.next {w wr w1:World} {A B:Array Value} {e:Bool} {f l:Int} {nv sv:Value} (h:Bs w wr A B e f l nv sv) (hb:Below wr.heap.size wr w1):Bs w w1 A B e f l nv sv :=
 h.grown (grownBy_of_below hb none) (fun _ h=>by cases h)
theorem Bs.drew {w wr:World} {A B:Array Value} {e:Bool} {f l:Int} {nv sv:Value} (h:Bs w wr A B e f l nv sv):Bs w wr.drew A B e f l nv sv:=⟨h.below.drew,h.b0,h.b1,h.b2,h.b3⟩
theorem Bs.putN {w wr:World} {A B:Array Value} {e:Bool} {f l:Int} {nv sv:Value} (h:Bs w wr A B e f l nv sv) (nv':Value):Bs w (wr.setCell ⟨w.heap.size+1+1+1,3,none⟩ nv') A B e f l nv' sv:=by
 refine ⟨h.below.setCell (by simp;omega) _,?_,?_,?_,?_⟩
 ·rw [Below.heap_setCell _ _ _ _ (by simp;omega)];exact h.b0
 ·rw [Below.heap_setCell _ _ _ _ (by simp)];exact h.b1
 ·rw [Below.heap_setCell _ _ _ _ (by simp)];exact h.b2
 ·simp only [World.setCell,Array.getElem?_modify,if_pos,h.b3];simp
theorem Bs.putS {w wr:World} {A B:Array Value} {e:Bool} {f l:Int} {nv sv:Value} (h:Bs w wr A B e f l nv sv) (sv':Value):Bs w (wr.setCell ⟨w.heap.size+1+1+1,4,none⟩ sv') A B e f l nv sv':=by
 refine ⟨h.below.setCell (by simp;omega) _,?_,?_,?_,?_⟩
 ·rw [Below.heap_setCell _ _ _ _ (by simp;omega)];exact h.b0
 ·rw [Below.heap_setCell _ _ _ _ (by simp)];exact h.b1
 ·rw [Below.heap_setCell _ _ _ _ (by simp)];exact h.b2
 ·simp only [World.setCell,Array.getElem?_modify,if_pos,h.b3];simp
theorem NRow.of {w:World} {B:Nat} {v:Value} {xs:List Nat} {y:Nat} (h:w.ownsRow B 3 1 v (xs.length+1) (natCells xs++[.int .i64 (y:Int)])):NRow w B v (xs++[y]):=by
 unfold NRow;rw [natCells_snoc];simpa using h
theorem intCells_snoc (xs:List Int) (x:Int):intCells (xs++[x])=intCells xs++[.int .i64 x]:=by simp [intCells]
theorem ZRow.of {w:World} {B:Nat} {v:Value} {xs:List Int} {y:Int} (h:w.ownsRow B 3 1 v (xs.length+1) (intCells xs++[.int .i64 y])):ZRow w B v (xs++[y]):=by
 unfold ZRow;rw [intCells_snoc];simpa using h
theorem take_snoc' {zs:List Int} {k:Nat} (hk:k < zs.length):zs.take (k+1)=zs.take k++[zs.getD k 0]:=by
 rw [List.take_add_one,List.getD_eq_getElem?_getD,List.getElem?_eq_getElem hk];rfl
def BsZ (w:World) (N:Nat) (w4:World) (A B:Array Value) (e:Bool) (f l:Int) (nv sv:Value) (xs:List Nat) (zs:List Int):Prop :=
 Bs w w4 A B e f l nv sv∧NRow w4 (w.heap.size+4) nv xs∧ZRow w4 N sv zs∧N≤w4.heap.size∧w.heap.size+4≤N∧∀ q,nv.ownBlock=some q→q < N
theorem BsZ.step {w:World} {N:Nat} {w4 w5:World} {A B:Array Value} {e:Bool} {f l:Int} {nv sv v':Value} {xs:List Nat} {zs:List Int} {z:Int} {o:Obj} (h:BsZ w N w4 A B e f l nv sv xs zs)
  (hg:(w4.alloc o).drew.grownBy w5 sv.ownBlock) (ho:w5.ownsRow N 3 1 v' (zs.length+1) (intCells zs++[.int .i64 z])):BsZ w N (w5.setCell ⟨w.heap.size+1+1+1,4,none⟩ v') A B e f l nv v' xs (zs++[z]):=by
 obtain ⟨h1,h2,h3,h4,h5,h6⟩:=h
 have hb:Below w4.heap.size w4 (w4.alloc o).drew:=((Below.refl _ _).alloc (Nat.le_refl _) _).drew
 have hsl:∀ q,sv.ownBlock=some q→N≤q:=fun q hq=>(h3.lt q hq).1
 refine ⟨((h1.next hb).grown hg (fun q hq=>by have:=hsl q hq;omega)).putS _,?_,?_,?_,h5,h6⟩
 ·refine NRow.set ?_ (by omega) _ _
  have h2':(w4.alloc o).drew.ownsRow (w.heap.size+4) 3 1 nv xs.length (natCells xs):=h2.below hb
  refine h2'.kept hg ?_
  cases hn:nv.ownBlock with
  | none=>exact Or.inl rfl
  | some q =>
   refine Or.inr ?_
   intro e
   have:=h6 q hn
   have:=hsl q e.symm
   omega
 ·exact (ZRow.of ho).set (by omega) _ _
 ·have:=hg.size
  simp at this ⊢
  omega
theorem BsZ.s3 {w:World} {N:Nat} {w4 w5:World} {A B:Array Value} {e:Bool} {f l:Int} {nv sv:Value} {xs:List Nat} {zs:List Int} {o:Obj} (h:BsZ w N w4 A B e f l nv sv xs zs)
  (hg:(w4.alloc o).drew.grownBy w5 sv.ownBlock):Bs w w5 A B e f l nv sv :=
 (h.1.next ((Below.refl _ _).alloc (Nat.le_refl _) _).drew).grown hg (fun q hq=>by have:=(h.2.2.1.lt q hq).1;have:=h.2.2.2.2.1;omega)
def movedK (a b:Part) (k:Nat):List Nat:=a.next++(b.next.take k).map (· * 2 ^ a.next.length)
theorem movedK_snoc (a b:Part) {k:Nat} (hk:k < b.next.length):movedK a b (k+1)=movedK a b k++[b.next.getD k 0 * 2 ^ a.next.length]:=by
 unfold movedK
 rw [List.take_add_one,List.getD_eq_getElem?_getD,List.getElem?_eq_getElem hk]
 simp only [Option.toList_some,List.map_append,List.map_cons,List.map_nil,List.append_assoc,Option.getD_some]
theorem movedK_len (a b:Part) {k:Nat} (hk:k≤b.next.length):(movedK a b k).length=a.next.length+k:=by simp [movedK];omega
set_option maxRecDepth 20000 in
set_option maxHeartbeats 2000000 in
theorem beside_any (w:World) (va vb:Value) (fs:List (Nat→Bool)) (a b:Part) (ha:PartAt w va fs a) (hb:PartAt w vb fs b) (oa:a.Ok) (ob:b.Ok) (hl:a.next.length+b.next.length≤50) :
  Calls Tryz.prog 108 #[va,vb] w fun e w'=>∃ v,e=.returned v∧PartAt w' v fs (besideN a b)∧Below w.heap.size w w':=by
 obtain ⟨anv,asv,az,rfl,a2,a3,a4⟩:=ha
 obtain ⟨bnv,bsv,bz,rfl,b2,b3,b4⟩:=hb
 obtain ⟨ana,anc,rfl⟩:=a2.form
 obtain ⟨asa,asc,rfl⟩:=a3.form
 obtain ⟨bna,bnc,rfl⟩:=b2.form
 obtain ⟨bsa,bsc,rfl⟩:=b3.form
 have sa:=oa.small (by omega)
 have sb:=ob.small (by omega)
 have tt:∀ x,x < 2 ^ b.next.length→x * 2 ^ a.next.length < top:=fun x hx =>
  Nat.lt_of_lt_of_le (move_lt hx) (Nat.pow_le_pow_right (n:=2) (by omega) (show a.next.length+b.next.length≤60 by omega))
 have HM1:=hide (fun w=>move_any b.first a.next.length w (by omega) (tt _ ob.2.1))
 have HM2:=hide (fun w=>move_any b.last a.next.length w (by omega) (tt _ ob.2.2.1))
 have HM3:Hid (∀ k w,k < b.next.length→Calls Tryz.prog 64 #[.int .i64 ((b.next.getD k 0:Nat):Int),.int .i64 (a.next.length:Int)] w fun e w'=>e=.returned (.int .i64 ((b.next.getD k 0 * 2 ^ a.next.length:Nat):Int))∧w'=w):=by
  intro k w hk
  refine move_any _ _ w (by omega) (tt _ ?_)
  rw [List.getD_eq_getElem?_getD,List.getElem?_eq_getElem hk];exact ob.2.2.2 _ (List.getElem_mem _)
 have e1:=i64_or_nat a.first (b.first * 2 ^ a.next.length) sa.2.1 (tt _ ob.2.1)
 have e2:=i64_or_nat a.last (b.last * 2 ^ a.next.length) sa.2.2.1 (tt _ ob.2.2.1)
 have HL:Hid (∀ W,Below w.heap.size w W→Calls Tryz.prog 111 #[.slice ana a.next.length anc,.int .i64 0,.int .i64 0] W fun e w'=>∃ v',e=.returned v'∧NRow w' W.heap.size v' a.next∧Below W.heap.size W w'):=by
  intro W hW
  have:=link_any W _ a.next 0 0 (a2.below hW) sa.1 sa.2.2.2 (by decide) (by decide)
  rw [linkN_zero] at this
  exact this
 have hlen:(a.next.length:Int)≤50:=by omega
 have hblen:(b.next.length:Int)≤50:=by omega
 have A2:=hide a2
 have A3:=hide a3
 have B2:=hide b2
 have B3:=hide b3
 have HLL:=hide hl
 have hazl:az.length≤50:=by have:=congrArg List.length a4;rw [List.length_map,oa.1] at this;omega
 have hbzl:bz.length≤50:=by have:=congrArg List.length b4;rw [List.length_map,ob.1] at this;omega
 have HAZ:=hide hazl
 have HBZ:=hide hbzl
 have hazI:(az.length:Int)≤50:=by omega
 have hbzI:(bz.length:Int)≤50:=by omega
 have HA4:=hide a4
 have HB4:=hide b4
 obtain ⟨i,i0,i1,i2,i3⟩:=info_of info3
 have HI:=hide (And.intro i0 (And.intro i1 (And.intro i2 i3)))
 clear a2 a3 b2 b3 a4 b4 sa sb oa ob hl tt i0 i1 i2 i3 hazl hbzl
 generalize hbf:b.first * 2 ^ a.next.length=bf at *
 generalize hbl:b.last * 2 ^ a.next.length=bl at *
 have HBF:=hide hbf
 have HBL:=hide hbl
 clear hbf hbl
 cases hae:a.empty
 all_goals
  go_enter Tryz.func108,Tryz.ntmps108
  go_wp2
  go_region_held3 (fun w'=>w'.cell? ⟨w.heap.size,1,none⟩=some (.int .i64 (a.first:Int))∧w'.cell? ⟨w.heap.size+1,1,none⟩=some (.int .i64 (b.first:Int))) (go_keep) ((go_at_call 64;refine (unhide HM1 _).mono ?_;rintro e w' ⟨rfl,rfl⟩))
  go_wp2
  go_region_held3 (fun w'=>w'.cell? ⟨w.heap.size,2,none⟩=some (.int .i64 (a.last:Int))∧w'.cell? ⟨w.heap.size+1,2,none⟩=some (.int .i64 (b.last:Int))) (go_keep) ((go_at_call 64;refine (unhide HM2 _).mono ?_;rintro e w' ⟨rfl,rfl⟩))
  go_wp2_with fail
  refine (unhide HL _ (by exact (Bs.start w _ _ _ _ _ _ _).below.drew.drew)).mono ?_
  rintro e w1 ⟨v',rfl,hv,hw1⟩
  have hS:Bs w w1 (partA a (.slice ana a.next.length anc) (.slice asa az.length asc)) (partA b (.slice bna b.next.length bnc) (.slice bsa bz.length bsc)) (a.empty || b.empty) ((a.first ||| bf:Nat):Int) ((a.last ||| bl:Nat):Int) (.slice none 0 0) (.slice none 0 0):=by
   refine Bs.next ?_ hw1
   rw [partA,hae]
   exact (Bs.start w _ _ _ _ _ _ _).drew.drew
  obtain ⟨y0,y1,y2,y3,y4⟩:=part_cells hS.b3
  obtain ⟨z0,z1,z2,z3,z4⟩:=part_free hS.b3
  have hsz:w.heap.size+1+1+1 < w1.heap.size:=hS.lt
  have HS:=hide hS
  have hv4:NRow w1 (w.heap.size+4) v' a.next:=ownsRow_less hv (by simp)
  have HV:=hide hv4
  obtain ⟨na',nc',rfl⟩:=hv.form
  clear hS hv hv4 hw1 e1 e2
  go_wp2
  go_loopw [7] (fun ix wr=>∃ k nv,ix=.int .i64 (k:Nat)∧k≤b.next.length∧Hid (Bs w wr (partA a (.slice ana a.next.length anc) (.slice asa az.length asc)) (partA b (.slice bna b.next.length bnc) (.slice bsa bz.length bsc)) (a.empty || b.empty) ((a.first ||| bf:Nat):Int) ((a.last ||| bl:Nat):Int) nv (.slice none 0 0)∧NRow wr (w.heap.size+4) nv (movedK a b k))) (fun ix _=>b.next.length - (intOf ix).toNat)
  case atStart =>
   refine ⟨0,_,rfl,Nat.zero_le _,(unhide HS).putN _,?_⟩
   have:=(unhide HV).set (b:=w.heap.size+1+1+1) (by omega) 3 (.slice na' a.next.length nc')
   unfold movedK
   rw [List.take_zero,List.map_nil,List.append_nil]
   exact this
  case round =>
   rename_i wr
   obtain ⟨k,nv,rfl,hk,HH⟩:=hrel
   obtain ⟨nva,nvc,rfl⟩:=(unhide HH).2.form
   obtain ⟨x0,x1,x2,x3,x4⟩:=part_cells (unhide HH).1.b1
   obtain ⟨y0,y1,y2,y3,y4⟩:=part_cells (unhide HH).1.b3
   obtain ⟨z0,z1,z2,z3,z4⟩:=part_free (unhide HH).1.b3
   have hsz:w.heap.size+1+1+1 < wr.heap.size:=(unhide HH).1.lt
   by_cases hlt:k < b.next.length
   ·obtain ⟨g,cap,he,hc⟩:=((unhide B2).below (unhide HH).1.below).at hlt
    simp only [Value.slice.injEq,true_and] at he
    obtain ⟨rfl,rfl⟩:=he
    have hlt':(k:Int) < (b.next.length:Int):=by omega
    have HSN:=hide (movedK_snoc a b hlt)
    have HK:=hide (movedK_len a b hk)
    have HM:=hide (fun w=>unhide HM3 k w hlt)
    have hg0:g < w.heap.size:=((unhide B2).lt g rfl).2
    have hg3:¬g=w.heap.size+1+1+1:=by omega
    have hgw:¬g=wr.heap.size:=by omega
    clear hlt x0 x1 x2 x4 y0 y1 y2 y4 z0 z1 z2 z4
    generalize b.next.getD k 0=x at *
    generalize x * 2 ^ a.next.length=y at *
    have hne:∀ q,q < w.heap.size+4→some q≠(Value.slice nva (movedK a b k).length nvc).ownBlock:=fun q hq e=>by have:=((unhide HH).2.lt q e.symm).1;omega
    have HNE:=hide hne
    have HO2:=hide ((unhide HH).2.alloc (Obj.cells #[.int .i64 (y:Int)] 3))
    clear hne
    go_wp2
    go_region_law (first
      | (refine step_append_own (by rfl) _ _ _ (by rfl) (w.heap.size+4) 3 i (.int .i64 0) 1 8 Tryz.underlying37 (unhide HI).1 (unhide HI).2.1 (unhide HI).2.2.1 (unhide HI).2.2.2 rfl (by decide) _ _ _ (by rfl) (by exact unhide HO2) ⟨wr.heap.size,0,none⟩ 1 1 [.int .i64 (y:Int)] (by rfl) rfl (by exact cell_one_new _ _ _) (by intro u hu;simp at hu;subst hu;rfl) (by have:=unhide HK;have:=unhide HLL;unfold maxLen;omega) (by have:=unhide HK;have:=unhide HLL;omega) (by simp;omega) ?_;intro v' w3 ho3 hgrow;have hS3:=Bs.grown ((unhide HH).1.next ((Below.refl _ _).alloc (Nat.le_refl _) _)).drew hgrow (fun q hq=>((unhide HH).2.lt q hq).1);have z3':=(part_free hS3.b3).2.2.2.1;have y3':=(part_cells hS3.b3).2.2.2.1;have HS3:=hide hS3;have HO3:=hide ho3;obtain ⟨va3,n3,vc3,rfl⟩:=own_slice ho3;clear hS3 ho3)
      | (go_simp;go_at_call 64;refine (unhide HM _).mono ?_;rintro e w' ⟨rfl,rfl⟩))
    all_goals
     go_wp2
     go_roundw
     case rel =>
      refine ⟨k+1,_,by go_num,by omega,(unhide HS3).putN _,?_⟩
      rw [unhide HSN]
      exact (NRow.of (unhide HO3)).set (by omega) _ _
     case measure=>simp [intOf];omega
   ·have hk2:k=b.next.length:=by omega
    subst hk2
    have hZ:BsZ w wr.heap.size wr (partA a (.slice ana a.next.length anc) (.slice asa az.length asc)) (partA b (.slice bna b.next.length bnc) (.slice bsa bz.length bsc)) (a.empty || b.empty) ((a.first ||| bf:Nat):Int) ((a.last ||| bl:Nat):Int) (.slice nva (movedK a b b.next.length).length nvc) (.slice none 0 0) (movedK a b b.next.length) [] :=
     ⟨(unhide HH).1,(unhide HH).2,World.ownsRow_nil _ _ _ _,Nat.le_refl _,hsz,fun q hq=>((unhide HH).2.lt q hq).2⟩
    have HZ:=hide hZ
    clear hZ HH y0 y1 y2 y3 y4 z0 z1 z2 z3 z4
    generalize wr.heap.size=N at *
    go_wp2
    go_loopw [8] (fun ix w4=>∃ k sv,ix=.int .i64 (k:Nat)∧k≤az.length∧Hid (BsZ w N w4 (partA a (.slice ana a.next.length anc) (.slice asa az.length asc)) (partA b (.slice bna b.next.length bnc) (.slice bsa bz.length bsc)) (a.empty || b.empty) ((a.first ||| bf:Nat):Int) ((a.last ||| bl:Nat):Int) (.slice nva (movedK a b b.next.length).length nvc) sv (movedK a b b.next.length) (az.take k))) (fun ix _=>az.length - (intOf ix).toNat)
    case atStart=>exact ⟨0,_,rfl,Nat.zero_le _,by rw [List.take_zero];exact unhide HZ⟩
    case round =>
     rename World=>w4
     obtain ⟨k,sv,rfl,hk,HH⟩:=hrel
     obtain ⟨sva,svc,hsv⟩:=(unhide HH).2.2.1.form
     obtain ⟨m,hm⟩:∃ m,m=(az.take k).length:=⟨_,rfl⟩
     rw [←hm] at hsv
     subst hsv
     have HMm:=hide hm
     clear hm
     obtain ⟨x0,x1,x2,x3,x4⟩:=part_cells (unhide HH).1.b0
     obtain ⟨y0,y1,y2,y3,y4⟩:=part_cells (unhide HH).1.b3
     obtain ⟨z0,z1,z2,z3,z4⟩:=part_free (unhide HH).1.b3
     have hsz:w.heap.size+1+1+1 < w4.heap.size:=(unhide HH).1.lt
     by_cases hlt:k < az.length
     ·obtain ⟨g,cap,he,hc⟩:=((unhide A3).below (unhide HH).1.below).at hlt
      simp only [Value.slice.injEq,true_and] at he
      obtain ⟨rfl,rfl⟩:=he
      have hlt':(k:Int) < (az.length:Int):=by omega
      have HSN:=hide (take_snoc' hlt)
      have hg0:g < w.heap.size:=((unhide A3).lt g rfl).2
      have hg3:¬g=w.heap.size+1+1+1:=by omega
      have hgw:¬g=w4.heap.size:=by omega
      have HK:=hide (show (az.take k).length≤100 by have:=unhide HAZ;have:=unhide HBZ;simp;omega)
      clear hlt x0 x1 x2 x3 y0 y1 y2 y3 z0 z1 z2 z3
      generalize az.getD k 0=x at *
      have HO2:=hide ((unhide HH).2.2.1.alloc (Obj.cells #[.int .i64 x] 3))
      go_wp2
      go_region_law (refine step_append_own (by rfl) _ _ _ (by rfl) N 3 i (.int .i64 0) 1 8 Tryz.underlying37 (unhide HI).1 (unhide HI).2.1 (unhide HI).2.2.1 (unhide HI).2.2.2 rfl (by decide) _ _ _ (by rfl) (by exact unhide HO2) ⟨w4.heap.size,0,none⟩ 1 1 [.int .i64 x] (by rfl) rfl (by exact cell_one_new _ _ _) (by intro u hu;simp at hu;subst hu;rfl) (by have:=unhide HK;unfold maxLen;omega) (by have:=unhide HK;omega) (by have:=(unhide HH).2.2.2.1;simp;omega) ?_;intro v' w5 ho5 hgrow;have hS5:=BsZ.s3 (unhide HH) hgrow;have z4':=(part_free hS5.b3).2.2.2.2;have y4':=(part_cells hS5.b3).2.2.2.2;have HG5:=hide (BsZ.step (unhide HH) hgrow ho5);obtain ⟨va5,n5,vc5,rfl⟩:=own_slice ho5;clear hS5 ho5 hgrow)
      all_goals
       go_wp2
       go_roundw
       case rel =>
        refine ⟨k+1,.slice va5 n5 vc5,by go_num,by omega,?_⟩
        rw [unhide HSN]
        exact unhide HG5
       case measure=>simp [intOf];omega
     ·have hk2:k=az.length:=by omega
      subst hk2
      have HZ2:=HH
      rw [List.take_length] at HZ2
      clear x0 x1 x2 x3 y0 y1 y2 y3 y4 z0 z1 z2 z3 z4 HH HZ HMm
      go_wp2
      go_loopw [9] (fun ix w4=>∃ k sv,ix=.int .i64 (k:Nat)∧k≤bz.length∧Hid (BsZ w N w4 (partA a (.slice ana a.next.length anc) (.slice asa az.length asc)) (partA b (.slice bna b.next.length bnc) (.slice bsa bz.length bsc)) (a.empty || b.empty) ((a.first ||| bf:Nat):Int) ((a.last ||| bl:Nat):Int) (.slice nva (movedK a b b.next.length).length nvc) sv (movedK a b b.next.length) (az++bz.take k))) (fun ix _=>bz.length - (intOf ix).toNat)
      case atStart=>exact ⟨0,_,rfl,Nat.zero_le _,by rw [List.take_zero,List.append_nil];exact unhide HZ2⟩
      case round =>
       rename World=>w4
       obtain ⟨k,sv,rfl,hk,HH⟩:=hrel
       obtain ⟨sva,svc,hsv⟩:=(unhide HH).2.2.1.form
       obtain ⟨m,hm⟩:∃ m,m=(az++bz.take k).length:=⟨_,rfl⟩
       rw [←hm] at hsv
       subst hsv
       have HMm:=hide hm
       clear hm
       obtain ⟨x0,x1,x2,x3,x4⟩:=part_cells (unhide HH).1.b1
       obtain ⟨y0,y1,y2,y3,y4⟩:=part_cells (unhide HH).1.b3
       obtain ⟨z0,z1,z2,z3,z4⟩:=part_free (unhide HH).1.b3
       have hsz:w.heap.size+1+1+1 < w4.heap.size:=(unhide HH).1.lt
       by_cases hlt:k < bz.length
       ·obtain ⟨g,cap,he,hc⟩:=((unhide B3).below (unhide HH).1.below).at hlt
        simp only [Value.slice.injEq,true_and] at he
        obtain ⟨rfl,rfl⟩:=he
        have hlt':(k:Int) < (bz.length:Int):=by omega
        have HSN:=hide (take_snoc' hlt)
        have hg0:g < w.heap.size:=((unhide B3).lt g rfl).2
        have hg3:¬g=w.heap.size+1+1+1:=by omega
        have hgw:¬g=w4.heap.size:=by omega
        have HK:=hide (show (az++bz.take k).length≤100 by have:=unhide HAZ;have:=unhide HBZ;simp;omega)
        clear hlt x0 x1 x2 x3 y0 y1 y2 y3 z0 z1 z2 z3
        generalize bz.getD k 0=x at *
        have HO2:=hide ((unhide HH).2.2.1.alloc (Obj.cells #[.int .i64 x] 3))
        go_wp2
        go_region_law (refine step_append_own (by rfl) _ _ _ (by rfl) N 3 i (.int .i64 0) 1 8 Tryz.underlying37 (unhide HI).1 (unhide HI).2.1 (unhide HI).2.2.1 (unhide HI).2.2.2 rfl (by decide) _ _ _ (by rfl) (by exact unhide HO2) ⟨w4.heap.size,0,none⟩ 1 1 [.int .i64 x] (by rfl) rfl (by exact cell_one_new _ _ _) (by intro u hu;simp at hu;subst hu;rfl) (by have:=unhide HK;unfold maxLen;omega) (by have:=unhide HK;omega) (by have:=(unhide HH).2.2.2.1;simp;omega) ?_;intro v' w5 ho5 hgrow;have hS5:=BsZ.s3 (unhide HH) hgrow;have z4':=(part_free hS5.b3).2.2.2.2;have y4':=(part_cells hS5.b3).2.2.2.2;have HG5:=hide (BsZ.step (unhide HH) hgrow ho5);obtain ⟨va5,n5,vc5,rfl⟩:=own_slice ho5;clear hS5 ho5 hgrow)
        all_goals
         go_wp2
         go_roundw
         case rel =>
          refine ⟨k+1,.slice va5 n5 vc5,by go_num,by omega,?_⟩
          rw [unhide HSN]
          rw [←List.append_assoc];exact unhide HG5
         case measure=>simp [intOf];omega
       ·have hk2:k=bz.length:=by omega
        subst hk2
        have HZ3:=HH
        rw [List.take_length] at HZ3
        obtain ⟨q0,q1,q2,q3,q4⟩:=part_cells (unhide HZ3).1.b2
        obtain ⟨r0,r1,r2,r3,r4⟩:=part_free (unhide HZ3).1.b2
        go_wp2
        refine bodyPost_ret (v:=.agg #[.bool (a.empty || b.empty),.int .i64 ((a.first ||| bf:Nat):Int),.int .i64 ((a.last ||| bl:Nat):Int),.slice nva (movedK a b b.next.length).length nvc,.slice sva m svc]) (by simp [results,Tryz.results108,go_sem, *]) rfl ?_
        have HF:∀ u0 u1 u2 u3 u4,Below w.heap.size w (((((w4.setCell ⟨w.heap.size+1+1,0,none⟩ u0).setCell ⟨w.heap.size+1+1,1,none⟩ u1).setCell ⟨w.heap.size+1+1,2,none⟩ u2).setCell ⟨w.heap.size+1+1,3,none⟩ u3).setCell ⟨w.heap.size+1+1,4,none⟩ u4) :=
         fun _ _ _ _ _=>(((((unhide HZ3).1.below.setCell (by simp;omega) _).setCell (by simp;omega) _).setCell (by simp;omega) _).setCell (by simp;omega) _).setCell (by simp;omega) _
        have hbf:=unhide HBF
        have hbl:=unhide HBL
        subst hbf hbl
        have h5:=(unhide HZ3).2.2.2.2.1
        refine ⟨_,rfl,⟨_,_,az++bz,rfl,?_,?_,?_⟩,HF _ _ _ _ _⟩
        ·have e:(besideN a b).next=movedK a b b.next.length:=by simp [movedK,besideN,linkN_zero]
         rw [e]
         exact ((((((unhide HZ3).2.1.set (by omega) _ _).set (by omega) _ _).set (by omega) _ _).set (by omega) _ _).set (by omega) _ _).zero
        ·exact ((((((unhide HZ3).2.2.1.set (by omega) _ _).set (by omega) _ _).set (by omega) _ _).set (by omega) _ _).set (by omega) _ _).zero
        ·rw [List.map_append,unhide HA4,unhide HB4];rfl
end Go.Proofs.YtobfpgoepaeknaaGreat
namespace Go.Proofs.YtobfpgoepaeknaaGreat
open Go.RowKit
attribute [local go_sem ↓] Go.wp_at_zero Go.wp_at_succ
def PartBlk (w:World) (b:Nat):Prop:=∃ cs fr,w.heap[b]?=some (.cells cs 127 fr)
theorem PartBlk.set {w:World} {b:Nat} (h:PartBlk w b) (q o:Nat) (u:Value):PartBlk (w.setCell ⟨q,o,none⟩ u) b:=by
 obtain ⟨cs,fr,h⟩:=h
 by_cases hq:q=b
 ·subst hq
  simp only [PartBlk,World.setCell,Array.getElem?_modify,if_pos,h]
  exact ⟨_,_,rfl⟩
 ·exact ⟨cs,fr,by rw [Below.heap_setCell _ _ _ _ (by simpa using Ne.symm hq)];exact h⟩
theorem own_set_ty {w:World} {B e z:Nat} {v:Value} {n:Nat} {xs:List Value} {b:Nat} (h:w.ownsRow B e z v n xs) (hb:PartBlk w b) (hne:e≠127) (o:Nat) (u:Value):(w.setCell ⟨b,o,none⟩ u).ownsRow B e z v n xs:=by
 refine ⟨h.1,?_⟩
 rcases h.2 with hn | ⟨g,cap,cur,rfl,h1,hg,rest⟩
 ·exact .inl hn
 ·refine .inr ⟨g,cap,cur,rfl,h1,?_,rest⟩
  obtain ⟨cs,fr,hb⟩:=hb
  have:g≠b:=by
   rintro rfl
   rw [hg] at hb
   simp at hb
   exact hne hb.2.1
  rw [Below.heap_setCell _ _ _ _ (by simpa using this)]
  exact hg
theorem ZRow.drew {w:World} {B:Nat} {v:Value} {xs:List Int} (h:ZRow w B v xs):ZRow w.drew B v xs:=h
theorem NRow.drew {w:World} {B:Nat} {v:Value} {xs:List Nat} (h:NRow w B v xs):NRow w.drew B v xs:=h
structure Keeps (w:World) (b c:Nat) (nv sv:Value) (xs:List Nat) (zs:List Int):Prop where
 n:NRow w 0 nv xs
 s:ZRow w 0 sv zs
 pb:PartBlk w b
 pc:PartBlk w c
theorem Keeps.setB {w:World} {b c:Nat} {nv sv:Value} {xs:List Nat} {zs:List Int} (h:Keeps w b c nv sv xs zs) (o:Nat) (u:Value):Keeps (w.setCell ⟨b,o,none⟩ u) b c nv sv xs zs :=
 ⟨own_set_ty h.n h.pb (by decide) _ _,own_set_ty h.s h.pb (by decide) _ _,h.pb.set _ _ _,h.pc.set _ _ _⟩
theorem Keeps.setC {w:World} {b c:Nat} {nv sv:Value} {xs:List Nat} {zs:List Int} (h:Keeps w b c nv sv xs zs) (o:Nat) (u:Value):Keeps (w.setCell ⟨c,o,none⟩ u) b c nv sv xs zs :=
 ⟨own_set_ty h.n h.pc (by decide) _ _,own_set_ty h.s h.pc (by decide) _ _,h.pb.set _ _ _,h.pc.set _ _ _⟩
structure Bh (w wr:World) (h:Nat) (A B C:Array Value):Prop where
 below:Below w.heap.size w wr
 b0:wr.heap[w.heap.size]?=some (.cells A 127 (0,0))
 b1:wr.heap[w.heap.size+1]?=some (.cells B 127 (0,0))
 b2:wr.heap[w.heap.size+1+1]?=some (.cells zeroPart 127 (0,0))
 b3:wr.heap[h]?=some (.cells C 127 (0,0))
theorem Bh.drew {w wr:World} {h:Nat} {A B C:Array Value} (k:Bh w wr h A B C):Bh w wr.drew h A B C:=⟨k.below.drew,k.b0,k.b1,k.b2,k.b3⟩
theorem Bh.next {w wr w1:World} {h:Nat} {A B C:Array Value} (k:Bh w wr h A B C) (hb:Below wr.heap.size wr w1):Bh w w1 h A B C:=by
 have l2:=(Array.getElem?_eq_some_iff.1 k.b2).1
 have l3:=(Array.getElem?_eq_some_iff.1 k.b3).1
 exact ⟨k.below.trans (hb.mono k.below.size),(hb.block _ (by omega)).trans k.b0,(hb.block _ (by omega)).trans k.b1,(hb.block _ (by omega)).trans k.b2,(hb.block _ l3).trans k.b3⟩
theorem Bh.put {w wr:World} {h:Nat} {A B:Array Value} {c0 c1 c2 c3 c4:Value} (k:Bh w wr h A B #[c0,c1,c2,c3,c4]) (hh:w.heap.size+1+1 < h) (u:Value):Bh w (wr.setCell ⟨h,3,none⟩ u) h A B #[c0,c1,c2,u,c4]:=by
 refine ⟨k.below.setCell (by simp;omega) _,?_,?_,?_,?_⟩
 ·rw [Below.heap_setCell _ _ _ _ (by simp;omega)];exact k.b0
 ·rw [Below.heap_setCell _ _ _ _ (by simp;omega)];exact k.b1
 ·rw [Below.heap_setCell _ _ _ _ (by simp;omega)];exact k.b2
 ·simp only [World.setCell,Array.getElem?_modify,if_pos,k.b3];simp
theorem three_blocks (w:World) (A B Z:Obj):((((w.alloc A).alloc B).alloc Z)).heap[w.heap.size]?=some A∧((((w.alloc A).alloc B).alloc Z)).heap[w.heap.size+1]?=some B∧((((w.alloc A).alloc B).alloc Z)).heap[w.heap.size+1+1]?=some Z:=by
 have s1:(w.alloc A).heap.size=w.heap.size+1:=by simp
 have s2:((w.alloc A).alloc B).heap.size=w.heap.size+1+1:=by simp
 refine ⟨?_,?_,?_⟩
 ·rw [Below.heap_alloc _ _ _ (by omega),Below.heap_alloc _ _ _ (by omega)];exact heap_alloc_new w _
 ·rw [Below.heap_alloc _ _ _ (by omega),←s1];exact heap_alloc_new _ _
 ·rw [←s2];exact heap_alloc_new _ _
theorem three_below (w:World) (A B Z:Obj):Below w.heap.size w (((w.alloc A).alloc B).alloc Z):=(((Below.refl _ _).alloc (Nat.le_refl _) _).alloc (by simp) _).alloc (by simp;omega) _
set_option maxHeartbeats 2000000 in
theorem behind_any (w:World) (va vb:Value) (fs:List (Nat→Bool)) (a b:Part) (ha:PartAt w va fs a) (hb:PartAt w vb fs b) (oa:a.Ok) (ob:b.Ok) (hl:a.next.length+b.next.length≤50) :
  Calls Tryz.prog 61 #[va,vb] w fun e w'=>∃ v,e=.returned v∧PartAt w' v fs (behindN a b)∧Below w.heap.size w w':=by
 have HBE:Hid (∀ W,Below w.heap.size w W→Calls Tryz.prog 108 #[va,vb] W fun e w'=>∃ v,e=.returned v∧PartAt w' v fs (besideN a b)∧Below W.heap.size W w') :=
  fun W hW=>beside_any W va vb fs a b (ha.below hW) (hb.below hW) oa ob hl
 obtain ⟨anv,asv,az,rfl,a2,a3,a4⟩:=ha
 obtain ⟨bnv,bsv,bz,rfl,b2,b3,b4⟩:=hb
 obtain ⟨ana,anc,rfl⟩:=a2.form
 obtain ⟨asa,asc,rfl⟩:=a3.form
 obtain ⟨bna,bnc,rfl⟩:=b2.form
 obtain ⟨bsa,bsc,rfl⟩:=b3.form
 have tt:∀ x,x < 2 ^ b.next.length→x * 2 ^ a.next.length < top:=fun x hx =>
  Nat.lt_of_lt_of_le (move_lt hx) (Nat.pow_le_pow_right (n:=2) (by omega) (show a.next.length+b.next.length≤60 by omega))
 have HM1:=hide (fun w=>move_any b.first a.next.length w (by omega) (tt _ ob.2.1))
 have HM2:=hide (fun w=>move_any b.last a.next.length w (by omega) (tt _ ob.2.2.1))
 have hsm:=(besideN_ok oa ob).small (by rw [besideN_len];exact hl)
 have HL:Hid (∀ W v,NRow W 0 v (besideN a b).next→Calls Tryz.prog 111 #[v,.int .i64 (a.last:Int),.int .i64 ((b.first * 2 ^ a.next.length:Nat):Int)] W fun e w'=>∃ v',e=.returned v'∧NRow w' W.heap.size v' (behindN a b).next∧Below W.heap.size W w') :=
  fun W v hv=>link_any W v _ a.last (b.first * 2 ^ a.next.length) hv hsm.1 hsm.2.2.2 (oa.small (by omega)).2.2.1 (tt _ ob.2.1)
 have hlen:(a.next.length:Int)≤50:=by omega
 clear a2 a3 b2 b3 a4 b4 oa ob hl tt hsm
 generalize hbf:b.first * 2 ^ a.next.length=bf at *
 generalize hbl:b.last * 2 ^ a.next.length=bl at *
 have HBF:=hide hbf
 have HBL:=hide hbl
 clear hbf hbl
 go_enter Tryz.func61,Tryz.ntmps61
 go_wp2_with fail
 refine (unhide HBE _ (by exact three_below w _ _ _)).mono ?_
 rintro e w1 ⟨v,rfl,⟨cnv,csv,cz,rfl,c2,c3,c4⟩,hw1⟩
 obtain ⟨cna,cnc,rfl⟩:=c2.form
 obtain ⟨csa,csc,rfl⟩:=c3.form
 have t3:=three_blocks w (Obj.cells (partA a (.slice ana a.next.length anc) (.slice asa az.length asc)) 127) (Obj.cells (partA b (.slice bna b.next.length bnc) (.slice bsa bz.length bsc)) 127) (Obj.cells zeroPart 127)
 have hs1:=hw1.size
 simp at hs1
 have k0:=(hw1.block w.heap.size (by simp;omega)).trans t3.1
 have k1:=(hw1.block (w.heap.size+1) (by simp)).trans t3.2.1
 have k2:=(hw1.block (w.heap.size+1+1) (by simp)).trans t3.2.2
 have hB1:Below w.heap.size w w1:=(three_below w _ _ _).trans (hw1.mono (by simp;omega))
 have h4:Bh w (w1.alloc (Obj.cells #[.bool (besideN a b).empty,.int .i64 ((besideN a b).first:Int),.int .i64 ((besideN a b).last:Int),.slice cna (besideN a b).next.length cnc,.slice csa cz.length csc] 127)) w1.heap.size (partA a (.slice ana a.next.length anc) (.slice asa az.length asc)) (partA b (.slice bna b.next.length bnc) (.slice bsa bz.length bsc)) #[.bool (besideN a b).empty,.int .i64 ((besideN a b).first:Int),.int .i64 ((besideN a b).last:Int),.slice cna (besideN a b).next.length cnc,.slice csa cz.length csc] :=
  ⟨hB1.alloc hB1.size _,(Below.heap_alloc _ _ _ (by omega)).trans k0,(Below.heap_alloc _ _ _ (by omega)).trans k1,(Below.heap_alloc _ _ _ (by omega)).trans k2,heap_alloc_new _ _⟩
 obtain ⟨x0,x1,x2,x3,x4⟩:=part_cells h4.b0
 obtain ⟨y0,y1,y2,y3,y4⟩:=part_cells h4.b1
 have HB4:=hide h4
 have C2:=hide (c2.below ((Below.refl _ _).alloc (Nat.le_refl _) (Obj.cells #[.bool (besideN a b).empty,.int .i64 ((besideN a b).first:Int),.int .i64 ((besideN a b).last:Int),.slice cna (besideN a b).next.length cnc,.slice csa cz.length csc] 127)))
 have C3:=hide (c3.below ((Below.refl _ _).alloc (Nat.le_refl _) (Obj.cells #[.bool (besideN a b).empty,.int .i64 ((besideN a b).first:Int),.int .i64 ((besideN a b).last:Int),.slice cna (besideN a b).next.length cnc,.slice csa cz.length csc] 127)))
 have C4:=hide c4
 clear k0 k1 k2 hB1 h4 t3 hw1 c2 c3 c4 HBE x0 x1 x3 x4 y0 y2 y3 y4
 generalize (besideN a b).empty=be at *
 generalize hgf:(besideN a b).first=bfi at *
 generalize hgl:(besideN a b).last=bla at *
 have HGF:=hide hgf
 have HGL:=hide hgl
 clear hgf hgl
 go_upto_region 3 with fail
 go_cut [] (fun wx=>∃ nva n nvc,Hid (Bh w wx w1.heap.size (partA a (.slice ana a.next.length anc) (.slice asa az.length asc)) (partA b (.slice bna b.next.length bnc) (.slice bsa bz.length bsc)) #[.bool be,.int .i64 (bfi:Int),.int .i64 (bla:Int),.slice nva n nvc,.slice csa cz.length csc]∧Keeps wx (w.heap.size+1+1) w1.heap.size (.slice nva n nvc) (.slice csa cz.length csc) (behindN a b).next cz))
 case first =>
  go_region_with ((first
   | (go_at_call 64;refine (unhide HM1 _).mono ?_;rintro e w' ⟨rfl,rfl⟩)
   | (go_at_call 111;refine (unhide HL _ _ (by exact unhide C2)).mono ?_;rintro e w3 ⟨v',rfl,hv,hw3⟩;have hb3:=(unhide HB4).drew.next hw3;obtain ⟨v0,v1,v2,v3,v4⟩:=part_cells hb3.b3;obtain ⟨f0,f1,f2,f3,f4⟩:=part_free hb3.b3;obtain ⟨nva,nvc,rfl⟩:=hv.form;have HB3:=hide hb3;have HV:=hide hv;have HZ:=hide ((unhide C3).drew.below hw3);clear hb3 hv hw3 v0 v1 v2 v4 f0 f1 f2 f4)))
  all_goals
   go_wp2_with fail
   go_meet
   exact ⟨nva,_,nvc,(unhide HB3).put (by omega) _,Keeps.setC ⟨(unhide HV).zero,unhide HZ,⟨_,_,(unhide HB3).b2⟩,⟨_,_,(unhide HB3).b3⟩⟩ _ _⟩
 case rest =>
  obtain ⟨nva,n,nvc,HC⟩:=hcut
  obtain ⟨x0,x1,x2,x3,x4⟩:=part_cells (unhide HC).1.b0
  obtain ⟨y0,y1,y2,y3,y4⟩:=part_cells (unhide HC).1.b1
  obtain ⟨p0,p1,p2,p3,p4⟩:=part_cells (unhide HC).1.b2
  obtain ⟨r0,r1,r2,r3,r4⟩:=part_free (unhide HC).1.b2
  obtain ⟨s0,s1,s2,s3,s4⟩:=part_cells (unhide HC).1.b3
  obtain ⟨f0,f1,f2,f3,f4⟩:=part_free (unhide HC).1.b3
  clear x2 x3 x4 y1 y3 y4
  cases hae:a.empty<;>cases hbe:b.empty
  all_goals
   go_wp2_with (go_at_call 64;refine (unhide HM2 _).mono ?_;rintro e w' ⟨rfl,rfl⟩)
  all_goals
   have hgf:=unhide HGF
   have hgl:=unhide HGL
   have hbl:=unhide HBL
   refine bodyPost_ret (v:=.agg #[.bool (behindN a b).empty,.int .i64 ((behindN a b).first:Int),.int .i64 ((behindN a b).last:Int),.slice nva n nvc,.slice csa cz.length csc]) (by simp [results,Tryz.results61,go_sem,behindN, *]) rfl ?_
   refine ⟨_,rfl,⟨_,_,cz,rfl,Keeps.n (b:=w.heap.size+1+1) (c:=w1.heap.size) (sv:=.slice csa cz.length csc) (zs:=cz) ?_,Keeps.s (b:=w.heap.size+1+1) (c:=w1.heap.size) (nv:=.slice nva n nvc) (xs:=(behindN a b).next) ?_,unhide C4⟩,?_⟩
   ·repeat (first | refine Keeps.setB ?_ _ _ | refine Keeps.setC ?_ _ _)
    exact (unhide HC).2
   ·repeat (first | refine Keeps.setB ?_ _ _ | refine Keeps.setC ?_ _ _)
    exact (unhide HC).2
   ·repeat (refine Below.setCell ?_ (by first | (simp;done) | (simp;omega)) _)
    exact (unhide HC).1.below
end Go.Proofs.YtobfpgoepaeknaaGreat
namespace Go.Proofs.YtobfpgoepaeknaaGreat
open Go.RowKit
attribute [local go_sem ↓] Go.wp_at_zero Go.wp_at_succ
theorem PartAt.setP {w:World} {v:Value} {fs:List (Nat→Bool)} {p:Part} {b:Nat} (h:PartAt w v fs p) (hb:PartBlk w b) (o:Nat) (u:Value):PartAt (w.setCell ⟨b,o,none⟩ u) v fs p:=by
 obtain ⟨nv,sv,zs,h1,h2,h3,h4⟩:=h
 exact ⟨nv,sv,zs,h1,own_set_ty h2 hb (by decide) _ _,own_set_ty h3 hb (by decide) _ _,h4⟩
def set5 (w:World) (b:Nat) (u0 u1 u2 u3 u4:Value):World :=
 ((((w.setCell ⟨b,0,none⟩ u0).setCell ⟨b,1,none⟩ u1).setCell ⟨b,2,none⟩ u2).setCell ⟨b,3,none⟩ u3).setCell ⟨b,4,none⟩ u4
theorem set5_below {w w0:World} {B b:Nat} {u0 u1 u2 u3 u4:Value} (h:Below B w0 w) (hb:B≤b):Below B w0 (set5 w b u0 u1 u2 u3 u4) :=
 ((((h.setCell hb _).setCell hb _).setCell hb _).setCell hb _).setCell hb _
theorem set5_part {w:World} {v:Value} {fs:List (Nat→Bool)} {p:Part} {b:Nat} {u0 u1 u2 u3 u4:Value} (h:PartAt w v fs p) (hb:PartBlk w b):PartAt (set5 w b u0 u1 u2 u3 u4) v fs p :=
 ((((h.setP hb _ _).setP (hb.set _ _ _) _ _).setP ((hb.set _ _ _).set _ _ _) _ _).setP (((hb.set _ _ _).set _ _ _).set _ _ _) _ _).setP ((((hb.set _ _ _).set _ _ _).set _ _ _).set _ _ _) _ _
theorem set5_same {w:World} {b:Nat} {c0 c1 c2 c3 c4 u0 u1 u2 u3 u4:Value} (h:w.heap[b]?=some (.cells #[c0,c1,c2,c3,c4] 127 (0,0))):(set5 w b u0 u1 u2 u3 u4).heap[b]?=some (.cells #[u0,u1,u2,u3,u4] 127 (0,0)):=by
 simp [set5,World.setCell,Array.getElem?_modify,h]
theorem set5_other {w:World} {b c:Nat} {u0 u1 u2 u3 u4:Value} (h:c≠b):(set5 w b u0 u1 u2 u3 u4).heap[c]?=w.heap[c]?:=by
 unfold set5
 rw [Below.heap_setCell _ _ _ _ (by simpa using h),Below.heap_setCell _ _ _ _ (by simpa using h),Below.heap_setCell _ _ _ _ (by simpa using h),Below.heap_setCell _ _ _ _ (by simpa using h),Below.heap_setCell _ _ _ _ (by simpa using h)]
structure Rp (w wr:World) (A:Array Value) (c0 c1 c2 c3 c4:Value):Prop where
 below:Below w.heap.size w wr
 b0:wr.heap[w.heap.size]?=some (.cells A 127 (0,0))
 b1:wr.heap[w.heap.size+1]?=some (.cells zeroPart 127 (0,0))
 b2:wr.heap[w.heap.size+1+1]?=some (.cells #[c0,c1,c2,c3,c4] 127 (0,0))
theorem Rp.next {w wr w1:World} {A:Array Value} {c0 c1 c2 c3 c4:Value} (k:Rp w wr A c0 c1 c2 c3 c4) (hb:Below wr.heap.size wr w1):Rp w w1 A c0 c1 c2 c3 c4:=by
 have l2:=(Array.getElem?_eq_some_iff.1 k.b2).1
 exact ⟨k.below.trans (hb.mono k.below.size),(hb.block _ (by omega)).trans k.b0,(hb.block _ (by omega)).trans k.b1,(hb.block _ (by omega)).trans k.b2⟩
theorem Rp.drew {w wr:World} {A:Array Value} {c0 c1 c2 c3 c4:Value} (k:Rp w wr A c0 c1 c2 c3 c4):Rp w wr.drew A c0 c1 c2 c3 c4:=⟨k.below.drew,k.b0,k.b1,k.b2⟩
theorem Rp.put {w wr:World} {A:Array Value} {c0 c1 c2 c3 c4:Value} (k:Rp w wr A c0 c1 c2 c3 c4) (u0 u1 u2 u3 u4:Value):Rp w (set5 wr (w.heap.size+1+1) u0 u1 u2 u3 u4) A u0 u1 u2 u3 u4 :=
 ⟨set5_below k.below (by omega),(set5_other (by omega)).trans k.b0,(set5_other (by omega)).trans k.b1,set5_same k.b2⟩
theorem PartAt.drew {w:World} {v:Value} {fs:List (Nat→Bool)} {p:Part} (h:PartAt w v fs p):PartAt w.drew v fs p:=h
set_option maxHeartbeats 2000000 in
theorem repeat_any (w:World) (va:Value) (fs:List (Nat→Bool)) (a:Part) (low high:Nat) (ha:PartAt w va fs a) (oa:a.Ok) (hh:high≤9) (hlo:low≤9) (hl:a.next.length * high≤50) :
  Calls Tryz.prog 148 #[va,.int .i64 (low:Int),.int .i64 (high:Int)] w fun e w'=>∃ v,e=.returned v∧PartAt w' v fs (repeatN a low high)∧Below w.heap.size w w':=by
 have HA:=hide ha
 obtain ⟨anv,asv,az,rfl,a2,a3,a4⟩:=ha
 obtain ⟨ana,anc,rfl⟩:=a2.form
 obtain ⟨asa,asc,rfl⟩:=a3.form
 have HOA:=hide oa
 have hmul:∀ k,k < high→a.next.length * k+a.next.length≤50:=fun k hk=>by
  have:a.next.length * (k+1)≤a.next.length * high:=Nat.mul_le_mul_left _ hk
  rw [Nat.mul_succ] at this;omega
 have HMU:=hide hmul
 have hhI:(high:Int)≤9:=by omega
 have hloI:(low:Int)≤9:=by omega
 clear a2 a3 a4 oa hl hh hlo hmul
 have t3:=three_blocks w (Obj.cells (partA a (.slice ana a.next.length anc) (.slice asa az.length asc)) 127) (Obj.cells zeroPart 127) (Obj.cells #[.bool true,.int .i64 0,.int .i64 0,.slice none 0 0,.slice none 0 0] 127)
 have hR0:Rp w (((w.alloc (Obj.cells (partA a (.slice ana a.next.length anc) (.slice asa az.length asc)) 127)).alloc (Obj.cells zeroPart 127)).alloc (Obj.cells #[.bool true,.int .i64 0,.int .i64 0,.slice none 0 0,.slice none 0 0] 127)) (partA a (.slice ana a.next.length anc) (.slice asa az.length asc)) (.bool true) (.int .i64 0) (.int .i64 0) (.slice none 0 0) (.slice none 0 0) :=
  ⟨three_below _ _ _ _,t3.1,t3.2.1,t3.2.2⟩
 have HR0:=hide hR0
 clear t3 hR0
 go_enter Tryz.func148,Tryz.ntmps148
 go_wp2
 go_loopw [8] (fun ix wr=>∃ (k:Nat) (c0:Bool) (c1 c2:Nat) (n1 n2:Option Addr) (m1 m2 p1 p2:Nat),ix=.int .i64 (k:Nat)∧k≤high∧Hid (Rp w wr (partA a (.slice ana a.next.length anc) (.slice asa az.length asc)) (.bool c0) (.int .i64 (c1:Int)) (.int .i64 (c2:Int)) (.slice n1 m1 p1) (.slice n2 m2 p2)∧PartAt wr (.agg #[.bool c0,.int .i64 (c1:Int),.int .i64 (c2:Int),.slice n1 m1 p1,.slice n2 m2 p2]) fs (repeatN a low k))) (fun ix _=>high - (intOf ix).toNat)
 case atStart =>
  refine ⟨0,true,0,0,none,none,0,0,0,0,rfl,Nat.zero_le _,unhide HR0,?_⟩
  exact ⟨_,_,[],rfl,World.ownsRow_nil _ _ _ _,World.ownsRow_nil _ _ _ _,rfl⟩
 case round =>
  rename World=>wr
  obtain ⟨k,c0,c1,c2,n1,n2,m1,m2,p1,p2,rfl,hk,HH⟩:=hrel
  obtain ⟨x0,x1,x2,x3,x4⟩:=part_cells (unhide HH).1.b0
  obtain ⟨y0,y1,y2,y3,y4⟩:=part_cells (unhide HH).1.b2
  obtain ⟨z0,z1,z2,z3,z4⟩:=part_free (unhide HH).1.b2
  by_cases hlt:k < high
  ·have hlt':(k:Int) < (high:Int):=by omega
   have HRK:=hide (repeatN_ok (unhide HOA) low k)
   have HLK:=hide (show (repeatN a low k).next.length+a.next.length≤50 by rw [repeatN_len];exact unhide HMU k hlt)
   by_cases hkl:k < low
   ·have hkl':(k:Int) < (low:Int):=by omega
    have HC:=hide (behind_any wr _ _ fs _ _ (unhide HH).2 ((unhide HA).below (unhide HH).1.below) (unhide HRK) (unhide HOA) (unhide HLK))
    have HSN:Hid (behindN (repeatN a low k) a=repeatN a low (k+1)):=by show _=_;rw [repeatN,if_pos hkl]
    clear hlt hkl
    go_wp2_with fail
    refine (unhide HC).mono ?_
    rintro e w3 ⟨v,rfl,hv,hw3⟩
    rw [unhide HSN] at hv
    obtain ⟨nv,sv,zs,rfl,v2,v3,v4⟩:=id hv
    obtain ⟨va1,vc1,rfl⟩:=v2.form
    obtain ⟨va2,vc2,rfl⟩:=v3.form
    have hr3:=(unhide HH).1.next hw3
    obtain ⟨y0',y1',y2',y3',y4'⟩:=part_cells hr3.b2
    obtain ⟨z0',z1',z2',z3',z4'⟩:=part_free hr3.b2
    have HR3:=hide hr3
    have HV:=hide hv
    clear v2 v3 v4 hv hr3 hw3 HC
    go_wp2
    go_roundw
    case rel =>
     exact ⟨k+1,_,_,_,_,_,_,_,_,_,by go_num,by omega,(unhide HR3).put _ _ _ _ _,set5_part (unhide HV) ⟨_,_,(unhide HR3).b2⟩⟩
    case measure=>simp [intOf];omega
   ·have hkl':(low:Int)≤(k:Int):=by omega
    have HC:=hide (orEmpty_any wr.drew _ fs a ((unhide HA).below (unhide HH).1.below).drew)
    have HSN:Hid (behindN (repeatN a low k) (orEmptyN a)=repeatN a low (k+1)):=by show _=_;rw [repeatN,if_neg hkl]
    clear hlt hkl
    go_wp2
    go_region_with ((first
     | (go_at_call 109;refine (unhide HC).mono ?_;rintro e w2 ⟨v,rfl,hv,hw2⟩;have hr2:=(unhide HH).1.drew.next hw2;obtain ⟨y0',y1',y2',y3',y4'⟩:=part_cells hr2.b2;have HD:=hide (behind_any w2 _ _ fs _ _ ((unhide HH).2.drew.below hw2) hv (unhide HRK) (orEmptyN_ok (unhide HOA)) (unhide HLK));have HR2:=hide hr2;obtain ⟨nv,sv,zs,rfl,v2,v3,v4⟩:=id hv;obtain ⟨va1,vc1,rfl⟩:=v2.form;obtain ⟨va2,vc2,rfl⟩:=v3.form;clear hv hr2 hw2 v2 v3 v4)
     | (go_at_call 61;refine (unhide HD).mono ?_;rintro e w3 ⟨v',rfl,hv,hw3⟩;rw [unhide HSN] at hv;have hr3:=(unhide HR2).next hw3;obtain ⟨y0'',y1'',y2'',y3'',y4''⟩:=part_cells hr3.b2;obtain ⟨z0'',z1'',z2'',z3'',z4''⟩:=part_free hr3.b2;obtain ⟨nv',sv',zs',rfl,v2',v3',v4'⟩:=id hv;obtain ⟨va3,vc3,rfl⟩:=v2'.form;obtain ⟨va4,vc4,rfl⟩:=v3'.form;have HR3:=hide hr3;have HV:=hide hv;clear hv hr3 hw3 v2' v3' v4')))
    all_goals
     go_wp2
     go_roundw
     case rel =>
      exact ⟨k+1,_,_,_,_,_,_,_,_,_,by go_num,by omega,(unhide HR3).put _ _ _ _ _,set5_part (unhide HV) ⟨_,_,(unhide HR3).b2⟩⟩
     case measure=>simp [intOf];omega
  ·have hk2:k=high:=by omega
   subst hk2
   obtain ⟨q0,q1,q2,q3,q4⟩:=part_cells (unhide HH).1.b1
   obtain ⟨r0,r1,r2,r3,r4⟩:=part_free (unhide HH).1.b1
   go_wp2
   refine bodyPost_ret (v:=.agg #[.bool c0,.int .i64 (c1:Int),.int .i64 (c2:Int),.slice n1 m1 p1,.slice n2 m2 p2]) (by simp [results,Tryz.results148,go_sem, *]) rfl ?_
   exact ⟨_,rfl,set5_part (unhide HH).2 ⟨_,_,(unhide HH).1.b1⟩,set5_below (unhide HH).1.below (by omega)⟩
end Go.Proofs.YtobfpgoepaeknaaGreat
namespace Go.Proofs.YtobfpgoepaeknaaGreat
open Go.RowKit
def NdRow (w:World) (v:Value) (ns:List Nd):Prop:=w.ownsRow 0 186 6 v ns.length (nodeCells ns)
theorem NdRow.below {w w':World} {v:Value} {ns:List Nd} (h:NdRow w v ns) (hb:Below w.heap.size w w'):NdRow w' v ns:=own_below h hb
def DoesP (ns:List Nd) (fs:List (Nat→Bool)) (nv sv:Value) (i:Int) (p:Part):Prop :=
 ∀ w,NdRow w nv ns→Calls Tryz.prog 60 #[.agg #[nv,sv],.int .i64 i] w fun e w'=>∃ v,e=.returned v∧PartAt w' v fs p∧Below w.heap.size w w'
def ndA (n:Nd):Array Value:=#[.int .i64 n.kind,.int .i64 n.left,.int .i64 n.right,.int .i64 n.low,.int .i64 n.high,.int .i64 n.set]
theorem empty_at (w:World) (fs:List (Nat→Bool)):PartAt w (.agg #[.bool true,.int .i64 0,.int .i64 0,.slice none 0 0,.slice none 0 0]) fs emptyN:=⟨_,_,[],rfl,World.ownsRow_nil _ _ _ _,World.ownsRow_nil _ _ _ _,rfl⟩
theorem void_at (w:World) (fs:List (Nat→Bool)):PartAt w (.agg #[.bool false,.int .i64 0,.int .i64 0,.slice none 0 0,.slice none 0 0]) fs voidN:=⟨_,_,[],rfl,World.ownsRow_nil _ _ _ _,World.ownsRow_nil _ _ _ _,rfl⟩
set_option maxHeartbeats 1000000 in
theorem timesPart_of (ns:List Nd) (fs:List (Nat→Bool)) (g cap sn sc:Nat) (sa:Option Addr) (n:Nd) (x y:Nat) (a:Re) (hx:n.low=(x:Int)) (hy:n.high=(y:Int)) (x9:x≤9) (y9:y≤9)
  (ih:x≤y→y≠0→DoesP ns fs (.slice (some ⟨g,0,none⟩) ns.length cap) (.slice sa sn sc) n.left (partN a)) (hl:x≤y→y≠0→(partN a).next.length * y≤50) (w:World) (hn:NdRow w (.slice (some ⟨g,0,none⟩) ns.length cap) ns) :
  Calls Tryz.prog 107 #[.agg #[.slice (some ⟨g,0,none⟩) ns.length cap,.slice sa sn sc],.agg (ndA n)] w fun e w'=>∃ v,e=.returned v∧PartAt w' v fs (partN (.times x y a))∧Below w.heap.size w w':=by
 have t3:=three_blocks w (Obj.cells #[.slice (some ⟨g,0,none⟩) ns.length cap,.slice sa sn sc] 86) (Obj.cells (ndA n) 186) (Obj.cells zeroPart 127)
 have hb3:=three_below w (Obj.cells #[.slice (some ⟨g,0,none⟩) ns.length cap,.slice sa sn sc] 86) (Obj.cells (ndA n) 186) (Obj.cells zeroPart 127)
 have HT3:=hide t3
 have HB3:=hide hb3
 have HN:=hide hn
 clear t3 hb3 hn
 unfold ndA
 rw [hx,hy]
 by_cases c1:y < x
 ·have e1:partN (.times x y a)=voidN:=by rw [partN_times,if_pos c1]
  rw [e1]
  have c1':(y:Int) < (x:Int):=by omega
  clear ih hl
  go_enter Tryz.func107,Tryz.ntmps107
  go_wp2
  refine bodyPost_ret (v:=.agg #[.bool false,.int .i64 0,.int .i64 0,.slice none 0 0,.slice none 0 0]) (by simp [results,Tryz.results107,go_sem]) rfl ?_
  exact ⟨_,rfl,void_at _ _,by exact three_below _ _ _ _⟩
 ·have c1':(x:Int)≤(y:Int):=by omega
  by_cases c2:y=0
  ·subst c2
   have e1:partN (.times x 0 a)=emptyN:=by rw [partN_times,if_neg c1];rfl
   rw [e1]
   have hx0:x=0:=by omega
   subst hx0
   clear ih hl c1 c1'
   go_enter Tryz.func107,Tryz.ntmps107
   go_wp2
   refine bodyPost_ret (v:=.agg #[.bool true,.int .i64 0,.int .i64 0,.slice none 0 0,.slice none 0 0]) (by simp [results,Tryz.results107,go_sem]) rfl ?_
   exact ⟨_,rfl,empty_at _ _,by exact three_below _ _ _ _⟩
  ·have e1:partN (.times x y a)=repeatN (partN a) x y:=by rw [partN_times,if_neg c1,if_neg c2]
   rw [e1]
   have c2':¬(y:Int)=0:=by omega
   have HIH:=hide (ih (by omega) c2)
   have HL:=hide (hl (by omega) c2)
   have H9:=hide (And.intro x9 y9)
   clear ih hl c1 c2 x9 y9
   go_enter Tryz.func107,Tryz.ntmps107
   go_wp2_with fail
   refine (unhide HIH _ ((unhide HN).below (by exact three_below _ _ _ _))).mono ?_
   rintro e w1 ⟨v,rfl,hv,hw1⟩
   have k1:=(hw1.block (w.heap.size+1) (by simp)).trans (three_blocks w _ _ _).2.1
   have k2:=(hw1.block (w.heap.size+1+1) (by simp)).trans (three_blocks w _ _ _).2.2
   have hs1:w.heap.size+1+1 < w1.heap.size:=(Array.getElem?_eq_some_iff.1 k2).1
   have hs0:w.heap.size+1 < w1.heap.size:=by omega
   have hbw:Below w.heap.size w w1:=(three_below w _ _ _).trans (hw1.mono (by simp;omega))
   have d3:w1.cell? ⟨w.heap.size+1,3,none⟩=some (.int .i64 (x:Int)):=by rw [cell_of_row _ _ _ _ _ _ k1];rfl
   have d4:w1.cell? ⟨w.heap.size+1,4,none⟩=some (.int .i64 (y:Int)):=by rw [cell_of_row _ _ _ _ _ _ k1];rfl
   have HV:=hide hv
   obtain ⟨nv,sv,zs,rfl,v2,v3,v4⟩:=id hv
   obtain ⟨va1,vc1,rfl⟩:=v2.form
   obtain ⟨va2,vc2,rfl⟩:=v3.form
   have HK2:=hide k2
   have HBW:=hide hbw
   clear hv v2 v3 v4 hw1 k1 k2 hbw
   go_wp2_with fail
   refine (repeat_any _ _ fs (partN a) x y (PartAt.below (unhide HV) (by exact (Below.refl _ _).alloc (Nat.le_refl _) _)) (partN_ok a) (unhide H9).2 (unhide H9).1 (unhide HL)).mono ?_
   rintro e w2 ⟨v',rfl,hv',hw2⟩
   have k2':=(hw2.block (w.heap.size+1+1) (by simp;omega)).trans ((Below.heap_alloc _ _ _ (by omega)).trans (unhide HK2))
   obtain ⟨q0,q1,q2,q3,q4⟩:=part_cells k2'
   obtain ⟨r0,r1,r2,r3,r4⟩:=part_free k2'
   have HV':=hide hv'
   obtain ⟨nv',sv',zs',rfl,v2',v3',v4'⟩:=id hv'
   obtain ⟨va3,vc3,rfl⟩:=v2'.form
   obtain ⟨va4,vc4,rfl⟩:=v3'.form
   have HBW2:=hide (((unhide HBW).alloc (by omega) _).trans (hw2.mono (by simp;omega)))
   have HK2':=hide k2'
   clear hv' v2' v3' v4' hw2 k2'
   go_wp2
   refine bodyPost_ret (v:=.agg #[.bool (repeatN (partN a) x y).empty,.int .i64 ((repeatN (partN a) x y).first:Int),.int .i64 ((repeatN (partN a) x y).last:Int),.slice va3 (repeatN (partN a) x y).next.length vc3,.slice va4 zs'.length vc4]) (by simp [results,Tryz.results107,go_sem, *]) rfl ?_
   exact ⟨_,rfl,set5_part (unhide HV') ⟨_,_,unhide HK2'⟩,set5_below (unhide HBW2) (by omega)⟩
end Go.Proofs.YtobfpgoepaeknaaGreat
