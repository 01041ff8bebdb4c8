/-
  Parts: timesPart, partOf.
  Parts: partOf.
  The automaton: setAt.
  Blocks of cells that hold an array of 256 numbers between other cells.
-/
import Derived.Test.YtobfpgoepaeknaaGreatTA19
import Derived.Test.YtobfpgoepaeknaaGreatTA06
import Derived.Test.YtobfpgoepaeknaaGreatTA10
namespace Go.Proofs.YtobfpgoepaeknaaGreat
open Go.RowKit
def NdRow (w:World) (v:Value) (ns:List Nd):Prop:=w.ownsRow 0 186 6 v ns.length (nodeCells ns)
theorem NdRow.below {w w':World} {v:Value} {ns:List Nd} (h:NdRow w v ns) (hb:Below w.heap.size w w'):NdRow w' v ns:=own_below h hb
def DoesP (ns:List Nd) (fs:List (Nat→Bool)) (nv sv:Value) (i:Int) (p:Part):Prop :=
 ∀ w,NdRow w nv ns→Calls Tryz.prog 60 #[.agg #[nv,sv],.int .i64 i] w fun e w'=>∃ v,e=.returned v∧PartAt w' v fs p∧Below w.heap.size w w'
def ndA (n:Nd):Array Value:=#[.int .i64 n.kind,.int .i64 n.left,.int .i64 n.right,.int .i64 n.low,.int .i64 n.high,.int .i64 n.set]
theorem empty_at (w:World) (fs:List (Nat→Bool)):PartAt w (.agg #[.bool true,.int .i64 0,.int .i64 0,.slice none 0 0,.slice none 0 0]) fs emptyN:=⟨_,_,[],rfl,World.ownsRow_nil _ _ _ _,World.ownsRow_nil _ _ _ _,rfl⟩
theorem void_at (w:World) (fs:List (Nat→Bool)):PartAt w (.agg #[.bool false,.int .i64 0,.int .i64 0,.slice none 0 0,.slice none 0 0]) fs voidN:=⟨_,_,[],rfl,World.ownsRow_nil _ _ _ _,World.ownsRow_nil _ _ _ _,rfl⟩
set_option maxHeartbeats 1000000 in
theorem timesPart_of (ns:List Nd) (fs:List (Nat→Bool)) (g cap sn sc:Nat) (sa:Option Addr) (n:Nd) (x y:Nat) (a:Re) (hx:n.low=(x:Int)) (hy:n.high=(y:Int)) (x9:x≤9) (y9:y≤9)
  (ih:x≤y→y≠0→DoesP ns fs (.slice (some ⟨g,0,none⟩) ns.length cap) (.slice sa sn sc) n.left (partN a)) (hl:x≤y→y≠0→(partN a).next.length * y≤50) (w:World) (hn:NdRow w (.slice (some ⟨g,0,none⟩) ns.length cap) ns) :
  Calls Tryz.prog 107 #[.agg #[.slice (some ⟨g,0,none⟩) ns.length cap,.slice sa sn sc],.agg (ndA n)] w fun e w'=>∃ v,e=.returned v∧PartAt w' v fs (partN (.times x y a))∧Below w.heap.size w w':=by
 have t3:=three_blocks w (Obj.cells #[.slice (some ⟨g,0,none⟩) ns.length cap,.slice sa sn sc] 86) (Obj.cells (ndA n) 186) (Obj.cells zeroPart 127)
 have hb3:=three_below w (Obj.cells #[.slice (some ⟨g,0,none⟩) ns.length cap,.slice sa sn sc] 86) (Obj.cells (ndA n) 186) (Obj.cells zeroPart 127)
 have HT3:=hide t3
 have HB3:=hide hb3
 have HN:=hide hn
 clear t3 hb3 hn
 unfold ndA
 rw [hx,hy]
 by_cases c1:y < x
 ·have e1:partN (.times x y a)=voidN:=by rw [partN_times,if_pos c1]
  rw [e1]
  have c1':(y:Int) < (x:Int):=by omega
  clear ih hl
  go_enter Tryz.func107,Tryz.ntmps107
  go_wp2
  refine bodyPost_ret (v:=.agg #[.bool false,.int .i64 0,.int .i64 0,.slice none 0 0,.slice none 0 0]) (by simp [results,Tryz.results107,go_sem]) rfl ?_
  exact ⟨_,rfl,void_at _ _,by exact three_below _ _ _ _⟩
 ·have c1':(x:Int)≤(y:Int):=by omega
  by_cases c2:y=0
  ·subst c2
   have e1:partN (.times x 0 a)=emptyN:=by rw [partN_times,if_neg c1];rfl
   rw [e1]
   have hx0:x=0:=by omega
   subst hx0
   clear ih hl c1 c1'
   go_enter Tryz.func107,Tryz.ntmps107
   go_wp2
   refine bodyPost_ret (v:=.agg #[.bool true,.int .i64 0,.int .i64 0,.slice none 0 0,.slice none 0 0]) (by simp [results,Tryz.results107,go_sem]) rfl ?_
   exact ⟨_,rfl,empty_at _ _,by exact three_below _ _ _ _⟩
  ·have e1:partN (.times x y a)=repeatN (partN a) x y:=by rw [partN_times,if_neg c1,if_neg c2]
   rw [e1]
   have c2':¬(y:Int)=0:=by omega
   have HIH:=hide (ih (by omega) c2)
   have HL:=hide (hl (by omega) c2)
   have H9:=hide (And.intro x9 y9)
   clear ih hl c1 c2 x9 y9
   go_enter Tryz.func107,Tryz.ntmps107
   go_wp2_with fail
   refine (unhide HIH _ ((unhide HN).below (by exact three_below _ _ _ _))).mono ?_
   rintro e w1 ⟨v,rfl,hv,hw1⟩
   have k1:=(hw1.block (w.heap.size+1) (by simp)).trans (three_blocks w _ _ _).2.1
   have k2:=(hw1.block (w.heap.size+1+1) (by simp)).trans (three_blocks w _ _ _).2.2
   have hs1:w.heap.size+1+1 < w1.heap.size:=(Array.getElem?_eq_some_iff.1 k2).1
   have hs0:w.heap.size+1 < w1.heap.size:=by omega
   have hbw:Below w.heap.size w w1:=(three_below w _ _ _).trans (hw1.mono (by simp;omega))
   have d3:w1.cell? ⟨w.heap.size+1,3,none⟩=some (.int .i64 (x:Int)):=by rw [cell_of_row _ _ _ _ _ _ k1];rfl
   have d4:w1.cell? ⟨w.heap.size+1,4,none⟩=some (.int .i64 (y:Int)):=by rw [cell_of_row _ _ _ _ _ _ k1];rfl
   have HV:=hide hv
   obtain ⟨nv,sv,zs,rfl,v2,v3,v4⟩:=id hv
   obtain ⟨va1,vc1,rfl⟩:=v2.form
   obtain ⟨va2,vc2,rfl⟩:=v3.form
   have HK2:=hide k2
   have HBW:=hide hbw
   clear hv v2 v3 v4 hw1 k1 k2 hbw
   go_wp2_with fail
   refine (repeat_any _ _ fs (partN a) x y (PartAt.below (unhide HV) (by exact (Below.refl _ _).alloc (Nat.le_refl _) _)) (partN_ok a) (unhide H9).2 (unhide H9).1 (unhide HL)).mono ?_
   rintro e w2 ⟨v',rfl,hv',hw2⟩
   have k2':=(hw2.block (w.heap.size+1+1) (by simp;omega)).trans ((Below.heap_alloc _ _ _ (by omega)).trans (unhide HK2))
   obtain ⟨q0,q1,q2,q3,q4⟩:=part_cells k2'
   obtain ⟨r0,r1,r2,r3,r4⟩:=part_free k2'
   have HV':=hide hv'
   obtain ⟨nv',sv',zs',rfl,v2',v3',v4'⟩:=id hv'
   obtain ⟨va3,vc3,rfl⟩:=v2'.form
   obtain ⟨va4,vc4,rfl⟩:=v3'.form
   have HBW2:=hide (((unhide HBW).alloc (by omega) _).trans (hw2.mono (by simp;omega)))
   have HK2':=hide k2'
   clear hv' v2' v3' v4' hw2 k2'
   go_wp2
   refine bodyPost_ret (v:=.agg #[.bool (repeatN (partN a) x y).empty,.int .i64 ((repeatN (partN a) x y).first:Int),.int .i64 ((repeatN (partN a) x y).last:Int),.slice va3 (repeatN (partN a) x y).next.length vc3,.slice va4 zs'.length vc4]) (by simp [results,Tryz.results107,go_sem, *]) rfl ?_
   exact ⟨_,rfl,set5_part (unhide HV') ⟨_,_,unhide HK2'⟩,set5_below (unhide HBW2) (by omega)⟩
end Go.Proofs.YtobfpgoepaeknaaGreat
namespace Go.Proofs.YtobfpgoepaeknaaGreat
open Go.RowKit
structure Po (w wr:World) (T:Array Value) (n:Nd):Prop where
 below:Below w.heap.size w wr
 b0:wr.heap[w.heap.size]?=some (.cells T 86 (0,0))
 b1:wr.heap[w.heap.size+1]?=some (.cells zeroPart 127 (0,0))
 b2:wr.heap[w.heap.size+1+1]?=some (.cells (ndA n) 186 (0,0))
theorem Po.start (w:World) (T:Array Value) (n:Nd):Po w (((w.alloc (.cells T 86)).alloc (.cells zeroPart 127)).alloc (.cells (ndA n) 186)) T n :=
 ⟨three_below _ _ _ _,(three_blocks _ _ _ _).1,(three_blocks _ _ _ _).2.1,(three_blocks _ _ _ _).2.2⟩
theorem Po.next {w wr w1:World} {T:Array Value} {n:Nd} (k:Po w wr T n) (hb:Below wr.heap.size wr w1):Po w w1 T n:=by
 have l2:=(Array.getElem?_eq_some_iff.1 k.b2).1
 exact ⟨k.below.trans (hb.mono k.below.size),(hb.block _ (by omega)).trans k.b0,(hb.block _ (by omega)).trans k.b1,(hb.block _ (by omega)).trans k.b2⟩
theorem Po.alloc {w wr:World} {T:Array Value} {n:Nd} (k:Po w wr T n) (o:Obj):Po w (wr.alloc o) T n:=k.next ((Below.refl _ _).alloc (Nat.le_refl _) _)
theorem Po.lt {w wr:World} {T:Array Value} {n:Nd} (k:Po w wr T n):w.heap.size+1+1 < wr.heap.size:=(Array.getElem?_eq_some_iff.1 k.b2).1
theorem node_at {w:World} {g cap:Nat} {ns:List Nd} (hn:NdRow w (.slice (some ⟨g,0,none⟩) ns.length cap) ns) {i:Int} {n:Nd} (h0:0≤i) (h:ns[i.toNat]?=some n) (hl:ns.length≤1000) :
  ∃ k:Nat,i=(k:Int)∧(k:Int) < (ns.length:Int)∧(ns.length:Int)≤1000∧g < w.heap.size ∧
  w.cell? ⟨g,k * 6,none⟩=some (.int .i64 n.kind)∧w.cell? ⟨g,k * 6+1,none⟩=some (.int .i64 n.left)∧w.cell? ⟨g,k * 6+2,none⟩=some (.int .i64 n.right) ∧
  w.cell? ⟨g,k * 6+3,none⟩=some (.int .i64 n.low)∧w.cell? ⟨g,k * 6+4,none⟩=some (.int .i64 n.high)∧w.cell? ⟨g,k * 6+5,none⟩=some (.int .i64 n.set):=by
 obtain ⟨k,rfl⟩:=Int.eq_ofNat_of_zero_le h0
 rw [Int.toNat_natCast] at h
 have hk:=(List.getElem?_eq_some_iff.1 h).1
 exact ⟨k,rfl,by omega,by omega,(World.ownsRow.lt hn g rfl).2,node_cells hn k n h⟩
section
variable {ns : List Nd} {fs : List (Nat → Bool)} {g cap sn sc : Nat} {sa : Option Addr}
set_option maxHeartbeats 400000 in
theorem partOf_blank {i:Int} {n:Nd} (hl:ns.length≤1000) (h0:0≤i) (h:ns[i.toNat]?=some n) (hk:n.kind=0) :
  DoesP ns fs (.slice (some ⟨g,0,none⟩) ns.length cap) (.slice sa sn sc) i emptyN:=by
 intro w hn
 obtain ⟨k,rfl,h1,h2,h3,x0,x1,x2,x3,x4,x5⟩:=node_at hn h0 h hl
 rw [hk] at x0
 clear hn h h0 hl hk
 go_enter Tryz.func60,Tryz.ntmps60
 go_wp2
 refine bodyPost_ret (v:=.agg #[.bool true,.int .i64 0,.int .i64 0,.slice none 0 0,.slice none 0 0]) (by simp [results,Tryz.results60,go_sem]) rfl ?_
 exact ⟨_,rfl,empty_at _ _,by exact three_below _ _ _ _⟩
set_option maxHeartbeats 400000 in
theorem partOf_one {i:Int} {n:Nd} {f:Nat→Bool} (hl:ns.length≤1000) (h0:0≤i) (h:ns[i.toNat]?=some n) (hk:n.kind=1) (hs:0≤n.set) (hf:fs[n.set.toNat]?=some f) :
  DoesP ns fs (.slice (some ⟨g,0,none⟩) ns.length cap) (.slice sa sn sc) i (oneN f):=by
 intro w hn
 obtain ⟨k,rfl,h1,h2,h3,x0,x1,x2,x3,x4,x5⟩:=node_at hn h0 h hl
 have HN:=hide hn
 have HP0:=hide (Po.start w #[.slice (some ⟨g,0,none⟩) ns.length cap,.slice sa sn sc] n)
 unfold ndA at HP0
 rw [hk] at x0 HP0
 have HO:=hide (fun w=>onePart_any w n.set fs f (by unfold setOf;rw [if_pos hs,hf];rfl))
 clear hn h h0 hl hs hf HN hk
 go_enter Tryz.func60,Tryz.ntmps60
 go_wp2_with fail
 refine (unhide HO _).mono ?_
 rintro e w1 ⟨v1,rfl,hv1,hw1⟩
 have HV1:=hide hv1
 have HP1:=hide ((unhide HP0).next hw1)
 obtain ⟨nv1,sv1,zs1,rfl,v2,v3,v4⟩:=id hv1
 obtain ⟨na1,nc1,rfl⟩:=v2.form
 obtain ⟨sa1,sc1,rfl⟩:=v3.form
 clear v2 v3 v4 hv1 hw1
 obtain ⟨q0,q1,q2,q3,q4⟩:=part_cells (unhide HP1).b1
 obtain ⟨r0,r1,r2,r3,r4⟩:=part_free (unhide HP1).b1
 go_wp2
 refine bodyPost_ret (v:=.agg #[.bool (oneN f).empty,.int .i64 ((oneN f).first:Int),.int .i64 ((oneN f).last:Int),.slice na1 (oneN f).next.length nc1,.slice sa1 zs1.length sc1]) (by simp [results,Tryz.results60,go_sem, *]) rfl ?_
 exact ⟨_,rfl,set5_part (unhide HV1) ⟨_,_,(unhide HP1).b1⟩,set5_below (unhide HP1).below (by omega)⟩
set_option maxHeartbeats 400000 in
theorem partOf_times {i:Int} {n:Nd} {p:Part} (hl:ns.length≤1000) (h0:0≤i) (h:ns[i.toNat]?=some n) (hk:n.kind=7)
  (ht:∀ w,NdRow w (.slice (some ⟨g,0,none⟩) ns.length cap) ns→Calls Tryz.prog 107 #[.agg #[.slice (some ⟨g,0,none⟩) ns.length cap,.slice sa sn sc],.agg (ndA n)] w fun e w'=>∃ v,e=.returned v∧PartAt w' v fs p∧Below w.heap.size w w') :
  DoesP ns fs (.slice (some ⟨g,0,none⟩) ns.length cap) (.slice sa sn sc) i p:=by
 intro w hn
 obtain ⟨k,rfl,h1,h2,h3,x0,x1,x2,x3,x4,x5⟩:=node_at hn h0 h hl
 have HN:=hide hn
 have HP0:=hide (Po.start w #[.slice (some ⟨g,0,none⟩) ns.length cap,.slice sa sn sc] n)
 unfold ndA at HP0
 rw [hk] at x0 HP0
 have HO:=hide ht
 unfold ndA at HO
 rw [hk] at HO
 clear hn h h0 hl ht hk
 go_enter Tryz.func60,Tryz.ntmps60
 go_wp2_with fail
 refine (unhide HO _ ((unhide HN).below (by exact three_below _ _ _ _))).mono ?_
 rintro e w1 ⟨v1,rfl,hv1,hw1⟩
 have HV1:=hide hv1
 have HP1:=hide ((unhide HP0).next hw1)
 obtain ⟨nv1,sv1,zs1,rfl,v2,v3,v4⟩:=id hv1
 obtain ⟨na1,nc1,rfl⟩:=v2.form
 obtain ⟨sa1,sc1,rfl⟩:=v3.form
 clear v2 v3 v4 hv1 hw1
 obtain ⟨q0,q1,q2,q3,q4⟩:=part_cells (unhide HP1).b1
 obtain ⟨r0,r1,r2,r3,r4⟩:=part_free (unhide HP1).b1
 go_wp2
 refine bodyPost_ret (v:=.agg #[.bool (p).empty,.int .i64 ((p).first:Int),.int .i64 ((p).last:Int),.slice na1 (p).next.length nc1,.slice sa1 zs1.length sc1]) (by simp [results,Tryz.results60,go_sem, *]) rfl ?_
 exact ⟨_,rfl,set5_part (unhide HV1) ⟨_,_,(unhide HP1).b1⟩,set5_below (unhide HP1).below (by omega)⟩
set_option maxHeartbeats 400000 in
theorem partOf_star {i:Int} {n:Nd} {p:Part} (hl:ns.length≤1000) (h0:0≤i) (h:ns[i.toNat]?=some n) (hk:n.kind=4) (hp:p.Small)
  (ih:DoesP ns fs (.slice (some ⟨g,0,none⟩) ns.length cap) (.slice sa sn sc) n.left p) :
  DoesP ns fs (.slice (some ⟨g,0,none⟩) ns.length cap) (.slice sa sn sc) i (orEmptyN (againN p)):=by
 have hk':=hk
 intro w hn
 obtain ⟨k,rfl,h1,h2,h3,x0,x1,x2,x3,x4,x5⟩:=node_at hn h0 h hl
 have HN:=hide hn
 have HP0:=hide (Po.start w #[.slice (some ⟨g,0,none⟩) ns.length cap,.slice sa sn sc] n)
 unfold ndA at HP0
 rw [hk] at x0 HP0
 have HS:=hide hp
 clear hp
 have HO:=hide ih
 clear hn h h0 hl ih hk
 go_enter Tryz.func60,Tryz.ntmps60
 go_wp2_with fail
 refine (unhide HO _ ((unhide HN).below (by exact three_below _ _ _ _))).mono ?_
 rintro e w1 ⟨v1,rfl,hv1,hw1⟩
 have HV1:=hide hv1
 have HP1:=hide ((unhide HP0).next hw1)
 obtain ⟨nv1,sv1,zs1,rfl,v2,v3,v4⟩:=id hv1
 obtain ⟨na1,nc1,rfl⟩:=v2.form
 obtain ⟨sa1,sc1,rfl⟩:=v3.form
 have hl1:=(unhide HP1).lt
 have hl0:w.heap.size+1 < w1.heap.size:=by omega
 have hl2:w.heap.size < w1.heap.size:=by omega
 have d0:=cell_of_row _ _ 0 _ _ _ (unhide HP1).b2
 have d2:=cell_of_row _ _ 2 _ _ _ (unhide HP1).b2
 have t0:=cell_of_row _ _ 0 _ _ _ (unhide HP1).b0
 have t1:=cell_of_row _ _ 1 _ _ _ (unhide HP1).b0
 simp only [ndA,List.getElem?_toArray,List.getElem?_cons_zero,List.getElem?_cons_succ,hk'] at d0 d2 t0 t1
 clear v2 v3 v4 hv1 hw1
 clear hk'
 have HA1:=hide ((unhide HV1).below ((Below.refl _ _).alloc (Nat.le_refl _) (Obj.cells #[.bool p.empty,.int .i64 (p.first:Int),.int .i64 (p.last:Int),.slice na1 p.next.length nc1,.slice sa1 zs1.length sc1] 127)))
 have HP1a:=hide ((unhide HP1).alloc (Obj.cells #[.bool p.empty,.int .i64 (p.first:Int),.int .i64 (p.last:Int),.slice na1 p.next.length nc1,.slice sa1 zs1.length sc1] 127))
 go_wp2_with fail
 refine (again_any _ _ fs _ (unhide HA1) (unhide HS)).mono ?_
 rintro e w2 ⟨v2,rfl,hv2,hw2⟩
 have HV2:=hide hv2
 have HP2:=hide ((unhide HP1a).next hw2)
 obtain ⟨nv2,sv2,zs2,rfl,v2,v3,v4⟩:=id hv2
 obtain ⟨na2,nc2,rfl⟩:=v2.form
 obtain ⟨sa2,sc2,rfl⟩:=v3.form
 clear v2 v3 v4 hv2 hw2
 go_wp2_with fail
 refine (orEmpty_any _ _ fs _ (unhide HV2)).mono ?_
 rintro e w3 ⟨v3,rfl,hv3,hw3⟩
 have HV3:=hide hv3
 have HP3:=hide ((unhide HP2).next hw3)
 obtain ⟨nv3,sv3,zs3,rfl,v2,v3,v4⟩:=id hv3
 obtain ⟨na3,nc3,rfl⟩:=v2.form
 obtain ⟨sa3,sc3,rfl⟩:=v3.form
 clear v2 v3 v4 hv3 hw3
 obtain ⟨q0,q1,q2,q3,q4⟩:=part_cells (unhide HP3).b1
 obtain ⟨r0,r1,r2,r3,r4⟩:=part_free (unhide HP3).b1
 go_wp2
 refine bodyPost_ret (v:=.agg #[.bool (orEmptyN (againN p)).empty,.int .i64 ((orEmptyN (againN p)).first:Int),.int .i64 ((orEmptyN (againN p)).last:Int),.slice na3 (orEmptyN (againN p)).next.length nc3,.slice sa3 zs3.length sc3]) (by simp [results,Tryz.results60,go_sem, *]) rfl ?_
 exact ⟨_,rfl,set5_part (unhide HV3) ⟨_,_,(unhide HP3).b1⟩,set5_below (unhide HP3).below (by omega)⟩
set_option maxHeartbeats 400000 in
theorem partOf_plus {i:Int} {n:Nd} {p:Part} (hl:ns.length≤1000) (h0:0≤i) (h:ns[i.toNat]?=some n) (hk:n.kind=5) (hp:p.Small)
  (ih:DoesP ns fs (.slice (some ⟨g,0,none⟩) ns.length cap) (.slice sa sn sc) n.left p) :
  DoesP ns fs (.slice (some ⟨g,0,none⟩) ns.length cap) (.slice sa sn sc) i (againN p):=by
 have hk':=hk
 intro w hn
 obtain ⟨k,rfl,h1,h2,h3,x0,x1,x2,x3,x4,x5⟩:=node_at hn h0 h hl
 have HN:=hide hn
 have HP0:=hide (Po.start w #[.slice (some ⟨g,0,none⟩) ns.length cap,.slice sa sn sc] n)
 unfold ndA at HP0
 rw [hk] at x0 HP0
 have HS:=hide hp
 clear hp
 have HO:=hide ih
 clear hn h h0 hl ih hk
 go_enter Tryz.func60,Tryz.ntmps60
 go_wp2_with fail
 refine (unhide HO _ ((unhide HN).below (by exact three_below _ _ _ _))).mono ?_
 rintro e w1 ⟨v1,rfl,hv1,hw1⟩
 have HV1:=hide hv1
 have HP1:=hide ((unhide HP0).next hw1)
 obtain ⟨nv1,sv1,zs1,rfl,v2,v3,v4⟩:=id hv1
 obtain ⟨na1,nc1,rfl⟩:=v2.form
 obtain ⟨sa1,sc1,rfl⟩:=v3.form
 have hl1:=(unhide HP1).lt
 have hl0:w.heap.size+1 < w1.heap.size:=by omega
 have hl2:w.heap.size < w1.heap.size:=by omega
 have d0:=cell_of_row _ _ 0 _ _ _ (unhide HP1).b2
 have d2:=cell_of_row _ _ 2 _ _ _ (unhide HP1).b2
 have t0:=cell_of_row _ _ 0 _ _ _ (unhide HP1).b0
 have t1:=cell_of_row _ _ 1 _ _ _ (unhide HP1).b0
 simp only [ndA,List.getElem?_toArray,List.getElem?_cons_zero,List.getElem?_cons_succ,hk'] at d0 d2 t0 t1
 clear v2 v3 v4 hv1 hw1
 clear hk'
 have HA1:=hide ((unhide HV1).below ((Below.refl _ _).alloc (Nat.le_refl _) (Obj.cells #[.bool p.empty,.int .i64 (p.first:Int),.int .i64 (p.last:Int),.slice na1 p.next.length nc1,.slice sa1 zs1.length sc1] 127)))
 have HP1a:=hide ((unhide HP1).alloc (Obj.cells #[.bool p.empty,.int .i64 (p.first:Int),.int .i64 (p.last:Int),.slice na1 p.next.length nc1,.slice sa1 zs1.length sc1] 127))
 go_wp2_with fail
 refine (again_any _ _ fs _ (unhide HA1) (unhide HS)).mono ?_
 rintro e w2 ⟨v2,rfl,hv2,hw2⟩
 have HV2:=hide hv2
 have HP2:=hide ((unhide HP1a).next hw2)
 obtain ⟨nv2,sv2,zs2,rfl,v2,v3,v4⟩:=id hv2
 obtain ⟨na2,nc2,rfl⟩:=v2.form
 obtain ⟨sa2,sc2,rfl⟩:=v3.form
 clear v2 v3 v4 hv2 hw2
 obtain ⟨q0,q1,q2,q3,q4⟩:=part_cells (unhide HP2).b1
 obtain ⟨r0,r1,r2,r3,r4⟩:=part_free (unhide HP2).b1
 go_wp2
 refine bodyPost_ret (v:=.agg #[.bool (againN p).empty,.int .i64 ((againN p).first:Int),.int .i64 ((againN p).last:Int),.slice na2 (againN p).next.length nc2,.slice sa2 zs2.length sc2]) (by simp [results,Tryz.results60,go_sem, *]) rfl ?_
 exact ⟨_,rfl,set5_part (unhide HV2) ⟨_,_,(unhide HP2).b1⟩,set5_below (unhide HP2).below (by omega)⟩
set_option maxHeartbeats 400000 in
theorem partOf_opt {i:Int} {n:Nd} {p:Part} (hl:ns.length≤1000) (h0:0≤i) (h:ns[i.toNat]?=some n) (hk:n.kind=6) (hp:p.Small)
  (ih:DoesP ns fs (.slice (some ⟨g,0,none⟩) ns.length cap) (.slice sa sn sc) n.left p) :
  DoesP ns fs (.slice (some ⟨g,0,none⟩) ns.length cap) (.slice sa sn sc) i (orEmptyN p):=by
 have hk':=hk
 intro w hn
 obtain ⟨k,rfl,h1,h2,h3,x0,x1,x2,x3,x4,x5⟩:=node_at hn h0 h hl
 have HN:=hide hn
 have HP0:=hide (Po.start w #[.slice (some ⟨g,0,none⟩) ns.length cap,.slice sa sn sc] n)
 unfold ndA at HP0
 rw [hk] at x0 HP0
 have HS:=hide hp
 clear hp
 have HO:=hide ih
 clear hn h h0 hl ih hk
 go_enter Tryz.func60,Tryz.ntmps60
 go_wp2_with fail
 refine (unhide HO _ ((unhide HN).below (by exact three_below _ _ _ _))).mono ?_
 rintro e w1 ⟨v1,rfl,hv1,hw1⟩
 have HV1:=hide hv1
 have HP1:=hide ((unhide HP0).next hw1)
 obtain ⟨nv1,sv1,zs1,rfl,v2,v3,v4⟩:=id hv1
 obtain ⟨na1,nc1,rfl⟩:=v2.form
 obtain ⟨sa1,sc1,rfl⟩:=v3.form
 have hl1:=(unhide HP1).lt
 have hl0:w.heap.size+1 < w1.heap.size:=by omega
 have hl2:w.heap.size < w1.heap.size:=by omega
 have d0:=cell_of_row _ _ 0 _ _ _ (unhide HP1).b2
 have d2:=cell_of_row _ _ 2 _ _ _ (unhide HP1).b2
 have t0:=cell_of_row _ _ 0 _ _ _ (unhide HP1).b0
 have t1:=cell_of_row _ _ 1 _ _ _ (unhide HP1).b0
 simp only [ndA,List.getElem?_toArray,List.getElem?_cons_zero,List.getElem?_cons_succ,hk'] at d0 d2 t0 t1
 clear v2 v3 v4 hv1 hw1
 clear hk'
 have HA1:=hide ((unhide HV1).below ((Below.refl _ _).alloc (Nat.le_refl _) (Obj.cells #[.bool p.empty,.int .i64 (p.first:Int),.int .i64 (p.last:Int),.slice na1 p.next.length nc1,.slice sa1 zs1.length sc1] 127)))
 have HP1a:=hide ((unhide HP1).alloc (Obj.cells #[.bool p.empty,.int .i64 (p.first:Int),.int .i64 (p.last:Int),.slice na1 p.next.length nc1,.slice sa1 zs1.length sc1] 127))
 go_wp2_with fail
 refine (orEmpty_any _ _ fs _ (unhide HA1)).mono ?_
 rintro e w2 ⟨v2,rfl,hv2,hw2⟩
 have HV2:=hide hv2
 have HP2:=hide ((unhide HP1a).next hw2)
 obtain ⟨nv2,sv2,zs2,rfl,v2,v3,v4⟩:=id hv2
 obtain ⟨na2,nc2,rfl⟩:=v2.form
 obtain ⟨sa2,sc2,rfl⟩:=v3.form
 clear v2 v3 v4 hv2 hw2
 obtain ⟨q0,q1,q2,q3,q4⟩:=part_cells (unhide HP2).b1
 obtain ⟨r0,r1,r2,r3,r4⟩:=part_free (unhide HP2).b1
 go_wp2
 refine bodyPost_ret (v:=.agg #[.bool (orEmptyN p).empty,.int .i64 ((orEmptyN p).first:Int),.int .i64 ((orEmptyN p).last:Int),.slice na2 (orEmptyN p).next.length nc2,.slice sa2 zs2.length sc2]) (by simp [results,Tryz.results60,go_sem, *]) rfl ?_
 exact ⟨_,rfl,set5_part (unhide HV2) ⟨_,_,(unhide HP2).b1⟩,set5_below (unhide HP2).below (by omega)⟩
set_option maxHeartbeats 1000000 in
theorem partOf_seq {i:Int} {n:Nd} {p q:Part} (hl:ns.length≤1000) (h0:0≤i) (h:ns[i.toNat]?=some n) (hk:n.kind=2) (op:p.Ok) (oq:q.Ok) (hpq:p.next.length+q.next.length≤50)
  (ih:DoesP ns fs (.slice (some ⟨g,0,none⟩) ns.length cap) (.slice sa sn sc) n.left p) (ih2:DoesP ns fs (.slice (some ⟨g,0,none⟩) ns.length cap) (.slice sa sn sc) n.right q) :
  DoesP ns fs (.slice (some ⟨g,0,none⟩) ns.length cap) (.slice sa sn sc) i (behindN p q):=by
 have hk':=hk
 intro w hn
 obtain ⟨k,rfl,h1,h2,h3,x0,x1,x2,x3,x4,x5⟩:=node_at hn h0 h hl
 have HN:=hide hn
 have HP0:=hide (Po.start w #[.slice (some ⟨g,0,none⟩) ns.length cap,.slice sa sn sc] n)
 unfold ndA at HP0
 rw [hk] at x0 HP0
 have HS:=hide (And.intro op (And.intro oq hpq))
 have HO2:=hide ih2
 clear op oq hpq ih2
 have HO:=hide ih
 clear hn h h0 hl ih hk
 go_enter Tryz.func60,Tryz.ntmps60
 go_wp2_with fail
 refine (unhide HO _ ((unhide HN).below (by exact three_below _ _ _ _))).mono ?_
 rintro e w1 ⟨v1,rfl,hv1,hw1⟩
 have HV1:=hide hv1
 have HP1:=hide ((unhide HP0).next hw1)
 obtain ⟨nv1,sv1,zs1,rfl,v2,v3,v4⟩:=id hv1
 obtain ⟨na1,nc1,rfl⟩:=v2.form
 obtain ⟨sa1,sc1,rfl⟩:=v3.form
 have hl1:=(unhide HP1).lt
 have hl0:w.heap.size+1 < w1.heap.size:=by omega
 have hl2:w.heap.size < w1.heap.size:=by omega
 have d0:=cell_of_row _ _ 0 _ _ _ (unhide HP1).b2
 have d2:=cell_of_row _ _ 2 _ _ _ (unhide HP1).b2
 have t0:=cell_of_row _ _ 0 _ _ _ (unhide HP1).b0
 have t1:=cell_of_row _ _ 1 _ _ _ (unhide HP1).b0
 simp only [ndA,List.getElem?_toArray,List.getElem?_cons_zero,List.getElem?_cons_succ,hk'] at d0 d2 t0 t1
 clear v2 v3 v4 hv1 hw1
 clear hk'
 have HA1:=hide ((unhide HV1).below ((Below.refl _ _).alloc (Nat.le_refl _) (Obj.cells #[.bool p.empty,.int .i64 (p.first:Int),.int .i64 (p.last:Int),.slice na1 p.next.length nc1,.slice sa1 zs1.length sc1] 127)))
 have HP1a:=hide ((unhide HP1).alloc (Obj.cells #[.bool p.empty,.int .i64 (p.first:Int),.int .i64 (p.last:Int),.slice na1 p.next.length nc1,.slice sa1 zs1.length sc1] 127))
 have HL1:=hide (heap_alloc_new w1 (Obj.cells #[.bool p.empty,.int .i64 (p.first:Int),.int .i64 (p.last:Int),.slice na1 p.next.length nc1,.slice sa1 zs1.length sc1] 127))
 go_wp2_with fail
 refine (unhide HO2 _ ((unhide HN).below (by exact (unhide HP1a).below))).mono ?_
 rintro e w2 ⟨v2',rfl,hv2,hw2⟩
 have HV2:=hide hv2
 have HP2:=hide ((unhide HP1a).next hw2)
 obtain ⟨nv2,sv2,zs2,rfl,v2,v3,v4⟩:=id hv2
 obtain ⟨na2,nc2,rfl⟩:=v2.form
 obtain ⟨sa2,sc2,rfl⟩:=v3.form
 have hq2:=(hw2.block w1.heap.size (by simp)).trans (unhide HL1)
 have hl3:w1.heap.size < w2.heap.size:=(Array.getElem?_eq_some_iff.1 hq2).1
 obtain ⟨c0,c1,c2,c3,c4⟩:=part_cells hq2
 have HA2:=hide (((unhide HA1).below hw2).below ((Below.refl _ _).alloc (Nat.le_refl _) (Obj.cells #[.bool q.empty,.int .i64 (q.first:Int),.int .i64 (q.last:Int),.slice na2 q.next.length nc2,.slice sa2 zs2.length sc2] 127)))
 have HB2:=hide ((unhide HV2).below ((Below.refl _ _).alloc (Nat.le_refl _) (Obj.cells #[.bool q.empty,.int .i64 (q.first:Int),.int .i64 (q.last:Int),.slice na2 q.next.length nc2,.slice sa2 zs2.length sc2] 127)))
 have HP2a:=hide ((unhide HP2).alloc (Obj.cells #[.bool q.empty,.int .i64 (q.first:Int),.int .i64 (q.last:Int),.slice na2 q.next.length nc2,.slice sa2 zs2.length sc2] 127))
 clear v2 v3 v4 hv2 hw2 hq2 d0 d2 t0 t1
 go_wp2_with fail
 refine (behind_any _ _ _ fs _ _ (unhide HA2) (unhide HB2) (unhide HS).1 (unhide HS).2.1 (unhide HS).2.2).mono ?_
 rintro e w3 ⟨v3',rfl,hv3,hw3⟩
 have HV3:=hide hv3
 have HP3:=hide ((unhide HP2a).next hw3)
 obtain ⟨nv3,sv3,zs3,rfl,v2,v3,v4⟩:=id hv3
 obtain ⟨na3,nc3,rfl⟩:=v2.form
 obtain ⟨sa3,sc3,rfl⟩:=v3.form
 clear v2 v3 v4 hv3 hw3 c0 c1 c2 c3 c4
 obtain ⟨q0,q1,q2,q3,q4⟩:=part_cells (unhide HP3).b1
 obtain ⟨r0,r1,r2,r3,r4⟩:=part_free (unhide HP3).b1
 go_wp2
 refine bodyPost_ret (v:=.agg #[.bool (behindN p q).empty,.int .i64 ((behindN p q).first:Int),.int .i64 ((behindN p q).last:Int),.slice na3 (behindN p q).next.length nc3,.slice sa3 zs3.length sc3]) (by simp [results,Tryz.results60,go_sem, *]) rfl ?_
 exact ⟨_,rfl,set5_part (unhide HV3) ⟨_,_,(unhide HP3).b1⟩,set5_below (unhide HP3).below (by omega)⟩
set_option maxHeartbeats 1000000 in
theorem partOf_alt {i:Int} {n:Nd} {p q:Part} (hl:ns.length≤1000) (h0:0≤i) (h:ns[i.toNat]?=some n) (hk:n.kind=3) (op:p.Ok) (oq:q.Ok) (hpq:p.next.length+q.next.length≤50)
  (ih:DoesP ns fs (.slice (some ⟨g,0,none⟩) ns.length cap) (.slice sa sn sc) n.left p) (ih2:DoesP ns fs (.slice (some ⟨g,0,none⟩) ns.length cap) (.slice sa sn sc) n.right q) :
  DoesP ns fs (.slice (some ⟨g,0,none⟩) ns.length cap) (.slice sa sn sc) i (besideN p q):=by
 have hk':=hk
 intro w hn
 obtain ⟨k,rfl,h1,h2,h3,x0,x1,x2,x3,x4,x5⟩:=node_at hn h0 h hl
 have HN:=hide hn
 have HP0:=hide (Po.start w #[.slice (some ⟨g,0,none⟩) ns.length cap,.slice sa sn sc] n)
 unfold ndA at HP0
 rw [hk] at x0 HP0
 have HS:=hide (And.intro op (And.intro oq hpq))
 have HO2:=hide ih2
 clear op oq hpq ih2
 have HO:=hide ih
 clear hn h h0 hl ih hk
 go_enter Tryz.func60,Tryz.ntmps60
 go_wp2_with fail
 refine (unhide HO _ ((unhide HN).below (by exact three_below _ _ _ _))).mono ?_
 rintro e w1 ⟨v1,rfl,hv1,hw1⟩
 have HV1:=hide hv1
 have HP1:=hide ((unhide HP0).next hw1)
 obtain ⟨nv1,sv1,zs1,rfl,v2,v3,v4⟩:=id hv1
 obtain ⟨na1,nc1,rfl⟩:=v2.form
 obtain ⟨sa1,sc1,rfl⟩:=v3.form
 have hl1:=(unhide HP1).lt
 have hl0:w.heap.size+1 < w1.heap.size:=by omega
 have hl2:w.heap.size < w1.heap.size:=by omega
 have d0:=cell_of_row _ _ 0 _ _ _ (unhide HP1).b2
 have d2:=cell_of_row _ _ 2 _ _ _ (unhide HP1).b2
 have t0:=cell_of_row _ _ 0 _ _ _ (unhide HP1).b0
 have t1:=cell_of_row _ _ 1 _ _ _ (unhide HP1).b0
 simp only [ndA,List.getElem?_toArray,List.getElem?_cons_zero,List.getElem?_cons_succ,hk'] at d0 d2 t0 t1
 clear v2 v3 v4 hv1 hw1
 clear hk'
 have HA1:=hide ((unhide HV1).below ((Below.refl _ _).alloc (Nat.le_refl _) (Obj.cells #[.bool p.empty,.int .i64 (p.first:Int),.int .i64 (p.last:Int),.slice na1 p.next.length nc1,.slice sa1 zs1.length sc1] 127)))
 have HP1a:=hide ((unhide HP1).alloc (Obj.cells #[.bool p.empty,.int .i64 (p.first:Int),.int .i64 (p.last:Int),.slice na1 p.next.length nc1,.slice sa1 zs1.length sc1] 127))
 have HL1:=hide (heap_alloc_new w1 (Obj.cells #[.bool p.empty,.int .i64 (p.first:Int),.int .i64 (p.last:Int),.slice na1 p.next.length nc1,.slice sa1 zs1.length sc1] 127))
 go_wp2_with fail
 refine (unhide HO2 _ ((unhide HN).below (by exact (unhide HP1a).below))).mono ?_
 rintro e w2 ⟨v2',rfl,hv2,hw2⟩
 have HV2:=hide hv2
 have HP2:=hide ((unhide HP1a).next hw2)
 obtain ⟨nv2,sv2,zs2,rfl,v2,v3,v4⟩:=id hv2
 obtain ⟨na2,nc2,rfl⟩:=v2.form
 obtain ⟨sa2,sc2,rfl⟩:=v3.form
 have hq2:=(hw2.block w1.heap.size (by simp)).trans (unhide HL1)
 have hl3:w1.heap.size < w2.heap.size:=(Array.getElem?_eq_some_iff.1 hq2).1
 obtain ⟨c0,c1,c2,c3,c4⟩:=part_cells hq2
 have HA2:=hide (((unhide HA1).below hw2).below ((Below.refl _ _).alloc (Nat.le_refl _) (Obj.cells #[.bool q.empty,.int .i64 (q.first:Int),.int .i64 (q.last:Int),.slice na2 q.next.length nc2,.slice sa2 zs2.length sc2] 127)))
 have HB2:=hide ((unhide HV2).below ((Below.refl _ _).alloc (Nat.le_refl _) (Obj.cells #[.bool q.empty,.int .i64 (q.first:Int),.int .i64 (q.last:Int),.slice na2 q.next.length nc2,.slice sa2 zs2.length sc2] 127)))
 have HP2a:=hide ((unhide HP2).alloc (Obj.cells #[.bool q.empty,.int .i64 (q.first:Int),.int .i64 (q.last:Int),.slice na2 q.next.length nc2,.slice sa2 zs2.length sc2] 127))
 clear v2 v3 v4 hv2 hw2 hq2 d0 d2 t0 t1
 go_wp2_with fail
 refine (beside_any _ _ _ fs _ _ (unhide HA2) (unhide HB2) (unhide HS).1 (unhide HS).2.1 (unhide HS).2.2).mono ?_
 rintro e w3 ⟨v3',rfl,hv3,hw3⟩
 have HV3:=hide hv3
 have HP3:=hide ((unhide HP2a).next hw3)
 obtain ⟨nv3,sv3,zs3,rfl,v2,v3,v4⟩:=id hv3
 obtain ⟨na3,nc3,rfl⟩:=v2.form
 obtain ⟨sa3,sc3,rfl⟩:=v3.form
 clear v2 v3 v4 hv3 hw3 c0 c1 c2 c3 c4
 obtain ⟨q0,q1,q2,q3,q4⟩:=part_cells (unhide HP3).b1
 obtain ⟨r0,r1,r2,r3,r4⟩:=part_free (unhide HP3).b1
 go_wp2
 refine bodyPost_ret (v:=.agg #[.bool (besideN p q).empty,.int .i64 ((besideN p q).first:Int),.int .i64 ((besideN p q).last:Int),.slice na3 (besideN p q).next.length nc3,.slice sa3 zs3.length sc3]) (by simp [results,Tryz.results60,go_sem, *]) rfl ?_
 exact ⟨_,rfl,set5_part (unhide HV3) ⟨_,_,(unhide HP3).b1⟩,set5_below (unhide HP3).below (by omega)⟩
end
theorem partOf_any {ns:List Nd} {fs:List (Nat→Bool)} {g cap sn sc:Nat} {sa:Option Addr} (hl:ns.length≤1000):∀ (R:Re) (i:Int),Dn ns fs R i→R.wt≤50→DoesP ns fs (.slice (some ⟨g,0,none⟩) ns.length cap) (.slice sa sn sc) i (partN R):=by
 have small:∀ R:Re,R.wt≤50→(partN R).Small:=fun R h=>(partN_ok R).small (by have:=partN_len R;omega)
 intro R
 induction R using Re.ind with
 | blank=>rintro i ⟨n,h0,h1,h2⟩ _;exact partOf_blank hl h0 h1 h2
 | set f=>rintro i ⟨n,h0,h1,h2,h3,h4⟩ _;exact partOf_one hl h0 h1 h2 h3 h4
 | seq a b iha ihb =>
  rintro i ⟨n,h0,h1,h2,_,_,h5,h6⟩ hw
  have:=a.wt_pos;have:=b.wt_pos;have ea:=partN_len a;have eb:=partN_len b
  rw [Re.wt_seq] at hw
  rw [partN_seq]
  exact partOf_seq hl h0 h1 h2 (partN_ok a) (partN_ok b) (by omega) (iha _ h5 (by omega)) (ihb _ h6 (by omega))
 | alt a b iha ihb =>
  rintro i ⟨n,h0,h1,h2,_,_,h5,h6⟩ hw
  have:=a.wt_pos;have:=b.wt_pos;have ea:=partN_len a;have eb:=partN_len b
  rw [Re.wt_alt] at hw
  rw [partN_alt]
  exact partOf_alt hl h0 h1 h2 (partN_ok a) (partN_ok b) (by omega) (iha _ h5 (by omega)) (ihb _ h6 (by omega))
 | star a iha=>rintro i ⟨n,h0,h1,h2,_,h5⟩ hw;exact partOf_star hl h0 h1 h2 (small a hw) (iha _ h5 hw)
 | plus a iha=>rintro i ⟨n,h0,h1,h2,_,h5⟩ hw;exact partOf_plus hl h0 h1 h2 (small a hw) (iha _ h5 hw)
 | opt a iha=>rintro i ⟨n,h0,h1,h2,_,h5⟩ hw;exact partOf_opt hl h0 h1 h2 (small a hw) (iha _ h5 hw)
 | times x y a iha =>
  rintro i ⟨n,h0,h1,h2,hx,hy,x9,y9,_,h5⟩ hw
  have key:y≠0→a.wt≤50∧((partN a).next.length:Int) * (y:Int)≤50:=by
   intro hy0
   have hp:=a.wt_pos
   have ea:=partN_len a
   have m1:a.wt * 1≤a.wt * (y:Int):=Int.mul_le_mul_of_nonneg_left (by omega) (by omega)
   have m2:((partN a).next.length:Int) * (y:Int)≤a.wt * (y:Int):=Int.mul_le_mul_of_nonneg_right ea (by omega)
   rw [Re.wt_times] at hw
   simp only [max1] at hw
   split at hw<;>omega
  refine partOf_times hl h0 h1 h2 (fun w hn=>timesPart_of ns fs g cap sn sc sa n x y a hx hy x9 y9 (fun _ hy0=>iha _ h5 (key hy0).1) (fun _ hy0=>?_) w hn)
  have:=(key hy0).2
  exact Int.ofNat_le.1 (by push_cast;exact this)
end Go.Proofs.YtobfpgoepaeknaaGreat
namespace Go.Proofs.YtobfpgoepaeknaaGreat
open Go.RowKit
attribute [local go_sem ↓] zvS
attribute [local go_sem] zcS_size zcS_ne
attribute [local go_sem ↓] Go.wp_at_zero Go.wp_at_succ
def FsRow (w:World) (B:Nat) (v:Value) (fs:List (Nat→Bool)):Prop:=w.ownsRow B 132 256 v fs.length (setsCells fs)
theorem FsRow.below {w w':World} {B:Nat} {v:Value} {fs:List (Nat→Bool)} (h:FsRow w B v fs) (hb:Below w.heap.size w w'):FsRow w' B v fs:=own_below h hb
theorem FsRow.form {w:World} {B:Nat} {v:Value} {fs:List (Nat→Bool)} (h:FsRow w B v fs):(∃ a c,v=.slice a fs.length c):=by
 rcases h.2 with ⟨rfl,h0⟩ | ⟨g,cap,cur,rfl,_⟩
 ·exact ⟨none,0,by rw [h0]⟩
 ·exact ⟨_,_,rfl⟩
theorem set_cells {w:World} {B g cap:Nat} {fs:List (Nat→Bool)} (h:FsRow w B (.slice (some ⟨g,0,none⟩) fs.length cap) fs) (k:Nat) (f:Nat→Bool) (hk:fs[k]?=some f) :
  ∀ j v,(setA f).toList[j]?=some v→w.cell? ((⟨g,k * 256,none⟩:Addr).add j)=some v:=by
 have key:∀ (l:List (Nat→Bool)) (k:Nat) (j:Nat) (v:Value),l[k]?=some f→(setA f).toList[j]?=some v→(setsCells l)[k * 256+j]?=some v:=by
  intro l
  induction l with
  | nil=>intro k j v h;simp at h
  | cons a l ih =>
   intro k j v h hv
   have e:setsCells (a ::l)=(setA a).toList++setsCells l:=by simp [setsCells]
   rw [e]
   have hl:(setA a).toList.length=256:=by rw [Array.length_toList,size_setA]
   have hj:j < 256:=by
    have:=(List.getElem?_eq_some_iff.1 hv).1
    rwa [Array.length_toList,size_setA] at this
   cases k with
   | zero =>
    simp only [List.getElem?_cons_zero,Option.some.injEq] at h
    subst h
    rw [List.getElem?_append_left (by rw [hl];omega),Nat.zero_mul,Nat.zero_add]
    exact hv
   | succ k =>
    rw [List.getElem?_append_right (by rw [hl];omega),hl]
    have:=ih k j v (by simpa using h) hv
    rw [show (k+1) * 256+j - 256=k * 256+j from by omega]
    exact this
 intro j v hv
 have h1:=key fs k j v hk hv
 have h':w.ownsRow B 132 256 (.slice (some ⟨g,0,none⟩) fs.length cap) fs.length (setsCells fs):=h
 have h2:=h'.cells (g:=g) rfl _ _ h1
 have hadd:(⟨g,0,none⟩:Addr).add (k * 256+j)=(⟨g,k * 256,none⟩:Addr).add j:=by unfold Addr.add;split<;>split<;>simp_all
 rwa [hadd] at h2
theorem setOf_neg {fs:List (Nat→Bool)} {z:Int} (h:z < 0):setOf fs z=fun _=>false:=by unfold setOf;rw [if_neg (by omega)]
theorem setOf_over {fs:List (Nat→Bool)} {z:Int} (h:(fs.length:Int)≤z):setOf fs z=fun _=>false:=by
 unfold setOf;rw [if_pos (by omega),List.getElem?_eq_none (by omega)];rfl
theorem setOf_at {fs:List (Nat→Bool)} {k:Nat} {f:Nat→Bool} (h:fs[k]?=some f):setOf fs (k:Int)=f:=by
 unfold setOf;rw [if_pos (by omega),Int.toNat_natCast,h];rfl
set_option maxHeartbeats 400000 in
theorem setAt_any (w:World) (na:Option Addr) (nn nc:Nat) (sv:Value) (fs:List (Nat→Bool)) (z:Int) (B:Nat) (h:FsRow w B sv fs) (hl:fs.length≤1000) :
  Calls Tryz.prog 63 #[.agg #[.slice na nn nc,sv],.int .i64 z] w fun e w'=>e=.returned (.agg (setA (setOf fs z)))∧Below w.heap.size w w':=by
 obtain ⟨sa,sc,rfl⟩:=h.form
 have H:=hide h
 have HT:=hide (heap_alloc2_old w (Obj.cells #[.slice na nn nc,.slice sa fs.length sc] 86) (Obj.cells zcS 132))
 have HZ:=hide (heap_alloc2_new w (Obj.cells #[.slice na nn nc,.slice sa fs.length sc] 86) (Obj.cells zcS 132))
 have HB:=hide (((Below.refl w.heap.size w).alloc (Nat.le_refl _) (Obj.cells #[.slice na nn nc,.slice sa fs.length sc] 86)).alloc (by simp) (Obj.cells zcS 132))
 have hlI:(fs.length:Int)≤1000:=by omega
 clear h hl
 by_cases hz:z < 0
 ·rw [setOf_neg hz]
  go_enter Tryz.func63,Tryz.ntmps63
  go_wp2_with (refine wpList_store_row rfl 132 _ _ rfl (w.heap.size+1) zcS rfl rfl 132 _ (unhide HZ) (by rw [zero84,size_setA];kernel_rfl) rfl (by rw [zero84];exact setA_one _) ?_)
  exact bodyPost_ret (v:=.agg (setA fun _=>false))
    (by rw [←zero84];exact results_cell_row (p:=4) (ty:=132) rfl _ _ (w.heap.size+1) 132 _ (0,0) _ rfl (setRow_heap _ _ _ _ _ _ (unhide HZ)) Tryz.underlying132 rfl (by rw [zero84,size_setA];kernel_rfl))
    rfl ⟨rfl,below_setRow (unhide HB) (by omega) _⟩
 ·by_cases hz2:(fs.length:Int)≤z
  ·rw [setOf_over hz2]
   have hz0:0≤z:=by omega
   clear hz
   go_enter Tryz.func63,Tryz.ntmps63
   go_wp2_with (refine wpList_store_row rfl 132 _ _ rfl (w.heap.size+1) zcS rfl rfl 132 _ (unhide HZ) (by rw [zero84,size_setA];kernel_rfl) rfl (by rw [zero84];exact setA_one _) ?_)
   exact bodyPost_ret (v:=.agg (setA fun _=>false))
    (by rw [←zero84];exact results_cell_row (p:=4) (ty:=132) rfl _ _ (w.heap.size+1) 132 _ (0,0) _ rfl (setRow_heap _ _ _ _ _ _ (unhide HZ)) Tryz.underlying132 rfl (by rw [zero84,size_setA];kernel_rfl))
    rfl ⟨rfl,below_setRow (unhide HB) (by omega) _⟩
  ·obtain ⟨k,rfl⟩:=Int.eq_ofNat_of_zero_le (show 0≤z by omega)
   have hk:k < fs.length:=by omega
   have hkI:(k:Int) < (fs.length:Int):=by omega
   have hf:fs[k]?=some fs[k]:=List.getElem?_eq_getElem hk
   rw [setOf_at hf]
   obtain ⟨m,hm⟩:∃ m,fs.length=m+1:=⟨fs.length - 1,by omega⟩
   obtain ⟨g,cap,he⟩:∃ g cap,Value.slice sa fs.length sc=.slice (some ⟨g,0,none⟩) fs.length cap:=by
    have h':w.ownsRow B 132 256 (.slice sa fs.length sc) fs.length (setsCells fs):=unhide H
    rw [hm] at h' ⊢;exact own_form h'
   simp only [Value.slice.injEq,true_and] at he
   obtain ⟨rfl,rfl⟩:=he
   have HC:=hide (set_cells ((unhide H).below (unhide HB)) k _ hf)
   generalize fs[k]=f at *
   clear hz hz2 hf hm hk
   go_enter Tryz.func63,Tryz.ntmps63
   go_wp2_with (first
    | refine wpList_load_mid rfl 132 _ rfl ⟨g,k * 256,none⟩ rfl (setA f) (unhide HC) _ Tryz.underlying132 rfl (by rw [size_setA];kernel_rfl) ?_
    | refine wpList_store_row rfl 132 _ _ rfl (w.heap.size+1) _ rfl rfl 132 _ (unhide HZ) (by rw [size_setA];kernel_rfl) (by rw [zero84,size_setA,size_setA]) (setA_one _) ?_)
   exact bodyPost_ret (v:=.agg (setA f))
    (results_cell_row (p:=4) (ty:=132) rfl _ _ (w.heap.size+1) 132 _ (0,0) _ rfl (setRow_heap _ _ _ _ _ _ (unhide HZ)) Tryz.underlying132 rfl (by rw [size_setA];kernel_rfl))
    rfl ⟨rfl,below_setRow (unhide HB) (by omega) _⟩
end Go.Proofs.YtobfpgoepaeknaaGreat
namespace Go.Proofs.YtobfpgoepaeknaaGreat
open Go.RowKit
def midN (f:Nat→Nat):List Value:=(List.range 256).map (fun b=>Value.int .i64 ((f b:Nat):Int))
theorem midN_len (f:Nat→Nat):(midN f).length=256:=by rw [midN,List.length_map,List.length_range]
theorem midN_get (f:Nat→Nat) {b:Nat} (h:b < 256):(midN f)[b]?=some (.int .i64 ((f b:Nat):Int)):=by
 rw [midN,List.getElem?_map,List.getElem?_range h];rfl
def rowN (pre:List Value) (f:Nat→Nat) (post:List Value):Array Value:=(pre++(midN f++post)).toArray
theorem rowN_size (pre post:List Value) (f:Nat→Nat):(rowN pre f post).size=pre.length+256+post.length:=by
 rw [rowN,List.size_toArray,List.length_append,List.length_append,midN_len,Nat.add_assoc]
theorem rowN_pre (pre post:List Value) (f:Nat→Nat) {i:Nat} (h:i < pre.length):(rowN pre f post)[i]?=pre[i]?:=by
 simp only [rowN,List.getElem?_toArray];rw [List.getElem?_append_left h]
theorem rowN_mid (pre post:List Value) (f:Nat→Nat) {b:Nat} (h:b < 256):(rowN pre f post)[pre.length+b]?=some (.int .i64 ((f b:Nat):Int)):=by
 simp only [rowN,List.getElem?_toArray]
 rw [List.getElem?_append_right (by omega),Nat.add_sub_cancel_left,List.getElem?_append_left (by rw [midN_len];exact h),midN_get f h]
theorem rowN_post (pre post:List Value) (f:Nat→Nat) (i:Nat):(rowN pre f post)[pre.length+256+i]?=post[i]?:=by
 simp only [rowN,List.getElem?_toArray]
 rw [Nat.add_assoc,List.getElem?_append_right (by omega),Nat.add_sub_cancel_left,List.getElem?_append_right (by rw [midN_len];omega),midN_len,Nat.add_sub_cancel_left]
theorem rowN_congr {pre post:List Value} {f g:Nat→Nat} (h:∀ b,b < 256→f b=g b):rowN pre f post=rowN pre g post:=by
 have:midN f=midN g:=List.map_congr_left (fun b hb=>by rw [h b (List.mem_range.1 hb)])
 rw [rowN,rowN,this]
theorem rowN_set (pre post:List Value) (f:Nat→Nat) {b:Nat} (hb:b < 256) (x:Nat):(rowN pre f post).setIfInBounds (pre.length+b) (.int .i64 ((x:Nat):Int))=rowN pre (fun c=>if c=b then x else f c) post:=by
 apply Array.ext_getElem?
 intro i
 rw [Array.getElem?_setIfInBounds]
 by_cases h1:i < pre.length
 ·rw [if_neg (by omega),rowN_pre _ _ _ h1,rowN_pre _ _ _ h1]
 ·obtain ⟨c,rfl⟩:∃ c,i=pre.length+c:=⟨i - pre.length,by omega⟩
  by_cases h2:c < 256
  ·rw [rowN_mid _ _ _ h2,rowN_mid _ _ _ h2]
   by_cases h3:c=b
   ·subst h3;rw [if_pos rfl,if_pos (by rw [rowN_size];omega),if_pos rfl]
   ·rw [if_neg (by omega),if_neg h3]
  ·obtain ⟨d,rfl⟩:∃ d,c=256+d:=⟨c - 256,by omega⟩
   rw [if_neg (by omega),←Nat.add_assoc,rowN_post,rowN_post]
theorem rowN_set_pre (pre post:List Value) (f:Nat→Nat) {i:Nat} (hi:i < pre.length) (v:Value):(rowN pre f post).setIfInBounds i v=rowN (pre.set i v) f post:=by
 unfold rowN
 rw [List.setIfInBounds_toArray,List.set_append_left _ _ hi]
theorem rowN_set_post (pre post:List Value) (f:Nat→Nat) (i:Nat) (v:Value):(rowN pre f post).setIfInBounds (pre.length+256+i) v=rowN pre f (post.set i v):=by
 unfold rowN
 rw [List.setIfInBounds_toArray,Nat.add_assoc,List.set_append_right _ _ (by omega),Nat.add_sub_cancel_left,List.set_append_right _ _ (by rw [midN_len];omega),midN_len,Nat.add_sub_cancel_left]
theorem midN_one (f:Nat→Nat):(midN f).all (·.oneCell')=true:=by
 rw [List.all_eq_true]
 intro v hv
 obtain ⟨b,_,rfl⟩:=List.mem_map.1 hv
 rfl
theorem rowN_one {pre post:List Value} (f:Nat→Nat) (h1:pre.all (·.oneCell')=true) (h2:post.all (·.oneCell')=true):(rowN pre f post).all (·.oneCell')=true:=by
 unfold rowN
 rw [List.all_toArray,List.all_append,List.all_append,h1,h2,midN_one];rfl
theorem rowN_ne (pre post:List Value) (f:Nat→Nat):rowN pre f post≠#[]:=fun e=>by have:=rowN_size pre post f;rw [e] at this;simp at this;omega
def autA (nv:Value) (f:Nat→Nat) (last:Int):Array Value:=rowN [nv] f [.int .i64 last]
def zcA:Array Value:=autA (.slice none 0 0) (fun _=>0) 0
theorem autA_size (nv:Value) (f:Nat→Nat) (last:Int):(autA nv f last).size=258:=rowN_size _ _ _
theorem zcA_size:zcA.size=258:=autA_size _ _ _
theorem zcA_ne:zcA≠#[]:=rowN_ne _ _ _
theorem zvA (w:World):(zeroValue 90).run Tryz.prog w=.ok (.agg zcA) w:=by kernel_rfl
theorem autA_0 (nv:Value) (f:Nat→Nat) (last:Int):(autA nv f last)[0]?=some nv:=rowN_pre _ _ _ (by simp)
theorem autA_b (nv:Value) (f:Nat→Nat) (last:Int) {b:Nat} (h:b < 256):(autA nv f last)[1+b]?=some (.int .i64 ((f b:Nat):Int)):=rowN_mid [nv] _ _ h
theorem autA_257 (nv:Value) (f:Nat→Nat) (last:Int):(autA nv f last)[257]?=some (.int .i64 last):=rowN_post [nv] _ _ 0
theorem autA_set (nv:Value) (f:Nat→Nat) (last:Int) {b:Nat} (h:b < 256) (x:Nat):(autA nv f last).setIfInBounds (1+b) (.int .i64 ((x:Nat):Int))=autA nv (fun c=>if c=b then x else f c) last:=rowN_set [nv] _ _ h x
theorem autA_one (a:Option Addr) (n c:Nat) (f:Nat→Nat) (last:Int):(autA (.slice a n c) f last).all (·.oneCell')=true:=rowN_one f rfl rfl
def AutV (w:World) (v:Value) (p:Part):Prop:=∃ nv,v=.agg (autA nv (fitP p) (p.last:Int))∧NRow w 0 nv p.next
def AutB (w:World) (g:Nat) (p:Part):Prop:=∃ nv,w.heap[g]?=some (.cells (autA nv (fitP p) (p.last:Int)) 90 (0,0))∧NRow w 0 nv p.next
theorem AutB.below {w w':World} {g:Nat} {p:Part} (h:AutB w g p) (hb:Below w.heap.size w w'):AutB w' g p:=by
 obtain ⟨nv,h1,h2⟩:=h
 exact ⟨nv,by rw [hb.block _ (Array.getElem?_eq_some_iff.1 h1).1];exact h1,h2.below hb⟩
theorem AutB.drew {w:World} {g:Nat} {p:Part} (h:AutB w g p):AutB w.drew g p:=h
theorem fitP_lt {p:Part} (hp:p.Ok) (hl:p.next.length≤50) (b:Nat):fitP p b < top:=Nat.lt_trans (fitN_lt _ _ _) (pow_top (by rw [hp.1];omega))
theorem reachP_lt {p:Part} (hp:p.Ok) (hl:p.next.length≤50) (x:Nat):reachP p x < top:=Nat.lt_of_lt_of_le (reachN_lt hp.2.2.2 x _) (Nat.pow_le_pow_right (n:=2) (by omega) (show p.next.length≤60 by omega))
end Go.Proofs.YtobfpgoepaeknaaGreat
