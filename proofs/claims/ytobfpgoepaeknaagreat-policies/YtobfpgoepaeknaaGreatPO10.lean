/-
  Parts: partOf.
  A load out of the midst of a row; the bytes of a string.
  The automaton: setAt.
  Plain mathematics: the least automaton of a set of strings, its states numbered as they are met; the classes of bytes; that there is but one table.
-/
import Derived.Test.YtobfpgoepaeknaaGreatPO09
import Derived.Test.YtobfpgoepaeknaaGreatPO07
namespace Go.Proofs.YtobfpgoepaeknaaGreat
open Go.RowKit
structure Po (w wr:World) (T:Array Value) (n:Nd):Prop where
 below:Below w.heap.size w wr
 b0:wr.heap[w.heap.size]?=some (.cells T 86 (0,0))
 b1:wr.heap[w.heap.size+1]?=some (.cells zeroPart 127 (0,0))
 b2:wr.heap[w.heap.size+1+1]?=some (.cells (ndA n) 186 (0,0))
theorem Po.start (w:World) (T:Array Value) (n:Nd):Po w (((w.alloc (.cells T 86)).alloc (.cells zeroPart 127)).alloc (.cells (ndA n) 186)) T n :=
 ⟨three_below _ _ _ _,(three_blocks _ _ _ _).1,(three_blocks _ _ _ _).2.1,(three_blocks _ _ _ _).2.2⟩
theorem Po.next {w wr w1:World} {T:Array Value} {n:Nd} (k:Po w wr T n) (hb:Below wr.heap.size wr w1):Po w w1 T n:=by
 have l2:=(Array.getElem?_eq_some_iff.1 k.b2).1
 exact ⟨k.below.trans (hb.mono k.below.size),(hb.block _ (by omega)).trans k.b0,(hb.block _ (by omega)).trans k.b1,(hb.block _ (by omega)).trans k.b2⟩
theorem Po.alloc {w wr:World} {T:Array Value} {n:Nd} (k:Po w wr T n) (o:Obj):Po w (wr.alloc o) T n:=k.next ((Below.refl _ _).alloc (Nat.le_refl _) _)
theorem Po.lt {w wr:World} {T:Array Value} {n:Nd} (k:Po w wr T n):w.heap.size+1+1 < wr.heap.size:=(Array.getElem?_eq_some_iff.1 k.b2).1
theorem node_at {w:World} {g cap:Nat} {ns:List Nd} (hn:NdRow w (.slice (some ⟨g,0,none⟩) ns.length cap) ns) {i:Int} {n:Nd} (h0:0≤i) (h:ns[i.toNat]?=some n) (hl:ns.length≤1000) :
  ∃ k:Nat,i=(k:Int)∧(k:Int) < (ns.length:Int)∧(ns.length:Int)≤1000∧g < w.heap.size ∧
  w.cell? ⟨g,k * 6,none⟩=some (.int .i64 n.kind)∧w.cell? ⟨g,k * 6+1,none⟩=some (.int .i64 n.left)∧w.cell? ⟨g,k * 6+2,none⟩=some (.int .i64 n.right) ∧
  w.cell? ⟨g,k * 6+3,none⟩=some (.int .i64 n.low)∧w.cell? ⟨g,k * 6+4,none⟩=some (.int .i64 n.high)∧w.cell? ⟨g,k * 6+5,none⟩=some (.int .i64 n.set):=by
 obtain ⟨k,rfl⟩:=Int.eq_ofNat_of_zero_le h0
 rw [Int.toNat_natCast] at h
 have hk:=(List.getElem?_eq_some_iff.1 h).1
 exact ⟨k,rfl,by omega,by omega,(World.ownsRow.lt hn g rfl).2,node_cells hn k n h⟩
section
variable {ns : List Nd} {fs : List (Nat → Bool)} {g cap sn sc : Nat} {sa : Option Addr}
set_option maxHeartbeats 400000 in
theorem partOf_blank {i:Int} {n:Nd} (hl:ns.length≤1000) (h0:0≤i) (h:ns[i.toNat]?=some n) (hk:n.kind=0) :
  DoesP ns fs (.slice (some ⟨g,0,none⟩) ns.length cap) (.slice sa sn sc) i emptyN:=by
 intro w hn
 obtain ⟨k,rfl,h1,h2,h3,x0,x1,x2,x3,x4,x5⟩:=node_at hn h0 h hl
 rw [hk] at x0
 clear hn h h0 hl hk
 go_enter Tryz.func60,Tryz.ntmps60
 go_wp2
 refine bodyPost_ret (v:=.agg #[.bool true,.int .i64 0,.int .i64 0,.slice none 0 0,.slice none 0 0]) (by simp [results,Tryz.results60,go_sem]) rfl ?_
 exact ⟨_,rfl,empty_at _ _,by exact three_below _ _ _ _⟩
set_option maxHeartbeats 400000 in
theorem partOf_one {i:Int} {n:Nd} {f:Nat→Bool} (hl:ns.length≤1000) (h0:0≤i) (h:ns[i.toNat]?=some n) (hk:n.kind=1) (hs:0≤n.set) (hf:fs[n.set.toNat]?=some f) :
  DoesP ns fs (.slice (some ⟨g,0,none⟩) ns.length cap) (.slice sa sn sc) i (oneN f):=by
 intro w hn
 obtain ⟨k,rfl,h1,h2,h3,x0,x1,x2,x3,x4,x5⟩:=node_at hn h0 h hl
 have HN:=hide hn
 have HP0:=hide (Po.start w #[.slice (some ⟨g,0,none⟩) ns.length cap,.slice sa sn sc] n)
 unfold ndA at HP0
 rw [hk] at x0 HP0
 have HO:=hide (fun w=>onePart_any w n.set fs f (by unfold setOf;rw [if_pos hs,hf];rfl))
 clear hn h h0 hl hs hf HN hk
 go_enter Tryz.func60,Tryz.ntmps60
 go_wp2_with fail
 refine (unhide HO _).mono ?_
 rintro e w1 ⟨v1,rfl,hv1,hw1⟩
 have HV1:=hide hv1
 have HP1:=hide ((unhide HP0).next hw1)
 obtain ⟨nv1,sv1,zs1,rfl,v2,v3,v4⟩:=id hv1
 obtain ⟨na1,nc1,rfl⟩:=v2.form
 obtain ⟨sa1,sc1,rfl⟩:=v3.form
 clear v2 v3 v4 hv1 hw1
 obtain ⟨q0,q1,q2,q3,q4⟩:=part_cells (unhide HP1).b1
 obtain ⟨r0,r1,r2,r3,r4⟩:=part_free (unhide HP1).b1
 go_wp2
 refine bodyPost_ret (v:=.agg #[.bool (oneN f).empty,.int .i64 ((oneN f).first:Int),.int .i64 ((oneN f).last:Int),.slice na1 (oneN f).next.length nc1,.slice sa1 zs1.length sc1]) (by simp [results,Tryz.results60,go_sem, *]) rfl ?_
 exact ⟨_,rfl,set5_part (unhide HV1) ⟨_,_,(unhide HP1).b1⟩,set5_below (unhide HP1).below (by omega)⟩
set_option maxHeartbeats 400000 in
theorem partOf_times {i:Int} {n:Nd} {p:Part} (hl:ns.length≤1000) (h0:0≤i) (h:ns[i.toNat]?=some n) (hk:n.kind=7)
  (ht:∀ w,NdRow w (.slice (some ⟨g,0,none⟩) ns.length cap) ns→Calls Tryz.prog 107 #[.agg #[.slice (some ⟨g,0,none⟩) ns.length cap,.slice sa sn sc],.agg (ndA n)] w fun e w'=>∃ v,e=.returned v∧PartAt w' v fs p∧Below w.heap.size w w') :
  DoesP ns fs (.slice (some ⟨g,0,none⟩) ns.length cap) (.slice sa sn sc) i p:=by
 intro w hn
 obtain ⟨k,rfl,h1,h2,h3,x0,x1,x2,x3,x4,x5⟩:=node_at hn h0 h hl
 have HN:=hide hn
 have HP0:=hide (Po.start w #[.slice (some ⟨g,0,none⟩) ns.length cap,.slice sa sn sc] n)
 unfold ndA at HP0
 rw [hk] at x0 HP0
 have HO:=hide ht
 unfold ndA at HO
 rw [hk] at HO
 clear hn h h0 hl ht hk
 go_enter Tryz.func60,Tryz.ntmps60
 go_wp2_with fail
 refine (unhide HO _ ((unhide HN).below (by exact three_below _ _ _ _))).mono ?_
 rintro e w1 ⟨v1,rfl,hv1,hw1⟩
 have HV1:=hide hv1
 have HP1:=hide ((unhide HP0).next hw1)
 obtain ⟨nv1,sv1,zs1,rfl,v2,v3,v4⟩:=id hv1
 obtain ⟨na1,nc1,rfl⟩:=v2.form
 obtain ⟨sa1,sc1,rfl⟩:=v3.form
 clear v2 v3 v4 hv1 hw1
 obtain ⟨q0,q1,q2,q3,q4⟩:=part_cells (unhide HP1).b1
 obtain ⟨r0,r1,r2,r3,r4⟩:=part_free (unhide HP1).b1
 go_wp2
 refine bodyPost_ret (v:=.agg #[.bool (p).empty,.int .i64 ((p).first:Int),.int .i64 ((p).last:Int),.slice na1 (p).next.length nc1,.slice sa1 zs1.length sc1]) (by simp [results,Tryz.results60,go_sem, *]) rfl ?_
 exact ⟨_,rfl,set5_part (unhide HV1) ⟨_,_,(unhide HP1).b1⟩,set5_below (unhide HP1).below (by omega)⟩
set_option maxHeartbeats 400000 in
theorem partOf_star {i:Int} {n:Nd} {p:Part} (hl:ns.length≤1000) (h0:0≤i) (h:ns[i.toNat]?=some n) (hk:n.kind=4) (hp:p.Small)
  (ih:DoesP ns fs (.slice (some ⟨g,0,none⟩) ns.length cap) (.slice sa sn sc) n.left p) :
  DoesP ns fs (.slice (some ⟨g,0,none⟩) ns.length cap) (.slice sa sn sc) i (orEmptyN (againN p)):=by
 have hk':=hk
 intro w hn
 obtain ⟨k,rfl,h1,h2,h3,x0,x1,x2,x3,x4,x5⟩:=node_at hn h0 h hl
 have HN:=hide hn
 have HP0:=hide (Po.start w #[.slice (some ⟨g,0,none⟩) ns.length cap,.slice sa sn sc] n)
 unfold ndA at HP0
 rw [hk] at x0 HP0
 have HS:=hide hp
 clear hp
 have HO:=hide ih
 clear hn h h0 hl ih hk
 go_enter Tryz.func60,Tryz.ntmps60
 go_wp2_with fail
 refine (unhide HO _ ((unhide HN).below (by exact three_below _ _ _ _))).mono ?_
 rintro e w1 ⟨v1,rfl,hv1,hw1⟩
 have HV1:=hide hv1
 have HP1:=hide ((unhide HP0).next hw1)
 obtain ⟨nv1,sv1,zs1,rfl,v2,v3,v4⟩:=id hv1
 obtain ⟨na1,nc1,rfl⟩:=v2.form
 obtain ⟨sa1,sc1,rfl⟩:=v3.form
 have hl1:=(unhide HP1).lt
 have hl0:w.heap.size+1 < w1.heap.size:=by omega
 have hl2:w.heap.size < w1.heap.size:=by omega
 have d0:=cell_of_row _ _ 0 _ _ _ (unhide HP1).b2
 have d2:=cell_of_row _ _ 2 _ _ _ (unhide HP1).b2
 have t0:=cell_of_row _ _ 0 _ _ _ (unhide HP1).b0
 have t1:=cell_of_row _ _ 1 _ _ _ (unhide HP1).b0
 simp only [ndA,List.getElem?_toArray,List.getElem?_cons_zero,List.getElem?_cons_succ,hk'] at d0 d2 t0 t1
 clear v2 v3 v4 hv1 hw1
 clear hk'
 have HA1:=hide ((unhide HV1).below ((Below.refl _ _).alloc (Nat.le_refl _) (Obj.cells #[.bool p.empty,.int .i64 (p.first:Int),.int .i64 (p.last:Int),.slice na1 p.next.length nc1,.slice sa1 zs1.length sc1] 127)))
 have HP1a:=hide ((unhide HP1).alloc (Obj.cells #[.bool p.empty,.int .i64 (p.first:Int),.int .i64 (p.last:Int),.slice na1 p.next.length nc1,.slice sa1 zs1.length sc1] 127))
 go_wp2_with fail
 refine (again_any _ _ fs _ (unhide HA1) (unhide HS)).mono ?_
 rintro e w2 ⟨v2,rfl,hv2,hw2⟩
 have HV2:=hide hv2
 have HP2:=hide ((unhide HP1a).next hw2)
 obtain ⟨nv2,sv2,zs2,rfl,v2,v3,v4⟩:=id hv2
 obtain ⟨na2,nc2,rfl⟩:=v2.form
 obtain ⟨sa2,sc2,rfl⟩:=v3.form
 clear v2 v3 v4 hv2 hw2
 go_wp2_with fail
 refine (orEmpty_any _ _ fs _ (unhide HV2)).mono ?_
 rintro e w3 ⟨v3,rfl,hv3,hw3⟩
 have HV3:=hide hv3
 have HP3:=hide ((unhide HP2).next hw3)
 obtain ⟨nv3,sv3,zs3,rfl,v2,v3,v4⟩:=id hv3
 obtain ⟨na3,nc3,rfl⟩:=v2.form
 obtain ⟨sa3,sc3,rfl⟩:=v3.form
 clear v2 v3 v4 hv3 hw3
 obtain ⟨q0,q1,q2,q3,q4⟩:=part_cells (unhide HP3).b1
 obtain ⟨r0,r1,r2,r3,r4⟩:=part_free (unhide HP3).b1
 go_wp2
 refine bodyPost_ret (v:=.agg #[.bool (orEmptyN (againN p)).empty,.int .i64 ((orEmptyN (againN p)).first:Int),.int .i64 ((orEmptyN (againN p)).last:Int),.slice na3 (orEmptyN (againN p)).next.length nc3,.slice sa3 zs3.length sc3]) (by simp [results,Tryz.results60,go_sem, *]) rfl ?_
 exact ⟨_,rfl,set5_part (unhide HV3) ⟨_,_,(unhide HP3).b1⟩,set5_below (unhide HP3).below (by omega)⟩
set_option maxHeartbeats 400000 in
theorem partOf_plus {i:Int} {n:Nd} {p:Part} (hl:ns.length≤1000) (h0:0≤i) (h:ns[i.toNat]?=some n) (hk:n.kind=5) (hp:p.Small)
  (ih:DoesP ns fs (.slice (some ⟨g,0,none⟩) ns.length cap) (.slice sa sn sc) n.left p) :
  DoesP ns fs (.slice (some ⟨g,0,none⟩) ns.length cap) (.slice sa sn sc) i (againN p):=by
 have hk':=hk
 intro w hn
 obtain ⟨k,rfl,h1,h2,h3,x0,x1,x2,x3,x4,x5⟩:=node_at hn h0 h hl
 have HN:=hide hn
 have HP0:=hide (Po.start w #[.slice (some ⟨g,0,none⟩) ns.length cap,.slice sa sn sc] n)
 unfold ndA at HP0
 rw [hk] at x0 HP0
 have HS:=hide hp
 clear hp
 have HO:=hide ih
 clear hn h h0 hl ih hk
 go_enter Tryz.func60,Tryz.ntmps60
 go_wp2_with fail
 refine (unhide HO _ ((unhide HN).below (by exact three_below _ _ _ _))).mono ?_
 rintro e w1 ⟨v1,rfl,hv1,hw1⟩
 have HV1:=hide hv1
 have HP1:=hide ((unhide HP0).next hw1)
 obtain ⟨nv1,sv1,zs1,rfl,v2,v3,v4⟩:=id hv1
 obtain ⟨na1,nc1,rfl⟩:=v2.form
 obtain ⟨sa1,sc1,rfl⟩:=v3.form
 have hl1:=(unhide HP1).lt
 have hl0:w.heap.size+1 < w1.heap.size:=by omega
 have hl2:w.heap.size < w1.heap.size:=by omega
 have d0:=cell_of_row _ _ 0 _ _ _ (unhide HP1).b2
 have d2:=cell_of_row _ _ 2 _ _ _ (unhide HP1).b2
 have t0:=cell_of_row _ _ 0 _ _ _ (unhide HP1).b0
 have t1:=cell_of_row _ _ 1 _ _ _ (unhide HP1).b0
 simp only [ndA,List.getElem?_toArray,List.getElem?_cons_zero,List.getElem?_cons_succ,hk'] at d0 d2 t0 t1
 clear v2 v3 v4 hv1 hw1
 clear hk'
 have HA1:=hide ((unhide HV1).below ((Below.refl _ _).alloc (Nat.le_refl _) (Obj.cells #[.bool p.empty,.int .i64 (p.first:Int),.int .i64 (p.last:Int),.slice na1 p.next.length nc1,.slice sa1 zs1.length sc1] 127)))
 have HP1a:=hide ((unhide HP1).alloc (Obj.cells #[.bool p.empty,.int .i64 (p.first:Int),.int .i64 (p.last:Int),.slice na1 p.next.length nc1,.slice sa1 zs1.length sc1] 127))
 go_wp2_with fail
 refine (again_any _ _ fs _ (unhide HA1) (unhide HS)).mono ?_
 rintro e w2 ⟨v2,rfl,hv2,hw2⟩
 have HV2:=hide hv2
 have HP2:=hide ((unhide HP1a).next hw2)
 obtain ⟨nv2,sv2,zs2,rfl,v2,v3,v4⟩:=id hv2
 obtain ⟨na2,nc2,rfl⟩:=v2.form
 obtain ⟨sa2,sc2,rfl⟩:=v3.form
 clear v2 v3 v4 hv2 hw2
 obtain ⟨q0,q1,q2,q3,q4⟩:=part_cells (unhide HP2).b1
 obtain ⟨r0,r1,r2,r3,r4⟩:=part_free (unhide HP2).b1
 go_wp2
 refine bodyPost_ret (v:=.agg #[.bool (againN p).empty,.int .i64 ((againN p).first:Int),.int .i64 ((againN p).last:Int),.slice na2 (againN p).next.length nc2,.slice sa2 zs2.length sc2]) (by simp [results,Tryz.results60,go_sem, *]) rfl ?_
 exact ⟨_,rfl,set5_part (unhide HV2) ⟨_,_,(unhide HP2).b1⟩,set5_below (unhide HP2).below (by omega)⟩
set_option maxHeartbeats 400000 in
theorem partOf_opt {i:Int} {n:Nd} {p:Part} (hl:ns.length≤1000) (h0:0≤i) (h:ns[i.toNat]?=some n) (hk:n.kind=6) (hp:p.Small)
  (ih:DoesP ns fs (.slice (some ⟨g,0,none⟩) ns.length cap) (.slice sa sn sc) n.left p) :
  DoesP ns fs (.slice (some ⟨g,0,none⟩) ns.length cap) (.slice sa sn sc) i (orEmptyN p):=by
 have hk':=hk
 intro w hn
 obtain ⟨k,rfl,h1,h2,h3,x0,x1,x2,x3,x4,x5⟩:=node_at hn h0 h hl
 have HN:=hide hn
 have HP0:=hide (Po.start w #[.slice (some ⟨g,0,none⟩) ns.length cap,.slice sa sn sc] n)
 unfold ndA at HP0
 rw [hk] at x0 HP0
 have HS:=hide hp
 clear hp
 have HO:=hide ih
 clear hn h h0 hl ih hk
 go_enter Tryz.func60,Tryz.ntmps60
 go_wp2_with fail
 refine (unhide HO _ ((unhide HN).below (by exact three_below _ _ _ _))).mono ?_
 rintro e w1 ⟨v1,rfl,hv1,hw1⟩
 have HV1:=hide hv1
 have HP1:=hide ((unhide HP0).next hw1)
 obtain ⟨nv1,sv1,zs1,rfl,v2,v3,v4⟩:=id hv1
 obtain ⟨na1,nc1,rfl⟩:=v2.form
 obtain ⟨sa1,sc1,rfl⟩:=v3.form
 have hl1:=(unhide HP1).lt
 have hl0:w.heap.size+1 < w1.heap.size:=by omega
 have hl2:w.heap.size < w1.heap.size:=by omega
 have d0:=cell_of_row _ _ 0 _ _ _ (unhide HP1).b2
 have d2:=cell_of_row _ _ 2 _ _ _ (unhide HP1).b2
 have t0:=cell_of_row _ _ 0 _ _ _ (unhide HP1).b0
 have t1:=cell_of_row _ _ 1 _ _ _ (unhide HP1).b0
 simp only [ndA,List.getElem?_toArray,List.getElem?_cons_zero,List.getElem?_cons_succ,hk'] at d0 d2 t0 t1
 clear v2 v3 v4 hv1 hw1
 clear hk'
 have HA1:=hide ((unhide HV1).below ((Below.refl _ _).alloc (Nat.le_refl _) (Obj.cells #[.bool p.empty,.int .i64 (p.first:Int),.int .i64 (p.last:Int),.slice na1 p.next.length nc1,.slice sa1 zs1.length sc1] 127)))
 have HP1a:=hide ((unhide HP1).alloc (Obj.cells #[.bool p.empty,.int .i64 (p.first:Int),.int .i64 (p.last:Int),.slice na1 p.next.length nc1,.slice sa1 zs1.length sc1] 127))
 go_wp2_with fail
 refine (orEmpty_any _ _ fs _ (unhide HA1)).mono ?_
 rintro e w2 ⟨v2,rfl,hv2,hw2⟩
 have HV2:=hide hv2
 have HP2:=hide ((unhide HP1a).next hw2)
 obtain ⟨nv2,sv2,zs2,rfl,v2,v3,v4⟩:=id hv2
 obtain ⟨na2,nc2,rfl⟩:=v2.form
 obtain ⟨sa2,sc2,rfl⟩:=v3.form
 clear v2 v3 v4 hv2 hw2
 obtain ⟨q0,q1,q2,q3,q4⟩:=part_cells (unhide HP2).b1
 obtain ⟨r0,r1,r2,r3,r4⟩:=part_free (unhide HP2).b1
 go_wp2
 refine bodyPost_ret (v:=.agg #[.bool (orEmptyN p).empty,.int .i64 ((orEmptyN p).first:Int),.int .i64 ((orEmptyN p).last:Int),.slice na2 (orEmptyN p).next.length nc2,.slice sa2 zs2.length sc2]) (by simp [results,Tryz.results60,go_sem, *]) rfl ?_
 exact ⟨_,rfl,set5_part (unhide HV2) ⟨_,_,(unhide HP2).b1⟩,set5_below (unhide HP2).below (by omega)⟩
set_option maxHeartbeats 1000000 in
theorem partOf_seq {i:Int} {n:Nd} {p q:Part} (hl:ns.length≤1000) (h0:0≤i) (h:ns[i.toNat]?=some n) (hk:n.kind=2) (op:p.Ok) (oq:q.Ok) (hpq:p.next.length+q.next.length≤50)
  (ih:DoesP ns fs (.slice (some ⟨g,0,none⟩) ns.length cap) (.slice sa sn sc) n.left p) (ih2:DoesP ns fs (.slice (some ⟨g,0,none⟩) ns.length cap) (.slice sa sn sc) n.right q) :
  DoesP ns fs (.slice (some ⟨g,0,none⟩) ns.length cap) (.slice sa sn sc) i (behindN p q):=by
 have hk':=hk
 intro w hn
 obtain ⟨k,rfl,h1,h2,h3,x0,x1,x2,x3,x4,x5⟩:=node_at hn h0 h hl
 have HN:=hide hn
 have HP0:=hide (Po.start w #[.slice (some ⟨g,0,none⟩) ns.length cap,.slice sa sn sc] n)
 unfold ndA at HP0
 rw [hk] at x0 HP0
 have HS:=hide (And.intro op (And.intro oq hpq))
 have HO2:=hide ih2
 clear op oq hpq ih2
 have HO:=hide ih
 clear hn h h0 hl ih hk
 go_enter Tryz.func60,Tryz.ntmps60
 go_wp2_with fail
 refine (unhide HO _ ((unhide HN).below (by exact three_below _ _ _ _))).mono ?_
 rintro e w1 ⟨v1,rfl,hv1,hw1⟩
 have HV1:=hide hv1
 have HP1:=hide ((unhide HP0).next hw1)
 obtain ⟨nv1,sv1,zs1,rfl,v2,v3,v4⟩:=id hv1
 obtain ⟨na1,nc1,rfl⟩:=v2.form
 obtain ⟨sa1,sc1,rfl⟩:=v3.form
 have hl1:=(unhide HP1).lt
 have hl0:w.heap.size+1 < w1.heap.size:=by omega
 have hl2:w.heap.size < w1.heap.size:=by omega
 have d0:=cell_of_row _ _ 0 _ _ _ (unhide HP1).b2
 have d2:=cell_of_row _ _ 2 _ _ _ (unhide HP1).b2
 have t0:=cell_of_row _ _ 0 _ _ _ (unhide HP1).b0
 have t1:=cell_of_row _ _ 1 _ _ _ (unhide HP1).b0
 simp only [ndA,List.getElem?_toArray,List.getElem?_cons_zero,List.getElem?_cons_succ,hk'] at d0 d2 t0 t1
 clear v2 v3 v4 hv1 hw1
 clear hk'
 have HA1:=hide ((unhide HV1).below ((Below.refl _ _).alloc (Nat.le_refl _) (Obj.cells #[.bool p.empty,.int .i64 (p.first:Int),.int .i64 (p.last:Int),.slice na1 p.next.length nc1,.slice sa1 zs1.length sc1] 127)))
 have HP1a:=hide ((unhide HP1).alloc (Obj.cells #[.bool p.empty,.int .i64 (p.first:Int),.int .i64 (p.last:Int),.slice na1 p.next.length nc1,.slice sa1 zs1.length sc1] 127))
 have HL1:=hide (heap_alloc_new w1 (Obj.cells #[.bool p.empty,.int .i64 (p.first:Int),.int .i64 (p.last:Int),.slice na1 p.next.length nc1,.slice sa1 zs1.length sc1] 127))
 go_wp2_with fail
 refine (unhide HO2 _ ((unhide HN).below (by exact (unhide HP1a).below))).mono ?_
 rintro e w2 ⟨v2',rfl,hv2,hw2⟩
 have HV2:=hide hv2
 have HP2:=hide ((unhide HP1a).next hw2)
 obtain ⟨nv2,sv2,zs2,rfl,v2,v3,v4⟩:=id hv2
 obtain ⟨na2,nc2,rfl⟩:=v2.form
 obtain ⟨sa2,sc2,rfl⟩:=v3.form
 have hq2:=(hw2.block w1.heap.size (by simp)).trans (unhide HL1)
 have hl3:w1.heap.size < w2.heap.size:=(Array.getElem?_eq_some_iff.1 hq2).1
 obtain ⟨c0,c1,c2,c3,c4⟩:=part_cells hq2
 have HA2:=hide (((unhide HA1).below hw2).below ((Below.refl _ _).alloc (Nat.le_refl _) (Obj.cells #[.bool q.empty,.int .i64 (q.first:Int),.int .i64 (q.last:Int),.slice na2 q.next.length nc2,.slice sa2 zs2.length sc2] 127)))
 have HB2:=hide ((unhide HV2).below ((Below.refl _ _).alloc (Nat.le_refl _) (Obj.cells #[.bool q.empty,.int .i64 (q.first:Int),.int .i64 (q.last:Int),.slice na2 q.next.length nc2,.slice sa2 zs2.length sc2] 127)))
 have HP2a:=hide ((unhide HP2).alloc (Obj.cells #[.bool q.empty,.int .i64 (q.first:Int),.int .i64 (q.last:Int),.slice na2 q.next.length nc2,.slice sa2 zs2.length sc2] 127))
 clear v2 v3 v4 hv2 hw2 hq2 d0 d2 t0 t1
 go_wp2_with fail
 refine (behind_any _ _ _ fs _ _ (unhide HA2) (unhide HB2) (unhide HS).1 (unhide HS).2.1 (unhide HS).2.2).mono ?_
 rintro e w3 ⟨v3',rfl,hv3,hw3⟩
 have HV3:=hide hv3
 have HP3:=hide ((unhide HP2a).next hw3)
 obtain ⟨nv3,sv3,zs3,rfl,v2,v3,v4⟩:=id hv3
 obtain ⟨na3,nc3,rfl⟩:=v2.form
 obtain ⟨sa3,sc3,rfl⟩:=v3.form
 clear v2 v3 v4 hv3 hw3 c0 c1 c2 c3 c4
 obtain ⟨q0,q1,q2,q3,q4⟩:=part_cells (unhide HP3).b1
 obtain ⟨r0,r1,r2,r3,r4⟩:=part_free (unhide HP3).b1
 go_wp2
 refine bodyPost_ret (v:=.agg #[.bool (behindN p q).empty,.int .i64 ((behindN p q).first:Int),.int .i64 ((behindN p q).last:Int),.slice na3 (behindN p q).next.length nc3,.slice sa3 zs3.length sc3]) (by simp [results,Tryz.results60,go_sem, *]) rfl ?_
 exact ⟨_,rfl,set5_part (unhide HV3) ⟨_,_,(unhide HP3).b1⟩,set5_below (unhide HP3).below (by omega)⟩
set_option maxHeartbeats 1000000 in
theorem partOf_alt {i:Int} {n:Nd} {p q:Part} (hl:ns.length≤1000) (h0:0≤i) (h:ns[i.toNat]?=some n) (hk:n.kind=3) (op:p.Ok) (oq:q.Ok) (hpq:p.next.length+q.next.length≤50)
  (ih:DoesP ns fs (.slice (some ⟨g,0,none⟩) ns.length cap) (.slice sa sn sc) n.left p) (ih2:DoesP ns fs (.slice (some ⟨g,0,none⟩) ns.length cap) (.slice sa sn sc) n.right q) :
  DoesP ns fs (.slice (some ⟨g,0,none⟩) ns.length cap) (.slice sa sn sc) i (besideN p q):=by
 have hk':=hk
 intro w hn
 obtain ⟨k,rfl,h1,h2,h3,x0,x1,x2,x3,x4,x5⟩:=node_at hn h0 h hl
 have HN:=hide hn
 have HP0:=hide (Po.start w #[.slice (some ⟨g,0,none⟩) ns.length cap,.slice sa sn sc] n)
 unfold ndA at HP0
 rw [hk] at x0 HP0
 have HS:=hide (And.intro op (And.intro oq hpq))
 have HO2:=hide ih2
 clear op oq hpq ih2
 have HO:=hide ih
 clear hn h h0 hl ih hk
 go_enter Tryz.func60,Tryz.ntmps60
 go_wp2_with fail
 refine (unhide HO _ ((unhide HN).below (by exact three_below _ _ _ _))).mono ?_
 rintro e w1 ⟨v1,rfl,hv1,hw1⟩
 have HV1:=hide hv1
 have HP1:=hide ((unhide HP0).next hw1)
 obtain ⟨nv1,sv1,zs1,rfl,v2,v3,v4⟩:=id hv1
 obtain ⟨na1,nc1,rfl⟩:=v2.form
 obtain ⟨sa1,sc1,rfl⟩:=v3.form
 have hl1:=(unhide HP1).lt
 have hl0:w.heap.size+1 < w1.heap.size:=by omega
 have hl2:w.heap.size < w1.heap.size:=by omega
 have d0:=cell_of_row _ _ 0 _ _ _ (unhide HP1).b2
 have d2:=cell_of_row _ _ 2 _ _ _ (unhide HP1).b2
 have t0:=cell_of_row _ _ 0 _ _ _ (unhide HP1).b0
 have t1:=cell_of_row _ _ 1 _ _ _ (unhide HP1).b0
 simp only [ndA,List.getElem?_toArray,List.getElem?_cons_zero,List.getElem?_cons_succ,hk'] at d0 d2 t0 t1
 clear v2 v3 v4 hv1 hw1
 clear hk'
 have HA1:=hide ((unhide HV1).below ((Below.refl _ _).alloc (Nat.le_refl _) (Obj.cells #[.bool p.empty,.int .i64 (p.first:Int),.int .i64 (p.last:Int),.slice na1 p.next.length nc1,.slice sa1 zs1.length sc1] 127)))
 have HP1a:=hide ((unhide HP1).alloc (Obj.cells #[.bool p.empty,.int .i64 (p.first:Int),.int .i64 (p.last:Int),.slice na1 p.next.length nc1,.slice sa1 zs1.length sc1] 127))
 have HL1:=hide (heap_alloc_new w1 (Obj.cells #[.bool p.empty,.int .i64 (p.first:Int),.int .i64 (p.last:Int),.slice na1 p.next.length nc1,.slice sa1 zs1.length sc1] 127))
 go_wp2_with fail
 refine (unhide HO2 _ ((unhide HN).below (by exact (unhide HP1a).below))).mono ?_
 rintro e w2 ⟨v2',rfl,hv2,hw2⟩
 have HV2:=hide hv2
 have HP2:=hide ((unhide HP1a).next hw2)
 obtain ⟨nv2,sv2,zs2,rfl,v2,v3,v4⟩:=id hv2
 obtain ⟨na2,nc2,rfl⟩:=v2.form
 obtain ⟨sa2,sc2,rfl⟩:=v3.form
 have hq2:=(hw2.block w1.heap.size (by simp)).trans (unhide HL1)
 have hl3:w1.heap.size < w2.heap.size:=(Array.getElem?_eq_some_iff.1 hq2).1
 obtain ⟨c0,c1,c2,c3,c4⟩:=part_cells hq2
 have HA2:=hide (((unhide HA1).below hw2).below ((Below.refl _ _).alloc (Nat.le_refl _) (Obj.cells #[.bool q.empty,.int .i64 (q.first:Int),.int .i64 (q.last:Int),.slice na2 q.next.length nc2,.slice sa2 zs2.length sc2] 127)))
 have HB2:=hide ((unhide HV2).below ((Below.refl _ _).alloc (Nat.le_refl _) (Obj.cells #[.bool q.empty,.int .i64 (q.first:Int),.int .i64 (q.last:Int),.slice na2 q.next.length nc2,.slice sa2 zs2.length sc2] 127)))
 have HP2a:=hide ((unhide HP2).alloc (Obj.cells #[.bool q.empty,.int .i64 (q.first:Int),.int .i64 (q.last:Int),.slice na2 q.next.length nc2,.slice sa2 zs2.length sc2] 127))
 clear v2 v3 v4 hv2 hw2 hq2 d0 d2 t0 t1
 go_wp2_with fail
 refine (beside_any _ _ _ fs _ _ (unhide HA2) (unhide HB2) (unhide HS).1 (unhide HS).2.1 (unhide HS).2.2).mono ?_
 rintro e w3 ⟨v3',rfl,hv3,hw3⟩
 have HV3:=hide hv3
 have HP3:=hide ((unhide HP2a).next hw3)
 obtain ⟨nv3,sv3,zs3,rfl,v2,v3,v4⟩:=id hv3
 obtain ⟨na3,nc3,rfl⟩:=v2.form
 obtain ⟨sa3,sc3,rfl⟩:=v3.form
 clear v2 v3 v4 hv3 hw3 c0 c1 c2 c3 c4
 obtain ⟨q0,q1,q2,q3,q4⟩:=part_cells (unhide HP3).b1
 obtain ⟨r0,r1,r2,r3,r4⟩:=part_free (unhide HP3).b1
 go_wp2
 refine bodyPost_ret (v:=.agg #[.bool (besideN p q).empty,.int .i64 ((besideN p q).first:Int),.int .i64 ((besideN p q).last:Int),.slice na3 (besideN p q).next.length nc3,.slice sa3 zs3.length sc3]) (by simp [results,Tryz.results60,go_sem, *]) rfl ?_
 exact ⟨_,rfl,set5_part (unhide HV3) ⟨_,_,(unhide HP3).b1⟩,set5_below (unhide HP3).below (by omega)⟩
end
theorem partOf_any {ns:List Nd} {fs:List (Nat→Bool)} {g cap sn sc:Nat} {sa:Option Addr} (hl:ns.length≤1000):∀ (R:Re) (i:Int),Dn ns fs R i→R.wt≤50→DoesP ns fs (.slice (some ⟨g,0,none⟩) ns.length cap) (.slice sa sn sc) i (partN R):=by
 have small:∀ R:Re,R.wt≤50→(partN R).Small:=fun R h=>(partN_ok R).small (by have:=partN_len R;omega)
 intro R
 induction R using Re.ind with
 | blank=>rintro i ⟨n,h0,h1,h2⟩ _;exact partOf_blank hl h0 h1 h2
 | set f=>rintro i ⟨n,h0,h1,h2,h3,h4⟩ _;exact partOf_one hl h0 h1 h2 h3 h4
 | seq a b iha ihb =>
  rintro i ⟨n,h0,h1,h2,_,_,h5,h6⟩ hw
  have:=a.wt_pos;have:=b.wt_pos;have ea:=partN_len a;have eb:=partN_len b
  rw [Re.wt_seq] at hw
  rw [partN_seq]
  exact partOf_seq hl h0 h1 h2 (partN_ok a) (partN_ok b) (by omega) (iha _ h5 (by omega)) (ihb _ h6 (by omega))
 | alt a b iha ihb =>
  rintro i ⟨n,h0,h1,h2,_,_,h5,h6⟩ hw
  have:=a.wt_pos;have:=b.wt_pos;have ea:=partN_len a;have eb:=partN_len b
  rw [Re.wt_alt] at hw
  rw [partN_alt]
  exact partOf_alt hl h0 h1 h2 (partN_ok a) (partN_ok b) (by omega) (iha _ h5 (by omega)) (ihb _ h6 (by omega))
 | star a iha=>rintro i ⟨n,h0,h1,h2,_,h5⟩ hw;exact partOf_star hl h0 h1 h2 (small a hw) (iha _ h5 hw)
 | plus a iha=>rintro i ⟨n,h0,h1,h2,_,h5⟩ hw;exact partOf_plus hl h0 h1 h2 (small a hw) (iha _ h5 hw)
 | opt a iha=>rintro i ⟨n,h0,h1,h2,_,h5⟩ hw;exact partOf_opt hl h0 h1 h2 (small a hw) (iha _ h5 hw)
 | times x y a iha =>
  rintro i ⟨n,h0,h1,h2,hx,hy,x9,y9,_,h5⟩ hw
  have key:y≠0→a.wt≤50∧((partN a).next.length:Int) * (y:Int)≤50:=by
   intro hy0
   have hp:=a.wt_pos
   have ea:=partN_len a
   have m1:a.wt * 1≤a.wt * (y:Int):=Int.mul_le_mul_of_nonneg_left (by omega) (by omega)
   have m2:((partN a).next.length:Int) * (y:Int)≤a.wt * (y:Int):=Int.mul_le_mul_of_nonneg_right ea (by omega)
   rw [Re.wt_times] at hw
   simp only [max1] at hw
   split at hw<;>omega
  refine partOf_times hl h0 h1 h2 (fun w hn=>timesPart_of ns fs g cap sn sc sa n x y a hx hy x9 y9 (fun _ hy0=>iha _ h5 (key hy0).1) (fun _ hy0=>?_) w hn)
  have:=(key hy0).2
  exact Int.ofNat_le.1 (by push_cast;exact this)
end Go.Proofs.YtobfpgoepaeknaaGreat
namespace Go.Proofs.YtobfpgoepaeknaaGreat
open Go.RowKit
theorem wpList_load_mid {P:Program} {ops:Array Oper} {rest:List Oper} {o:Oper} {a:Act} {w:World} {Q:Exit→Act→World→Prop} (hgd:o.guard=none) (ty:TypeId) (x:Operand) (ho:o.op=.load ty x)
  (a0:Addr) (hx:a.eval x=.pointer (some a0)) (cs:Array Value) (hc:∀ j v,cs.toList[j]?=some v→w.cell? (a0.add j)=some v) (d:TypeDesc)
  (hu:P.underlying ty=some d) (hd:(match d with | .struct _ | .array _ _=>true | _=>false)=true) (hi:(P.info? ty).map (·.size)=some cs.size)
  (h:wpList P ops Q rest (a.put o.dst (.agg cs)) w):wpList P ops Q (o ::rest) a w:=by
 refine wpList_plain hgd fun _ hK=>?_
 have hl:=run_loadCells_list (P:=P) w a0 cs.toList hc
 simp only [Array.length_toList,Array.toArray_toList] at hl
 cases hq:P.info? ty with
 | none=>simp [hq] at hi
 | some i =>
  have hs:i.size=cs.size:=by simpa [hq] using hi
  have hagg:(isAgg ty).run P w=.ok true w:=by
   unfold isAgg
   rw [Sem.run_bind,run_underlying hu w]
   cases d<;>simp_all
  have hrun:(loadVar ty a0).run P w=.ok (.agg cs) w:=by
   simp [loadVar,Sem.run_bind,hagg,sizeOf,typeInfo,hq,hs,hl]
  unfold Oper.wp execOp
  simp only [ho,hx,Instr.loadAt,Instr.sureAddr,Sem.run_bind,Sem.run_pure,Result.andThen_ok,hrun]
  exact hK _ _ h
def bytesN (s:ByteArray):List Nat:=s.data.toList.map fun b=>b.toNat
theorem bytesN_len (s:ByteArray):(bytesN s).length=s.size:=by unfold bytesN;rw [List.length_map,Array.length_toList];rfl
theorem bytesN_at (s:ByteArray) (k:Nat) (h:k < s.size) (h':k < (bytesN s).length):(bytesN s)[k]=s[k].toNat:=by simp [bytesN,ByteArray.getElem_eq_getElem_data]
end Go.Proofs.YtobfpgoepaeknaaGreat
namespace Go.Proofs.YtobfpgoepaeknaaGreat
open Go.RowKit
attribute [local go_sem ↓] zvS
attribute [local go_sem] zcS_size zcS_ne
attribute [local go_sem ↓] Go.wp_at_zero Go.wp_at_succ
def FsRow (w:World) (B:Nat) (v:Value) (fs:List (Nat→Bool)):Prop:=w.ownsRow B 132 256 v fs.length (setsCells fs)
theorem FsRow.below {w w':World} {B:Nat} {v:Value} {fs:List (Nat→Bool)} (h:FsRow w B v fs) (hb:Below w.heap.size w w'):FsRow w' B v fs:=own_below h hb
theorem FsRow.form {w:World} {B:Nat} {v:Value} {fs:List (Nat→Bool)} (h:FsRow w B v fs):(∃ a c,v=.slice a fs.length c):=by
 rcases h.2 with ⟨rfl,h0⟩ | ⟨g,cap,cur,rfl,_⟩
 ·exact ⟨none,0,by rw [h0]⟩
 ·exact ⟨_,_,rfl⟩
theorem set_cells {w:World} {B g cap:Nat} {fs:List (Nat→Bool)} (h:FsRow w B (.slice (some ⟨g,0,none⟩) fs.length cap) fs) (k:Nat) (f:Nat→Bool) (hk:fs[k]?=some f) :
  ∀ j v,(setA f).toList[j]?=some v→w.cell? ((⟨g,k * 256,none⟩:Addr).add j)=some v:=by
 have key:∀ (l:List (Nat→Bool)) (k:Nat) (j:Nat) (v:Value),l[k]?=some f→(setA f).toList[j]?=some v→(setsCells l)[k * 256+j]?=some v:=by
  intro l
  induction l with
  | nil=>intro k j v h;simp at h
  | cons a l ih =>
   intro k j v h hv
   have e:setsCells (a ::l)=(setA a).toList++setsCells l:=by simp [setsCells]
   rw [e]
   have hl:(setA a).toList.length=256:=by rw [Array.length_toList,size_setA]
   have hj:j < 256:=by
    have:=(List.getElem?_eq_some_iff.1 hv).1
    rwa [Array.length_toList,size_setA] at this
   cases k with
   | zero =>
    simp only [List.getElem?_cons_zero,Option.some.injEq] at h
    subst h
    rw [List.getElem?_append_left (by rw [hl];omega),Nat.zero_mul,Nat.zero_add]
    exact hv
   | succ k =>
    rw [List.getElem?_append_right (by rw [hl];omega),hl]
    have:=ih k j v (by simpa using h) hv
    rw [show (k+1) * 256+j - 256=k * 256+j from by omega]
    exact this
 intro j v hv
 have h1:=key fs k j v hk hv
 have h':w.ownsRow B 132 256 (.slice (some ⟨g,0,none⟩) fs.length cap) fs.length (setsCells fs):=h
 have h2:=h'.cells (g:=g) rfl _ _ h1
 have hadd:(⟨g,0,none⟩:Addr).add (k * 256+j)=(⟨g,k * 256,none⟩:Addr).add j:=by unfold Addr.add;split<;>split<;>simp_all
 rwa [hadd] at h2
theorem setOf_neg {fs:List (Nat→Bool)} {z:Int} (h:z < 0):setOf fs z=fun _=>false:=by unfold setOf;rw [if_neg (by omega)]
theorem setOf_over {fs:List (Nat→Bool)} {z:Int} (h:(fs.length:Int)≤z):setOf fs z=fun _=>false:=by
 unfold setOf;rw [if_pos (by omega),List.getElem?_eq_none (by omega)];rfl
theorem setOf_at {fs:List (Nat→Bool)} {k:Nat} {f:Nat→Bool} (h:fs[k]?=some f):setOf fs (k:Int)=f:=by
 unfold setOf;rw [if_pos (by omega),Int.toNat_natCast,h];rfl
set_option maxHeartbeats 400000 in
theorem setAt_any (w:World) (na:Option Addr) (nn nc:Nat) (sv:Value) (fs:List (Nat→Bool)) (z:Int) (B:Nat) (h:FsRow w B sv fs) (hl:fs.length≤1000) :
  Calls Tryz.prog 63 #[.agg #[.slice na nn nc,sv],.int .i64 z] w fun e w'=>e=.returned (.agg (setA (setOf fs z)))∧Below w.heap.size w w':=by
 obtain ⟨sa,sc,rfl⟩:=h.form
 have H:=hide h
 have HT:=hide (heap_alloc2_old w (Obj.cells #[.slice na nn nc,.slice sa fs.length sc] 86) (Obj.cells zcS 132))
 have HZ:=hide (heap_alloc2_new w (Obj.cells #[.slice na nn nc,.slice sa fs.length sc] 86) (Obj.cells zcS 132))
 have HB:=hide (((Below.refl w.heap.size w).alloc (Nat.le_refl _) (Obj.cells #[.slice na nn nc,.slice sa fs.length sc] 86)).alloc (by simp) (Obj.cells zcS 132))
 have hlI:(fs.length:Int)≤1000:=by omega
 clear h hl
 by_cases hz:z < 0
 ·rw [setOf_neg hz]
  go_enter Tryz.func63,Tryz.ntmps63
  go_wp2_with (refine wpList_store_row rfl 132 _ _ rfl (w.heap.size+1) zcS rfl rfl 132 _ (unhide HZ) (by rw [zero84,size_setA];kernel_rfl) rfl (by rw [zero84];exact setA_one _) ?_)
  exact bodyPost_ret (v:=.agg (setA fun _=>false))
    (by rw [←zero84];exact results_cell_row (p:=4) (ty:=132) rfl _ _ (w.heap.size+1) 132 _ (0,0) _ rfl (setRow_heap _ _ _ _ _ _ (unhide HZ)) Tryz.underlying132 rfl (by rw [zero84,size_setA];kernel_rfl))
    rfl ⟨rfl,below_setRow (unhide HB) (by omega) _⟩
 ·by_cases hz2:(fs.length:Int)≤z
  ·rw [setOf_over hz2]
   have hz0:0≤z:=by omega
   clear hz
   go_enter Tryz.func63,Tryz.ntmps63
   go_wp2_with (refine wpList_store_row rfl 132 _ _ rfl (w.heap.size+1) zcS rfl rfl 132 _ (unhide HZ) (by rw [zero84,size_setA];kernel_rfl) rfl (by rw [zero84];exact setA_one _) ?_)
   exact bodyPost_ret (v:=.agg (setA fun _=>false))
    (by rw [←zero84];exact results_cell_row (p:=4) (ty:=132) rfl _ _ (w.heap.size+1) 132 _ (0,0) _ rfl (setRow_heap _ _ _ _ _ _ (unhide HZ)) Tryz.underlying132 rfl (by rw [zero84,size_setA];kernel_rfl))
    rfl ⟨rfl,below_setRow (unhide HB) (by omega) _⟩
  ·obtain ⟨k,rfl⟩:=Int.eq_ofNat_of_zero_le (show 0≤z by omega)
   have hk:k < fs.length:=by omega
   have hkI:(k:Int) < (fs.length:Int):=by omega
   have hf:fs[k]?=some fs[k]:=List.getElem?_eq_getElem hk
   rw [setOf_at hf]
   obtain ⟨m,hm⟩:∃ m,fs.length=m+1:=⟨fs.length - 1,by omega⟩
   obtain ⟨g,cap,he⟩:∃ g cap,Value.slice sa fs.length sc=.slice (some ⟨g,0,none⟩) fs.length cap:=by
    have h':w.ownsRow B 132 256 (.slice sa fs.length sc) fs.length (setsCells fs):=unhide H
    rw [hm] at h' ⊢;exact own_form h'
   simp only [Value.slice.injEq,true_and] at he
   obtain ⟨rfl,rfl⟩:=he
   have HC:=hide (set_cells ((unhide H).below (unhide HB)) k _ hf)
   generalize fs[k]=f at *
   clear hz hz2 hf hm hk
   go_enter Tryz.func63,Tryz.ntmps63
   go_wp2_with (first
    | refine wpList_load_mid rfl 132 _ rfl ⟨g,k * 256,none⟩ rfl (setA f) (unhide HC) _ Tryz.underlying132 rfl (by rw [size_setA];kernel_rfl) ?_
    | refine wpList_store_row rfl 132 _ _ rfl (w.heap.size+1) _ rfl rfl 132 _ (unhide HZ) (by rw [size_setA];kernel_rfl) (by rw [zero84,size_setA,size_setA]) (setA_one _) ?_)
   exact bodyPost_ret (v:=.agg (setA f))
    (results_cell_row (p:=4) (ty:=132) rfl _ _ (w.heap.size+1) 132 _ (0,0) _ rfl (setRow_heap _ _ _ _ _ _ (unhide HZ)) Tryz.underlying132 rfl (by rw [size_setA];kernel_rfl))
    rfl ⟨rfl,below_setRow (unhide HB) (by omega) _⟩
end Go.Proofs.YtobfpgoepaeknaaGreat
namespace Go.Proofs.YtobfpgoepaeknaaGreat
def dRun (nx:Nat→Nat→Nat):Nat→List Nat→Nat
 | i,[]=>i
 | i,b ::u=>dRun nx (nx i b) u
theorem dRun_append (nx:Nat→Nat→Nat):∀ (u v:List Nat) (i:Nat),dRun nx i (u++v)=dRun nx (dRun nx i u) v
 | [],_,_=>rfl
 | b ::u,v,i=>dRun_append nx u v (nx i b)
def bytesOk (u:List Nat):Prop:=∀ b∈u,b < 256
theorem bytesOk_nil:bytesOk []:=fun _ h=>by cases h
theorem bytesOk_cons {b:Nat} {u:List Nat} (hb:b < 256) (hu:bytesOk u):bytesOk (b ::u):=fun x h=>by
 rcases List.mem_cons.1 h with rfl | h
 ·exact hb
 ·exact hu x h
theorem bytesOk_append {u v:List Nat} (hu:bytesOk u) (hv:bytesOk v):bytesOk (u++v):=fun x h=>by
 rcases List.mem_append.1 h with h | h
 ·exact hu x h
 ·exact hv x h
theorem bytesOk_snoc {u:List Nat} {b:Nat} (hu:bytesOk u) (hb:b < 256):bytesOk (u++[b]):=bytesOk_append hu (bytesOk_cons hb bytesOk_nil)
theorem bytesOk_tail {b:Nat} {u:List Nat} (h:bytesOk (b ::u)):b < 256∧bytesOk u:=⟨h b (by simp),fun x hx=>h x (by simp [hx])⟩
structure MinDfa (L:List Nat→Prop) (S:Nat) (nx:Nat→Nat→Nat) (gr:Nat→Bool):Prop where
 pos:0 < S
 lt:∀ i b,i < S→b < 256→nx i b < S
 says:∀ u,bytesOk u→(gr (dRun nx 0 u)=true↔L u)
 sep:∀ i j,i < S→j < S→(∀ u,bytesOk u→gr (dRun nx i u)=gr (dRun nx j u))→i=j
 bfs:∀ k,0 < k→k < S→∃ i b,i < k∧b < 256∧nx i b=k∧(∀ i' b',b' < 256→i' < i→nx i' b' < k)∧(∀ b',b' < b→nx i b' < k)
theorem MinDfa.run_lt {L:List Nat→Prop} {S:Nat} {nx:Nat→Nat→Nat} {gr:Nat→Bool} (h:MinDfa L S nx gr):∀ (u:List Nat) (i:Nat),i < S→bytesOk u→dRun nx i u < S
 | [],_,hi,_=>hi
 | b ::u,i,hi,hu=>h.run_lt u _ (h.lt i b hi (bytesOk_tail hu).1) (bytesOk_tail hu).2
theorem MinDfa.reached {L:List Nat→Prop} {S:Nat} {nx:Nat→Nat→Nat} {gr:Nat→Bool} (h:MinDfa L S nx gr) (k:Nat):k < S→∃ u,bytesOk u∧dRun nx 0 u=k:=by
 induction k using Nat.strongRecOn with
 | ind k ih =>
  intro hk
  by_cases h0:k=0
  ·exact ⟨[],bytesOk_nil,h0.symm⟩
  ·obtain ⟨i,b,hi,hb,e,_⟩:=h.bfs k (by omega) hk
   obtain ⟨u,hu,eu⟩:=ih i hi (by omega)
   exact ⟨u++[b],bytesOk_snoc hu hb,by rw [dRun_append,eu];exact e⟩
section unique
variable {L : List Nat → Prop} {S S' : Nat} {nx nx' : Nat → Nat → Nat} {gr gr' : Nat → Bool}
theorem MinDfa.same (h:MinDfa L S nx gr) (h':MinDfa L S' nx' gr') (k:Nat):k < S→k < S'→∀ u,bytesOk u→gr (dRun nx k u)=gr' (dRun nx' k u):=by
 induction k using Nat.strongRecOn with
 | ind k ih =>
  intro hk hk'
  by_cases h0:k=0
  ·subst h0
   intro u hu
   have e1:=h.says u hu
   have e2:=h'.says u hu
   rw [Bool.eq_iff_iff,e1,e2]
  ·obtain ⟨i,b,hi,hb,e,f1,f2⟩:=h.bfs k (by omega) hk
   obtain ⟨i',b',hi',hb',e',f1',f2'⟩:=h'.bfs k (by omega) hk'
   have step:∀ i b,i < k→b < 256→∀ u,bytesOk u→gr (dRun nx (nx i b) u)=gr' (dRun nx' (nx' i b) u):=fun i b hi hb u hu=>ih i hi (by omega) (by omega) (b ::u) (bytesOk_cons hb hu)
   have a1:¬nx' i b < k:=fun hl=>by
    have:nx' i b=k:=by
     have:=h.sep k (nx' i b) hk (by omega) fun u hu=>by
      rw [←e,step i b hi hb u hu]
      exact (ih _ hl (by omega) (by omega) u hu).symm
     omega
    omega
   have a2:¬nx i' b' < k:=fun hl=>by
    have:nx i' b'=k:=by
     have:=h'.sep k (nx i' b') hk' (by omega) fun u hu=>by
      rw [←e',←step i' b' hi' hb' u hu]
      exact ih _ hl (by omega) (by omega) u hu
     omega
    omega
   have hii:i=i':=by
    rcases Nat.lt_trichotomy i i' with h1 | h1 | h1
    ·exact absurd (f1' i b hb h1) a1
    ·exact h1
    ·exact absurd (f1 i' b' hb' h1) a2
   subst hii
   have hbb:b=b':=by
    rcases Nat.lt_trichotomy b b' with h1 | h1 | h1
    ·exact absurd (f2' b h1) a1
    ·exact h1
    ·exact absurd (f2 b' h1) a2
   subst hbb
   intro u hu
   have:=step i b hi hb u hu
   rwa [e,e'] at this
theorem MinDfa.size_le (h:MinDfa L S nx gr) (h':MinDfa L S' nx' gr'):S'≤S:=by
 refine Nat.le_of_not_lt fun hlt=>?_
 obtain ⟨i,b,hi,hb,e,_⟩:=h'.bfs S h.pos hlt
 have hn:=h.lt i b hi hb
 have:=h'.sep S (nx i b) hlt (by omega) fun u hu=>by
  have:=h.same h' i hi (by omega) (b ::u) (bytesOk_cons hb hu)
  simp only [dRun,e] at this
  rw [←this]
  exact h.same h' _ hn (by omega) u hu
 omega
theorem MinDfa.size_eq (h:MinDfa L S nx gr) (h':MinDfa L S' nx' gr'):S=S':=Nat.le_antisymm (h'.size_le h) (h.size_le h')
theorem MinDfa.nx_eq (h:MinDfa L S nx gr) (h':MinDfa L S' nx' gr') {i b:Nat} (hi:i < S) (hb:b < 256):nx i b=nx' i b:=by
 have hS:=h.size_eq h'
 have hn:=h.lt i b hi hb
 refine h'.sep _ _ (by omega) (h'.lt i b (by omega) hb) fun u hu=>?_
 rw [←h.same h' _ hn (by omega) u hu]
 exact h.same h' i hi (by omega) (b ::u) (bytesOk_cons hb hu)
theorem MinDfa.gr_eq (h:MinDfa L S nx gr) (h':MinDfa L S' nx' gr') {i:Nat} (hi:i < S):gr i=gr' i :=
 h.same h' i hi (by rw [←h.size_eq h'];exact hi) [] bytesOk_nil
end unique
structure Cols (S:Nat) (nx:Nat→Nat→Nat) (C:Nat) (cl:Nat→Nat):Prop where
 lt:∀ b,b < 256→cl b < C
 eq:∀ b b',b < 256→b' < 256→(cl b=cl b'↔∀ i,i < S→nx i b=nx i b')
 grow:∀ b,b < 256→∀ c,c < cl b→∃ b',b' < b∧cl b'=c
 all:∀ c,c < C→∃ b,b < 256∧cl b=c
theorem Cols.cl_eq {S:Nat} {nx nx':Nat→Nat→Nat} {C C':Nat} {cl cl':Nat→Nat} (h:Cols S nx C cl) (h':Cols S nx' C' cl') (hn:∀ i b,i < S→b < 256→nx i b=nx' i b) (b:Nat):b < 256→cl b=cl' b:=by
 have hq:∀ b b',b < 256→b' < 256→(cl b=cl b'↔cl' b=cl' b'):=fun b b' hb hb'=>by
  rw [h.eq b b' hb hb',h'.eq b b' hb hb']
  constructor
  ·intro g i hi;rw [←hn i b hi hb,←hn i b' hi hb'];exact g i hi
  ·intro g i hi;rw [hn i b hi hb,hn i b' hi hb'];exact g i hi
 induction b using Nat.strongRecOn with
 | ind b ih =>
  intro hb
  rcases Nat.lt_trichotomy (cl b) (cl' b) with g | g | g
  ·obtain ⟨b',hb',e⟩:=h'.grow b hb _ g
   have:=ih b' hb' (by omega)
   have:=(hq b' b (by omega) hb).1 (by omega)
   omega
  ·exact g
  ·obtain ⟨b',hb',e⟩:=h.grow b hb _ g
   have:=ih b' hb' (by omega)
   have:=(hq b' b (by omega) hb).2 (by omega)
   omega
theorem Cols.size_eq {S:Nat} {nx nx':Nat→Nat→Nat} {C C':Nat} {cl cl':Nat→Nat} (h:Cols S nx C cl) (h':Cols S nx' C' cl') (hn:∀ i b,i < S→b < 256→nx i b=nx' i b):C=C':=by
 have key:=h.cl_eq h' hn
 rcases Nat.lt_trichotomy C C' with g | g | g
 ·obtain ⟨b,hb,e⟩:=h'.all C g
  have:=h.lt b hb;have:=key b hb;omega
 ·exact g
 ·obtain ⟨b,hb,e⟩:=h.all C' g
  have:=h'.lt b hb;have:=key b hb;omega
def layTab (S C:Nat) (cl:Nat→Nat) (gr:Nat→Bool) (nc:Nat→Nat→Nat):List Nat :=
 [S,C]++(List.range 256).map cl++(List.range S).map (fun i=>if gr i then 1 else 0)++(List.range S).flatMap (fun i=>(List.range C).map (nc i))
structure TabOf (L:List Nat→Prop) (S C:Nat) (nx:Nat→Nat→Nat) (gr:Nat→Bool) (cl:Nat→Nat) (nc:Nat→Nat→Nat):Prop where
 dfa:MinDfa L S nx gr
 cols:Cols S nx C cl
 sle:S≤24
 cle:C≤24
 nc:∀ i b,i < S→b < 256→nc i (cl b)=nx i b
def IsTab (L:List Nat→Prop) (x:List Nat):Prop:=∃ S C nx gr cl nc,TabOf L S C nx gr cl nc∧x=layTab S C cl gr nc
theorem flatMap_congr' {α β:Type} {f g:α→List β}:∀ {l:List α},(∀ a∈l,f a=g a)→l.flatMap f=l.flatMap g
 | [],_=>rfl
 | a ::l,h=>by rw [List.flatMap_cons,List.flatMap_cons,h a (by simp),flatMap_congr' fun x hx=>h x (by simp [hx])]
theorem IsTab.unique {L:List Nat→Prop} {x y:List Nat} (h:IsTab L x) (h':IsTab L y):x=y:=by
 obtain ⟨S,C,nx,gr,cl,nc,t,rfl⟩:=h
 obtain ⟨S',C',nx',gr',cl',nc',t',rfl⟩:=h'
 obtain rfl:=t.dfa.size_eq t'.dfa
 have hn:∀ i b,i < S→b < 256→nx i b=nx' i b:=fun i b hi hb=>t.dfa.nx_eq t'.dfa hi hb
 obtain rfl:=t.cols.size_eq t'.cols hn
 have hc:=t.cols.cl_eq t'.cols hn
 unfold layTab
 have e1:(List.range 256).map cl=(List.range 256).map cl':=List.map_congr_left fun b hb=>hc b (List.mem_range.1 hb)
 have e2:(List.range S).map (fun i=>if gr i then 1 else 0)=(List.range S).map (fun i=>if gr' i then 1 else 0):=List.map_congr_left fun i hi=>by rw [t.dfa.gr_eq t'.dfa (List.mem_range.1 hi)]
 have e3:(List.range S).flatMap (fun i=>(List.range C).map (nc i))=(List.range S).flatMap (fun i=>(List.range C).map (nc' i)) :=
  flatMap_congr' fun i hi=>List.map_congr_left fun c hcc=>by
   obtain ⟨b,hb,rfl⟩:=t.cols.all c (List.mem_range.1 hcc)
   rw [t.nc i b (List.mem_range.1 hi) hb,hc b hb,t'.nc i b (List.mem_range.1 hi) hb,hn i b (List.mem_range.1 hi) hb]
 rw [e1,e2,e3]
def alikeL (L:List Nat→Prop) (u v:List Nat):Prop:=∀ w,bytesOk w→(L (u++w)↔L (v++w))
def ManyStates (L:List Nat→Prop):Prop:=∃ f:Nat→List Nat,(∀ i,i≤24→bytesOk (f i))∧∀ i j,i < j→j≤24→¬alikeL L (f i) (f j)
def ManyClasses (L:List Nat→Prop):Prop:=∃ f:Nat→Nat,(∀ i,i≤24→f i < 256)∧∀ i j,i < j→j≤24→∃ u,bytesOk u∧¬alikeL L (u++[f i]) (u++[f j])
theorem pigeon (n:Nat):∀ (f:Nat→Nat),(∀ i,i≤n→f i < n)→∃ i j,i < j∧j≤n∧f i=f j:=by
 induction n with
 | zero=>intro f h;have:=h 0 (Nat.le_refl _);omega
 | succ n ih =>
  intro f h
  by_cases hx:∃ i,i≤n∧f i=f (n+1)
  ·obtain ⟨i,hi,e⟩:=hx
   exact ⟨i,n+1,by omega,Nat.le_refl _,e⟩
  ·have hn:∀ i,i≤n→f i≠f (n+1):=fun i hi e=>hx ⟨i,hi,e⟩
   have hl:=h (n+1) (Nat.le_refl _)
   obtain ⟨i,j,hij,hj,e⟩:=ih (fun i=>if f i < f (n+1) then f i else f i - 1) fun i hi=>by
    have:=hn i hi;have:=h i (by omega)
    split<;>omega
   refine ⟨i,j,hij,by omega,?_⟩
   have:=hn i (by omega);have:=hn j hj
   split at e<;>split at e<;>omega
theorem MinDfa.alike_iff {L:List Nat→Prop} {S:Nat} {nx:Nat→Nat→Nat} {gr:Nat→Bool} (h:MinDfa L S nx gr) {u v:List Nat} (hu:bytesOk u) (hv:bytesOk v):alikeL L u v↔dRun nx 0 u=dRun nx 0 v:=by
 constructor
 ·intro ha
  refine h.sep _ _ (h.run_lt u 0 h.pos hu) (h.run_lt v 0 h.pos hv) fun w hw=>?_
  rw [←dRun_append,←dRun_append,Bool.eq_iff_iff,h.says _ (bytesOk_append hu hw),h.says _ (bytesOk_append hv hw)]
  exact ha w hw
 ·intro e w hw
  rw [←h.says _ (bytesOk_append hu hw),←h.says _ (bytesOk_append hv hw),dRun_append,dRun_append,e]
theorem MinDfa.notMany {L:List Nat→Prop} {S:Nat} {nx:Nat→Nat→Nat} {gr:Nat→Bool} (h:MinDfa L S nx gr) (hs:S≤24):¬ManyStates L:=by
 rintro ⟨f,f1,f2⟩
 obtain ⟨i,j,hij,hj,e⟩:=pigeon 24 (fun i=>dRun nx 0 (f i)) fun i hi=>Nat.lt_of_lt_of_le (h.run_lt _ 0 h.pos (f1 i hi)) hs
 exact f2 i j hij hj ((h.alike_iff (f1 i (by omega)) (f1 j hj)).2 e)
theorem Cols.notMany {L:List Nat→Prop} {S C:Nat} {nx:Nat→Nat→Nat} {gr:Nat→Bool} {cl:Nat→Nat} (h:MinDfa L S nx gr) (hc:Cols S nx C cl) (hs:C≤24):¬ManyClasses L:=by
 rintro ⟨f,f1,f2⟩
 obtain ⟨i,j,hij,hj,e⟩:=pigeon 24 (fun i=>cl (f i)) fun i hi=>Nat.lt_of_lt_of_le (hc.lt _ (f1 i hi)) hs
 obtain ⟨u,hu,hn⟩:=f2 i j hij hj
 refine hn ((h.alike_iff (bytesOk_snoc hu (f1 i (by omega))) (bytesOk_snoc hu (f1 j hj))).2 ?_)
 rw [dRun_append,dRun_append]
 exact (hc.eq _ _ (f1 i (by omega)) (f1 j hj)).1 e _ (h.run_lt u 0 h.pos hu)
theorem MinDfa.many {L:List Nat→Prop} {S:Nat} {nx:Nat→Nat→Nat} {gr:Nat→Bool} (h:MinDfa L S nx gr) (f:Nat→Nat) (hf:∀ i,i≤24→f i < 256) (hd:∀ i j,i < j→j≤24→∃ k,k < S∧nx k (f i)≠nx k (f j)):ManyClasses L:=by
 refine ⟨f,hf,fun i j hij hj=>?_⟩
 obtain ⟨k,hk,hne⟩:=hd i j hij hj
 obtain ⟨u,hu,e⟩:=h.reached k hk
 refine ⟨u,hu,fun ha=>hne ?_⟩
 have:=(h.alike_iff (bytesOk_snoc hu (hf i (by omega))) (bytesOk_snoc hu (hf j hj))).1 ha
 rw [dRun_append,dRun_append,e] at this
 exact this
def TabAns (L:List Nat→Prop) (x:List Nat) (e:Int):Prop:=(e=0∧IsTab L x)∨(e=3∧x=[]∧(ManyStates L∨ManyClasses L))
theorem TabAns.unique {L:List Nat→Prop} {x x':List Nat} {e e':Int} (h:TabAns L x e) (h':TabAns L x' e'):x=x'∧e=e':=by
 have no:∀ {x},IsTab L x→¬(ManyStates L∨ManyClasses L):=by
  rintro x ⟨S,C,nx,gr,cl,nc,t,-⟩ (m | m)
  ·exact t.dfa.notMany t.sle m
  ·exact Cols.notMany t.dfa t.cols t.cle m
 rcases h with ⟨rfl,h⟩ | ⟨rfl,rfl,h⟩<;>rcases h' with ⟨rfl,h'⟩ | ⟨rfl,rfl,h'⟩
 ·exact ⟨h.unique h',rfl⟩
 ·exact absurd h' (no h)
 ·exact absurd h (no h')
 ·exact ⟨rfl,rfl⟩
end Go.Proofs.YtobfpgoepaeknaaGreat
