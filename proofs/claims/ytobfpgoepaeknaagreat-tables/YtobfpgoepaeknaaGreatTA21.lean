/-
  The automaton: reach, grants.
  The automaton: Build.
  What a call leaves as it was: all blocks but some; rows and blocks that outlive it. The cells of a graph.
  The automaton: Build.
-/
import Derived.Test.YtobfpgoepaeknaaGreatTA20
namespace Go.Proofs.YtobfpgoepaeknaaGreat
open Go.RowKit
attribute [local go_sem ↓] Go.wp_at_zero Go.wp_at_succ
set_option maxHeartbeats 1000000 in
theorem reach_any (w:World) (g:Nat) (p:Part) (x:Nat) (h:AutB w g p) (hp:p.Ok) (hl:p.next.length≤50) (hx:x < top) :
  Calls Tryz.prog 65 #[.pointer (some ⟨g,0,none⟩),.int .i64 (x:Int)] w fun e w'=>e=.returned (.int .i64 ((reachP p x:Nat):Int))∧w'=w:=by
 obtain ⟨nv,h1,h2⟩:=h
 obtain ⟨na,nc,rfl⟩:=h2.form
 have H2:=hide h2
 have hs:=hp.small hl
 have HX:=hide hx
 have HN:=hide hs.2.2.2
 have HR:=hide (fun k=>reachN_lt (next:=p.next) hp.2.2.2 x k)
 have HL:=hide hl
 have hlI:(p.next.length:Int)≤50:=by omega
 have HTOP:Hid (2 ^ p.next.length≤top):=Nat.pow_le_pow_right (n:=2) (by omega) (show p.next.length≤60 by omega)
 have y0:w.cell? ⟨g,0,none⟩=some (.slice na p.next.length nc):=by rw [cell_of_row _ _ _ _ _ _ h1,autA_0]
 have HP:Hid (reachP p x=reachN p.next x p.next.length):=rfl
 clear h1 h2 hs hp hl hx
 go_enter Tryz.func65,Tryz.ntmps65
 go_wp2
 go_loopw [5,6] (fun rx ix wr=>∃ k r:Nat,ix=.int .i64 (k:Int)∧rx=.int .i64 (r:Int)∧k≤p.next.length∧wr=w∧Hid (r=reachN p.next x k)) (fun _ ix _=>p.next.length - (intOf ix).toNat)
 case atStart=>exact ⟨0,0,rfl,rfl,Nat.zero_le _,rfl,rfl⟩
 case round =>
  rename World=>wr
  obtain ⟨k,r,rfl,rfl,hk,rfl,HH⟩:=hrel
  by_cases hlt:k < p.next.length
  ·obtain ⟨g2,cap,he,hc⟩:=(unhide H2).at hlt
   simp only [Value.slice.injEq,true_and] at he
   obtain ⟨rfl,rfl⟩:=he
   have hlt':(k:Int) < (p.next.length:Int):=by omega
   have hcall:=has_any x k wr (by have:=unhide HL;omega) (unhide HX)
   have hn:p.next.getD k 0 < top:=by rw [List.getD_eq_getElem?_getD,List.getElem?_eq_getElem hlt];exact unhide HN _ (List.getElem_mem _)
   have hr:r < top:=by rw [unhide HH];exact Nat.lt_of_lt_of_le (unhide HR k) (unhide HTOP)
   have HE:=hide (i64_or_nat r (p.next.getD k 0) hr hn)
   have HSN:Hid (reachN p.next x (k+1)=if x.testBit k then reachN p.next x k ||| p.next.getD k 0 else reachN p.next x k):=rfl
   clear hn hr
   generalize p.next.getD k 0=y at *
   by_cases ht:x.testBit k=true
   ·rw [ht] at hcall
    have HC:=hide hcall
    have HT:=hide ht
    clear hcall hlt ht
    go_wp2_with (go_at_call 112;refine (unhide HC).mono ?_;rintro e w' ⟨rfl,rfl⟩)
    go_roundw
    case rel =>
     refine ⟨k+1,r ||| y,by go_num,?_,by omega,by trivial,?_⟩
     ·first | rfl | rw [unhide HE]
     ·show _=_
      rw [unhide HSN,if_pos (unhide HT),unhide HH]
    case measure=>simp [intOf];omega
   ·have ht':x.testBit k=false:=by simpa using ht
    rw [ht'] at hcall
    have HC:=hide hcall
    have HT:=hide ht
    clear hcall hlt ht ht'
    go_wp2_with (go_at_call 112;refine (unhide HC).mono ?_;rintro e w' ⟨rfl,rfl⟩)
    go_roundw
    case rel =>
     refine ⟨k+1,r,by go_num,rfl,by omega,by trivial,?_⟩
     show _=_
     rw [unhide HSN,if_neg (unhide HT),unhide HH]
    case measure=>simp [intOf];omega
  ·have hk2:k=p.next.length:=by omega
   subst hk2
   go_wp2
   go_ret
   exact ⟨ret_int (by rw [unhide HP,unhide HH]),rfl⟩
theorem grants_any (w:World) (g:Nat) (p:Part) (x:Nat) (h:AutB w g p) (hp:p.Ok) (hl:p.next.length≤50) (hx:x < top) :
  Calls Tryz.prog 66 #[.pointer (some ⟨g,0,none⟩),.int .i64 (x:Int)] w fun e w'=>e=.returned (.bool (decide (x &&& p.last≠0)))∧w'=w:=by
 obtain ⟨nv,h1,h2⟩:=h
 have y0:w.cell? ⟨g,257,none⟩=some (.int .i64 (p.last:Int)):=by rw [cell_of_row _ _ _ _ _ _ h1,autA_257]
 have e1:=i64_and_nat x p.last hx (hp.small hl).2.2.1
 clear h1 h2 hp hl hx
 go_enter Tryz.func66,Tryz.ntmps66
 go_wp2
 go_ret
 refine ⟨?_,rfl⟩
 generalize x &&& p.last=n
 by_cases h:n=0
 ·subst h;rfl
 ·have h1:((n:Int) != 0)=true:=by simp;omega
  simp [h1,h]
end Go.Proofs.YtobfpgoepaeknaaGreat
namespace Go.Proofs.YtobfpgoepaeknaaGreat
open Go.RowKit
theorem own_set_any {w:World} {B e z:Nat} {v:Value} {n:Nat} {xs:List Value} {b:Nat} {cs:Array Value} {ty:TypeId} {fr:Nat × Nat} (h:w.ownsRow B e z v n xs) (hb:w.heap[b]?=some (.cells cs ty fr)) (hne:e≠ty) (o:Nat) (u:Value):(w.setCell ⟨b,o,none⟩ u).ownsRow B e z v n xs:=by
 refine ⟨h.1,?_⟩
 rcases h.2 with hn | ⟨g,cap,cur,rfl,h1,hg,rest⟩
 ·exact .inl hn
 ·refine .inr ⟨g,cap,cur,rfl,h1,?_,rest⟩
  have:g≠b:=by
   rintro rfl
   rw [hg] at hb
   simp at hb
   exact hne hb.2.1
  rw [Below.heap_setCell _ _ _ _ (by simpa using this)];exact hg
theorem setRow_alloc (w:World) (A B:Array Value) (t:TypeId):(w.alloc (Obj.cells A t)).setRow w.heap.size B=w.alloc (Obj.cells B t):=by
 simp only [World.setRow,World.alloc]
 congr 1
 apply Array.ext_getElem?
 intro i
 rw [Array.getElem?_modify,Array.getElem?_push,Array.getElem?_push]
 by_cases h:i=w.heap.size
 ·subst h;simp
 ·rw [if_neg (fun e=>h e.symm),if_neg h,if_neg h]
theorem autA_build (nv:Value) (c:Int):(zcA.setIfInBounds 0 nv).setIfInBounds 257 (.int .i64 c)=autA nv (fun _=>0) c:=by
 unfold zcA autA
 rw [rowN_set_pre _ _ _ (by simp)]
 exact rowN_set_post [nv] _ _ 0 _
theorem wp_alloc_set (w:World) (d:Option Tmp) (ty:TypeId) (pos:String) (af:Array Edge) (gd:Option (Nat × Bool)) (a:Act) (K:Act→World→Prop) (Q:Exit→Act→World→Prop) :
  Oper.wp Tryz.prog { dst:=d,op:=.alloc 132,type:=ty,pos:=pos,after:=af,guard:=gd } a w K Q=K (a.put d (.pointer (some ⟨w.heap.size,0,none⟩))) (w.alloc (Obj.cells zcS 132)):=by
 unfold Oper.wp execOp
 simp only [Instr.alloc,newVar,Sem.run_bind,Sem.run_pure,Result.andThen_ok,zvS]
 simp [go_sem]
def Is256 (v:Value):Prop:=v=.agg v.cells∧v.cells.size=256∧v.cells.all (·.oneCell')=true
theorem is256_set (f:Nat→Bool):Is256 (.agg (setA f)):=by
 unfold Is256
 rw [cells_agg]
 exact And.intro rfl (And.intro (size_setA f) (setA_one f))
theorem wp_store_set (w:World) (g:Nat) (hg:w.heap[g]?=some (.cells zcS 132 (0,0))) (x y:Operand) (ty:TypeId) (pos:String) (af:Array Edge) (gd:Option (Nat × Bool)) (a:Act) (K:Act→World→Prop) (Q:Exit→Act→World→Prop)
  (hx:a.eval x=.pointer (some ⟨g,0,none⟩)) (hy:Is256 (a.eval y)) :
  Oper.wp Tryz.prog { dst:=none,op:=.store 132 x y,type:=ty,pos:=pos,after:=af,guard:=gd } a w K Q=K (a.put none undef) (w.setRow g (a.eval y).cells):=by
 obtain ⟨hy,hs,h1⟩:=hy
 have hi:(Tryz.prog.info? 132).map (·.size)=some (a.eval y).cells.size:=by rw [hs];kernel_rfl
 have hr:=run_storeVar_row (P:=Tryz.prog) w g _ 132 zcS (a.eval y).cells hg hi (by rw [zcS_size,hs]) h1
 rw [←hy] at hr
 unfold Oper.wp execOp
 simp only [hx,Instr.storeAt,Instr.sureAddr,Sem.run_bind,Sem.run_pure,Result.andThen_ok,hr]
 rfl
theorem wp_store_new (w:World) (x y:Operand) (ty:TypeId) (pos:String) (af:Array Edge) (gd:Option (Nat × Bool)) (a:Act) (K:Act→World→Prop) (Q:Exit→Act→World→Prop)
  (hx:a.eval x=.pointer (some ⟨w.heap.size,0,none⟩)) (hy:Is256 (a.eval y)) :
  Oper.wp Tryz.prog { dst:=none,op:=.store 132 x y,type:=ty,pos:=pos,after:=af,guard:=gd } a (w.alloc (Obj.cells zcS 132)) K Q=K (a.put none undef) (w.alloc (Obj.cells (a.eval y).cells 132)):=by
 rw [wp_store_set _ w.heap.size (heap_alloc_new _ _) x y ty pos af gd a K Q hx hy,setRow_alloc]
def ptrBlock:Value→Nat
 | .pointer (some a)=>a.block
 | _=>0
theorem ptrBlock_at (b o:Nat):ptrBlock (.pointer (some ⟨b,o,none⟩))=b:=rfl
theorem wp_store_old (w:World) (x y:Operand) (ty:TypeId) (pos:String) (af:Array Edge) (gd:Option (Nat × Bool)) (a:Act) (K:Act→World→Prop) (Q:Exit→Act→World→Prop)
  (hx:a.eval x=.pointer (some ⟨ptrBlock (a.eval x),0,none⟩)) (hg:w.heap[ptrBlock (a.eval x)]?=some (.cells zcS 132 (0,0))) (hy:Is256 (a.eval y)) :
  Oper.wp Tryz.prog { dst:=none,op:=.store 132 x y,type:=ty,pos:=pos,after:=af,guard:=gd } a w K Q=K (a.put none undef) (w.setRow (ptrBlock (a.eval x)) (a.eval y).cells) :=
 wp_store_set w _ hg x y ty pos af gd a K Q hx hy
theorem own_setRow {w:World} {B e z:Nat} {v:Value} {n:Nat} {xs:List Value} {b:Nat} (h:w.ownsRow B e z v n xs) (hne:∀ q,v.ownBlock=some q→q≠b) (cs:Array Value):(w.setRow b cs).ownsRow B e z v n xs:=by
 refine ⟨by simpa using h.1,?_⟩
 rcases h.2 with hn | ⟨g,cap,cur,rfl,h1,hg,rest⟩
 ·exact .inl hn
 ·refine .inr ⟨g,cap,cur,rfl,h1,?_,rest⟩
  rw [setRow_other _ _ _ _ (hne g rfl)];exact hg
theorem own_not_at {w:World} {B e z:Nat} {v:Value} {n:Nat} {xs:List Value} {b:Nat} {cs:Array Value} {ty:TypeId} {fr:Nat × Nat} (h:w.ownsRow B e z v n xs) (hq:v.ownBlock=some b) (hb:w.heap[b]?=some (.cells cs ty fr)) (hne:e≠ty):False:=by
 rcases h.2 with ⟨rfl,_⟩ | ⟨g,cap,cur,rfl,h1,hg,rest⟩
 ·cases hq
 ·cases hq
  rw [hg] at hb
  simp at hb
  exact hne hb.2.1
structure Bu (w wr:World) (g3:Nat) (T P:Array Value):Prop where
 below:Below w.heap.size w wr
 b0:wr.heap[w.heap.size]?=some (.cells T 86 (0,0))
 b1:wr.heap[w.heap.size+1]?=some (.cells zcA 90 (0,0))
 b3:wr.heap[g3]?=some (.cells P 127 (0,0))
 h3:w.heap.size+1 < g3
theorem Bu.lt {w wr:World} {g3:Nat} {T P:Array Value} (h:Bu w wr g3 T P):g3 < wr.heap.size:=(Array.getElem?_eq_some_iff.1 h.b3).1
theorem Bu.grown {w wr w1:World} {g3:Nat} {T P:Array Value} {row:Option Nat} (h:Bu w wr g3 T P) (hg:wr.grownBy w1 row) (hr:∀ k,row=some k→g3 < k):Bu w w1 g3 T P:=by
 have hl:=h.lt
 have h3:=h.h3
 refine ⟨h.below.grown hg h.below.size (fun k hk=>by have:=hr k hk;omega),?_,?_,?_,h3⟩
 ·rw [hg.block _ (by omega) (fun e=>by have:=hr _ e.symm;omega)];exact h.b0
 ·rw [hg.block _ (by omega) (fun e=>by have:=hr _ e.symm;omega)];exact h.b1
 ·rw [hg.block _ (by omega) (fun e=>by have:=hr _ e.symm;omega)];exact h.b3
theorem Bu.next {w wr w1:World} {g3:Nat} {T P:Array Value} (h:Bu w wr g3 T P) (hb:Below wr.heap.size wr w1):Bu w w1 g3 T P :=
 h.grown (grownBy_of_below hb none) (fun _ h=>by cases h)
theorem Bu.drew {w wr:World} {g3:Nat} {T P:Array Value} (h:Bu w wr g3 T P):Bu w wr.drew g3 T P:=⟨h.below.drew,h.b0,h.b1,h.b3,h.h3⟩
theorem Bu.put {w wr:World} {g3:Nat} {T:Array Value} {c0 c1 c2 c3 c4:Value} (h:Bu w wr g3 T #[c0,c1,c2,c3,c4]) (u0 u1 u2 u3 u4:Value):Bu w (set5 wr g3 u0 u1 u2 u3 u4) g3 T #[u0,u1,u2,u3,u4] :=
 ⟨set5_below h.below (by have:=h.h3;omega),(set5_other (by have:=h.h3;omega)).trans h.b0,(set5_other (by have:=h.h3;omega)).trans h.b1,set5_same h.b3,h.h3⟩
theorem Bu.set {w wr:World} {g3:Nat} {T P:Array Value} (h:Bu w wr g3 T P) {c:Nat} (hc:g3 < c) (o:Nat) (v:Value):Bu w (wr.setCell ⟨c,o,none⟩ v) g3 T P:=by
 have h3:=h.h3
 refine ⟨h.below.setCell (by simp;omega) _,?_,?_,?_,h3⟩
 ·rw [Below.heap_setCell _ _ _ _ (by simp;omega)];exact h.b0
 ·rw [Below.heap_setCell _ _ _ _ (by simp;omega)];exact h.b1
 ·rw [Below.heap_setCell _ _ _ _ (by simp;omega)];exact h.b3
theorem Bu.start {w w1:World} {T P:Array Value} (h0:Below (w.heap.size+2) ((w.alloc (.cells T 86)).alloc (.cells zcA 90)) w1):Bu w (w1.alloc (.cells P 127)) w1.heap.size T P:=by
 have s0:((w.alloc (.cells T 86)).alloc (.cells zcA 90)).heap.size=w.heap.size+2:=by simp
 have s1:=h0.size
 have hb:Below w.heap.size w w1:=(((Below.refl _ _).alloc (Nat.le_refl _) _).alloc (by simp) _).trans (h0.mono (by omega))
 refine ⟨hb.alloc hb.size _,?_,?_,heap_alloc_new _ _,by omega⟩
 ·rw [Below.heap_alloc _ _ _ (by omega),h0.block _ (by omega)];exact heap_alloc2_old _ _ _
 ·rw [Below.heap_alloc _ _ _ (by omega),h0.block _ (by omega)];exact heap_alloc2_new _ _ _
structure BuL (w w4:World) (g3 g4:Nat) (T P:Array Value) (nv zv:Value) (last:Int) (xs:List Nat) (zs:List Int) (F:Nat→Nat):Prop where
 bu:Bu w w4 g3 T P
 b4:w4.heap[g4]?=some (.cells (autA nv F last) 90 (0,0))
 h4:g3 < g4
 nr:NRow w4 0 nv xs
 zr:ZRow w4 0 zv zs
section bul
variable {w w4 w5 : World} {g3 g4 : Nat} {T P : Array Value} {nv zv : Value} {last : Int} {xs : List Nat} {zs : List Int} {F : Nat → Nat}
theorem BuL.lt (h:BuL w w4 g3 g4 T P nv zv last xs zs F):g4 < w4.heap.size:=(Array.getElem?_eq_some_iff.1 h.b4).1
theorem BuL.next (h:BuL w w4 g3 g4 T P nv zv last xs zs F) (hb:Below w4.heap.size w4 w5):BuL w w5 g3 g4 T P nv zv last xs zs F :=
 ⟨h.bu.next hb,(hb.block _ h.lt).trans h.b4,h.h4,h.nr.below hb,h.zr.below hb⟩
theorem BuL.drew (h:BuL w w4 g3 g4 T P nv zv last xs zs F):BuL w w4.drew g3 g4 T P nv zv last xs zs F :=
 ⟨h.bu.drew,h.b4,h.h4,h.nr,h.zr⟩
theorem BuL.step (h:BuL w w4 g3 g4 T P nv zv last xs zs F) {b:Nat} (hb:b < 256) (x:Nat):BuL w (w4.setCell ⟨g4,1+b,none⟩ (.int .i64 (x:Int))) g3 g4 T P nv zv last xs zs (fun c=>if c=b then x else F c) :=
 ⟨h.bu.set h.h4 _ _,by rw [heap_setCell_same _ _ _ _ _ _ h.b4,autA_set _ _ _ hb],h.h4,own_set_any h.nr h.b4 (by decide) _ _,own_set_any h.zr h.b4 (by decide) _ _⟩
theorem BuL.row (h:BuL w w4 g3 g4 T P nv zv last xs zs F) {g6:Nat} (h6:g4 < g6) (cs:Array Value) (hx:∀ q,nv.ownBlock=some q→q≠g6) (hz:∀ q,zv.ownBlock=some q→q≠g6):BuL w (w4.setRow g6 cs) g3 g4 T P nv zv last xs zs F:=by
 have h3:=h.h4
 have h2:=h.bu.h3
 refine ⟨⟨below_setRow h.bu.below (by omega) cs,?_,?_,?_,h2⟩,?_,h.h4,?_,?_⟩
 ·rw [setRow_other _ _ _ _ (by omega)];exact h.bu.b0
 ·rw [setRow_other _ _ _ _ (by omega)];exact h.bu.b1
 ·rw [setRow_other _ _ _ _ (by omega)];exact h.bu.b3
 ·rw [setRow_other _ _ _ _ (by omega)];exact h.b4
 ·exact own_setRow h.nr hx cs
 ·exact own_setRow h.zr hz cs
theorem BuL.congr (h:BuL w w4 g3 g4 T P nv zv last xs zs F) {G:Nat→Nat} (hg:∀ b,b < 256→F b=G b):BuL w w4 g3 g4 T P nv zv last xs zs G :=
 ⟨h.bu,by rw [h.b4,autA,autA,rowN_congr hg],h.h4,h.nr,h.zr⟩
theorem BuL.fit (h:BuL w w4 g3 g4 T P nv zv last xs zs F) {b:Nat} (hb:b < 256):w4.cell? ⟨g4,1+b,none⟩=some (.int .i64 ((F b:Nat):Int)):=by rw [cell_of_row _ _ _ _ _ _ h.b4,autA_b _ _ _ hb]
end bul
def fitTo (sets:List (Nat→Bool)) (k b:Nat):Nat→Nat:=fun c=>if c < b then fitN sets c (k+1) else fitN sets c k
theorem fitTo_zero (sets:List (Nat→Bool)) (k c:Nat):fitN sets c k=fitTo sets k 0 c:=by unfold fitTo;rw [if_neg (by omega)]
theorem fitTo_all (sets:List (Nat→Bool)) (k c:Nat) (h:c < 256):fitTo sets k 256 c=fitN sets c (k+1):=by unfold fitTo;rw [if_pos h]
theorem fitTo_yes {sets:List (Nat→Bool)} {k b:Nat} (h:setAtN sets k b=true) (c:Nat):(if c=b then fitTo sets k b b ||| 2 ^ k else fitTo sets k b c)=fitTo sets k (b+1) c:=by
 unfold fitTo
 by_cases hc:c=b
 ·subst hc;rw [if_pos rfl,if_neg (by omega),if_pos (by omega),fitN,if_pos h]
 ·rw [if_neg hc]
  by_cases h2:c < b
  ·rw [if_pos h2,if_pos (by omega)]
  ·rw [if_neg h2,if_neg (by omega)]
theorem fitTo_no {sets:List (Nat→Bool)} {k b:Nat} (h:setAtN sets k b=false) (c:Nat):fitTo sets k b c=fitTo sets k (b+1) c:=by
 unfold fitTo
 by_cases hc:c=b
 ·subst hc;rw [if_neg (by omega),if_pos (by omega),fitN,if_neg (by rw [h];decide)]
 ·by_cases h2:c < b
  ·rw [if_pos h2,if_pos (by omega)]
  ·rw [if_neg h2,if_neg (by omega)]
theorem fitTo_lt (sets:List (Nat→Bool)) (k b c:Nat) (h:k < 59):fitTo sets k b c < top:=by
 unfold fitTo
 split
 ·exact Nat.lt_trans (fitN_lt _ _ _) (pow_top (by omega))
 ·exact Nat.lt_trans (fitN_lt _ _ _) (pow_top (by omega))
theorem setAtN_zs {fs:List (Nat→Bool)} {zs:List Int} {k:Nat} (hk:k < zs.length) (b:Nat):setAtN (zs.map (setOf fs)) k b=setOf fs (zs.getD k 0) b:=by
 unfold setAtN
 rw [List.getD_eq_getElem?_getD,List.getElem?_map,List.getD_eq_getElem?_getD,List.getElem?_eq_getElem hk];rfl
theorem tree_cells {w:World} {b:Nat} {v0 v1:Value} {e:TypeId} (h:w.heap[b]?=some (.cells #[v0,v1] e (0,0))):w.cell? ⟨b,0,none⟩=some v0∧w.cell? ⟨b,1,none⟩=some v1 :=
 ⟨by rw [cell_of_row _ _ _ _ _ _ h];rfl,by rw [cell_of_row _ _ _ _ _ _ h];rfl⟩
end Go.Proofs.YtobfpgoepaeknaaGreat
namespace Go.Proofs.YtobfpgoepaeknaaGreat
open Go.RowKit
structure Fr (S:List Nat) (w w':World):Prop where
 os:w'.os=w.os
 tape:w'.tape=w.tape
 output:w'.output=w.output
 size:w.heap.size≤w'.heap.size
 block:∀ k,k < w.heap.size→k∉S→w'.heap[k]?=w.heap[k]?
theorem Fr.refl (S:List Nat) (w:World):Fr S w w:=⟨rfl,rfl,rfl,Nat.le_refl _,fun _ _ _=>rfl⟩
theorem Fr.and {S S':List Nat} {a b c:World} (h:Fr S a b) (k:Fr S' b c) (hs:∀ x∈S',x∈S∨a.heap.size≤x):Fr S a c :=
 ⟨k.os.trans h.os,k.tape.trans h.tape,k.output.trans h.output,Nat.le_trans h.size k.size,fun i hi hn=>(k.block i (Nat.lt_of_lt_of_le hi h.size) (fun hm=>(hs i hm).elim hn (by omega))).trans (h.block i hi hn)⟩
theorem Fr.mono {S S':List Nat} {w w':World} (h:Fr S w w') (hs:∀ x∈S,x∈S'):Fr S' w w':=⟨h.os,h.tape,h.output,h.size,fun k hk hn=>h.block k hk (fun hm=>hn (hs k hm))⟩
theorem Fr.drew {S:List Nat} {w w':World} (h:Fr S w w'):Fr S w w'.drew:=⟨h.os,h.tape,h.output,h.size,h.block⟩
theorem Fr.ofBelow {w w':World} (h:Below w.heap.size w w'):Fr [] w w':=⟨h.os,h.tape,h.output,h.size,fun k hk _=>h.block k hk⟩
theorem Fr.ofGrown {w w':World} {row:Option Nat} (h:w.grownBy w' row):Fr row.toList w w':=⟨h.os,h.tape,h.output,h.size,fun k hk hn=>h.block k hk (fun e=>hn (by rw [←e];simp))⟩
theorem Fr.ofAlloc (w:World) (o:Obj):Fr [] w (w.alloc o):=Fr.ofBelow ((Below.refl _ _).alloc (Nat.le_refl _) _)
theorem Fr.ofSet (w:World) (b o:Nat) (u:Value):Fr [b] w (w.setCell ⟨b,o,none⟩ u):=⟨rfl,rfl,rfl,by simp [World.setCell],fun k _ hn=>Below.heap_setCell _ _ _ _ (by simpa using hn)⟩
theorem Fr.alloc {S:List Nat} {w w1:World} (h:Fr S w w1) (o:Obj):Fr S w (w1.alloc o):=h.and (Fr.ofAlloc w1 o) (fun x hx=>by cases hx)
theorem Fr.set {S:List Nat} {w w1:World} (h:Fr S w w1) {b:Nat} (hb:b∈S∨w.heap.size≤b) (o:Nat) (u:Value):Fr S w (w1.setCell ⟨b,o,none⟩ u):=h.and (Fr.ofSet w1 b o u) (fun x hx=>by simp at hx;subst hx;exact hb)
theorem Fr.grown {S:List Nat} {w w1 w2:World} {row:Option Nat} (h:Fr S w w1) (hg:w1.grownBy w2 row) (hr:∀ k,row=some k→k∈S∨w.heap.size≤k):Fr S w w2:=h.and (Fr.ofGrown hg) (fun x hx=>hr x (by simpa using hx))
theorem Fr.at {S:List Nat} {w w':World} (h:Fr S w w') {b:Nat} {o:Obj} (hb:w.heap[b]?=some o) (hn:b∉S):w'.heap[b]?=some o:=by
 rw [h.block b (Array.getElem?_eq_some_iff.1 hb).1 hn];exact hb
theorem Fr.own {S:List Nat} {w w':World} (h:Fr S w w') {B e z:Nat} {v:Value} {n:Nat} {xs:List Value} (ho:w.ownsRow B e z v n xs) (hn:∀ q,v.ownBlock=some q→q∉S):w'.ownsRow B e z v n xs:=by
 refine ⟨ho.1,?_⟩
 rcases ho.2 with hl | ⟨g,cap,cur,rfl,h1,hg,rest⟩
 ·exact .inl hl
 ·exact .inr ⟨g,cap,cur,rfl,h1,h.at hg (hn g rfl),rest⟩
theorem own_off {w:World} {B e z:Nat} {v:Value} {n:Nat} {xs:List Value} (h:w.ownsRow B e z v n xs) {b:Nat} {cs:Array Value} {ty:TypeId} {fr:Nat × Nat} (hb:w.heap[b]?=some (.cells cs ty fr)) (hne:e≠ty):∀ q,v.ownBlock=some q→q≠b:=fun q hq e=>by
 subst e;exact own_not_at h hq hb hne
def graphA (lv:Value) (F:Nat→Nat) (gv nv:Value):Array Value:=rowN [lv] F [gv,nv]
def zcG:Array Value:=graphA (.slice none 0 0) (fun _=>0) (.slice none 0 0) (.slice none 0 0)
theorem graphA_size (lv gv nv:Value) (F:Nat→Nat):(graphA lv F gv nv).size=259:=rowN_size _ _ _
theorem zcG_size:zcG.size=259:=graphA_size _ _ _ _
theorem zcG_ne:zcG≠#[]:=rowN_ne _ _ _
theorem zvG (w:World):(zeroValue 93).run Tryz.prog w=.ok (.agg zcG) w:=by kernel_rfl
theorem graphA_0 (lv gv nv:Value) (F:Nat→Nat):(graphA lv F gv nv)[0]?=some lv:=rowN_pre _ _ _ (by simp)
theorem graphA_b (lv gv nv:Value) (F:Nat→Nat) {b:Nat} (h:b < 256):(graphA lv F gv nv)[1+b]?=some (.int .i64 ((F b:Nat):Int)):=rowN_mid [lv] _ _ h
theorem graphA_257 (lv gv nv:Value) (F:Nat→Nat):(graphA lv F gv nv)[257]?=some gv:=rowN_post [lv] _ _ 0
theorem graphA_258 (lv gv nv:Value) (F:Nat→Nat):(graphA lv F gv nv)[258]?=some nv:=rowN_post [lv] _ _ 1
theorem graphA_set (lv gv nv:Value) (F:Nat→Nat) {b:Nat} (h:b < 256) (x:Nat):(graphA lv F gv nv).setIfInBounds (1+b) (.int .i64 ((x:Nat):Int))=graphA lv (fun c=>if c=b then x else F c) gv nv:=rowN_set [lv] _ _ h x
theorem graphA_set0 (lv gv nv:Value) (F:Nat→Nat) (v:Value):(graphA lv F gv nv).setIfInBounds 0 v=graphA v F gv nv:=rowN_set_pre [lv] _ _ (by simp) v
theorem graphA_set257 (lv gv nv:Value) (F:Nat→Nat) (v:Value):(graphA lv F gv nv).setIfInBounds 257 v=graphA lv F v nv:=rowN_set_post [lv] _ _ 0 v
theorem graphA_set258 (lv gv nv:Value) (F:Nat→Nat) (v:Value):(graphA lv F gv nv).setIfInBounds 258 v=graphA lv F gv v:=rowN_set_post [lv] _ _ 1 v
theorem graphA_one (a b c:Option Addr) (n1 n2 n3 c1 c2 c3:Nat) (F:Nat→Nat):(graphA (.slice a n1 c1) F (.slice b n2 c2) (.slice c n3 c3)).all (·.oneCell')=true:=rowN_one F rfl rfl
end Go.Proofs.YtobfpgoepaeknaaGreat
namespace Go.Proofs.YtobfpgoepaeknaaGreat
open Go.RowKit
attribute [local go_sem ↓] Go.wp_at_zero Go.wp_at_succ zvA zvS wp_alloc_set wp_store_new wp_store_old
attribute [local go_sem] cells_agg size_setA zcA_size zcA_ne zcS_size zcS_ne is256_set ptrBlock_at
set_option maxRecDepth 2000 in
set_option maxHeartbeats 1000000 in
theorem Build_any (w:World) (g cap sc:Nat) (sa:Option Addr) (ns:List Nd) (fs:List (Nat→Bool)) (R:Re) (hn:NdRow w (.slice (some ⟨g,0,none⟩) ns.length cap) ns) (hf:FsRow w 0 (.slice sa fs.length sc) fs)
  (hl:ns.length≤1000) (hfl:fs.length≤1000) (hd:Dn ns fs R ((ns.length:Int) - 1)) (hwt:R.wt≤40) :
  Calls Tryz.prog 36 #[.agg #[.slice (some ⟨g,0,none⟩) ns.length cap,.slice sa fs.length sc]] w fun e w'=>∃ v,e=.returned v∧AutV w' v (autN (partN R))∧Below w.heap.size w w':=by
 have HF:=hide hf
 have hlI:(ns.length:Int)≤1000:=by omega
 have hb2:Below w.heap.size w ((w.alloc (.cells #[.slice (some ⟨g,0,none⟩) ns.length cap,.slice sa fs.length sc] 86)).alloc (.cells zcA 90)):=((Below.refl _ _).alloc (Nat.le_refl _) _).alloc (by simp) _
 have HP:=hide (partOf_any (g:=g) (cap:=cap) (sn:=fs.length) (sc:=sc) (sa:=sa) hl R _ hd (by omega) _ (hn.below hb2))
 have hok:=partN_ok R
 have hlen:=partN_len R
 have HOK:=hide hok
 have HLEN:Hid ((oneN fun _=>false).next.length+(partN R).next.length≤50):=by show _≤_;simp [oneN];omega
 have HFL:=hide hfl
 clear hn hf hl hd hwt hb2 hok hlen hfl
 go_enter Tryz.func36,Tryz.ntmps36
 go_wp2_with fail
 refine (unhide HP).mono ?_
 rintro e w1 ⟨v1,rfl,hv1,hw1⟩
 have hV1:=hv1.below ((Below.refl w1.heap.size w1).alloc (Nat.le_refl _) (Obj.cells v1.cells 127))
 obtain ⟨nv1,sv1,zs1,rfl,v2,v3,v4⟩:=id hv1
 obtain ⟨na1,nc1,rfl⟩:=v2.form
 obtain ⟨sa1,sc1,rfl⟩:=v3.form
 have hB1:=Bu.start (w:=w) (T:=#[.slice (some ⟨g,0,none⟩) ns.length cap,.slice sa fs.length sc]) (P:=#[.bool (partN R).empty,.int .i64 ((partN R).first:Int),.int .i64 ((partN R).last:Int),.slice na1 (partN R).next.length nc1,.slice sa1 zs1.length sc1]) (w1:=w1) (by simpa using hw1)
 have HB1:=hide hB1
 have HV1:Hid (PartAt (w1.alloc (Obj.cells #[.bool (partN R).empty,.int .i64 ((partN R).first:Int),.int .i64 ((partN R).last:Int),.slice na1 (partN R).next.length nc1,.slice sa1 zs1.length sc1] 127)) (.agg #[.bool (partN R).empty,.int .i64 ((partN R).first:Int),.int .i64 ((partN R).last:Int),.slice na1 (partN R).next.length nc1,.slice sa1 zs1.length sc1]) fs (partN R)):=hV1
 obtain ⟨t0,t1⟩:=tree_cells hB1.b0
 obtain ⟨y0,y1,y2,y3,y4⟩:=part_cells hB1.b3
 obtain ⟨z0,z1,z2,z3,z4⟩:=part_free hB1.b3
 clear v2 v3 v4 hv1 hw1 hV1 hB1 HP
 go_upto_region 2 with fail
 go_cut [] (fun wx=>∃ (c0:Bool) (c1 c2:Nat) (n1 n2:Option Addr) (m1 m2 p1 p2:Nat),Hid (Bu w wx w1.heap.size #[.slice (some ⟨g,0,none⟩) ns.length cap,.slice sa fs.length sc] #[.bool c0,.int .i64 (c1:Int),.int .i64 (c2:Int),.slice n1 m1 p1,.slice n2 m2 p2]∧PartAt wx (.agg #[.bool c0,.int .i64 (c1:Int),.int .i64 (c2:Int),.slice n1 m1 p1,.slice n2 m2 p2]) fs (autN (partN R))))
 case first =>
  generalize w1.alloc (Obj.cells #[.bool (partN R).empty,.int .i64 ((partN R).first:Int),.int .i64 ((partN R).last:Int),.slice na1 (partN R).next.length nc1,.slice sa1 zs1.length sc1] 127)=wa at *
  generalize w1.heap.size=g3 at *
  go_region_with ((first
   | (go_at_call 62;refine (onePart_any _ (-1) fs (fun _=>false) (setOf_neg (by decide))).mono ?_;rintro e w2 ⟨v,rfl,hv,hw2⟩;have hb2:=(unhide HB1).drew.next hw2;obtain ⟨y0',y1',y2',y3',y4'⟩:=part_cells hb2.b3;have HD:=hide (behind_any w2 _ _ fs _ _ hv ((unhide HV1).drew.below hw2) (oneN_ok _) (unhide HOK) (unhide HLEN));have HB2:=hide hb2;obtain ⟨nv,sv,zs,rfl,v2,v3,v4⟩:=id hv;obtain ⟨va1,vc1,rfl⟩:=v2.form;obtain ⟨va2,vc2,rfl⟩:=v3.form;clear hv hb2 hw2 v2 v3 v4)
   | (go_at_call 61;refine (unhide HD).mono ?_;rintro e w3 ⟨v',rfl,hv,hw3⟩;have hb3:=(unhide HB2).next hw3;obtain ⟨y0'',y1'',y2'',y3'',y4''⟩:=part_cells hb3.b3;obtain ⟨z0'',z1'',z2'',z3'',z4''⟩:=part_free hb3.b3;obtain ⟨nv',sv',zs',rfl,v2',v3',v4'⟩:=id hv;obtain ⟨va3,vc3,rfl⟩:=v2'.form;obtain ⟨va4,vc4,rfl⟩:=v3'.form;have HB3:=hide hb3;have HV:=hide hv;clear hv hb3 hw3 v2' v3' v4')))
  all_goals
   go_wp2_with fail
   go_meet
   exact ⟨_,_,_,_,_,_,_,_,_,(unhide HB3).put _ _ _ _ _,set5_part (unhide HV) ⟨_,_,(unhide HB3).b3⟩⟩
 case rest =>
  rename World=>wx
  obtain ⟨c0,c1,c2,n1,n2,m1,m2,p1,p2,HC⟩:=hcut
  clear y0 y1 y2 y3 y4 z0 z1 z2 z3 z4 t0 t1 HB1 HV1
  generalize w1.heap.size=g3 at *
  obtain ⟨nvv,svv,zs,he,h2,h3,h4⟩:=(unhide HC).2
  simp only [Value.agg.injEq,Array.mk.injEq,List.cons.injEq,Value.bool.injEq,Value.int.injEq,true_and,and_true] at he
  obtain ⟨-,-,hc2,rfl,rfl⟩:=he
  have hm1:m1=(autN (partN R)).next.length:=by
   obtain ⟨a',c',e'⟩:=h2.form
   simp only [Value.slice.injEq] at e';exact e'.2.1
  have hm2:m2=zs.length:=by
   obtain ⟨a',c',e'⟩:=h3.form
   simp only [Value.slice.injEq] at e';exact e'.2.1
  have hb4:Below wx.heap.size wx (wx.alloc (Obj.cells (autA (.slice n1 m1 p1) (fun _=>0) (c2:Int)) 90)):=(Below.refl _ _).alloc (Nat.le_refl _) _
  have HL:Hid (BuL w (wx.alloc (Obj.cells (autA (.slice n1 m1 p1) (fun _=>0) (c2:Int)) 90)) g3 wx.heap.size #[.slice (some ⟨g,0,none⟩) ns.length cap,.slice sa fs.length sc] #[.bool c0,.int .i64 (c1:Int),.int .i64 (c2:Int),.slice n1 m1 p1,.slice n2 m2 p2] (.slice n1 m1 p1) (.slice n2 m2 p2) (c2:Int) (autN (partN R)).next zs (fun _=>0)) :=
   ⟨(unhide HC).1.next hb4,heap_alloc_new _ _,(unhide HC).1.lt,h2.below hb4,h3.below hb4⟩
  have HZS:=hide h4
  have HC2:=hide hc2
  have hzl:zs.length≤50:=by
   have e1:=congrArg List.length h4
   rw [List.length_map,(autN_ok (unhide HOK)).1] at e1
   have e2:(autN (partN R)).next.length=(oneN fun _=>false).next.length+(partN R).next.length:=behindN_len _ _
   have:=unhide HLEN
   omega
  have HZL:=hide hzl
  have hm2I:(m2:Int)≤50:=by omega
  have HM2:=hide hm2
  obtain ⟨q0,q1,q2,q3,q4⟩:=part_cells (unhide HC).1.b3
  have hg3:=(unhide HC).1.lt
  have HH3:=hide (unhide HC).1.h3
  clear h2 h3 h4 hb4 hc2 hzl hm1 HC HM2
  subst hm2
  go_wp2_with (refine wpList_store_row0 rfl 90 _ _ rfl rfl wx.heap.size _ rfl rfl 90 _ (heap_alloc_new _ _) (by rw [autA_build,autA_size];kernel_rfl) (by rw [autA_build,autA_size,zcA_size]) (by rw [autA_build];exact autA_one _ _ _ _ _) ?_;rw [autA_build,setRow_alloc])
  clear q0 q1 q2 q3 q4
  generalize wx.heap.size=g4 at *
  go_loopw [5] (fun ix w4=>∃ (k:Nat),ix=.int .i64 (k:Int)∧k≤zs.length∧Hid (BuL w w4 g3 g4 #[.slice (some ⟨g,0,none⟩) ns.length cap,.slice sa fs.length sc] #[.bool c0,.int .i64 (c1:Int),.int .i64 (c2:Int),.slice n1 m1 p1,.slice n2 zs.length p2] (.slice n1 m1 p1) (.slice n2 zs.length p2) (c2:Int) (autN (partN R)).next zs (fun b=>fitN (zs.map (setOf fs)) b k))) (fun ix _=>zs.length - (intOf ix).toNat)
  case atStart=>exact ⟨0,rfl,Nat.zero_le _,by exact unhide HL⟩
  case round =>
   rename World=>w4
   obtain ⟨k,rfl,hk,HH⟩:=hrel
   obtain ⟨x0,x1,x2,x3,x4⟩:=part_cells (unhide HH).bu.b3
   obtain ⟨t0,t1⟩:=tree_cells (unhide HH).bu.b0
   by_cases hlt:k < zs.length
   ·obtain ⟨gz,cz,he,hc⟩:=(unhide HH).zr.at hlt
    simp only [Value.slice.injEq,true_and] at he
    obtain ⟨rfl,rfl⟩:=he
    have hlt':(k:Int) < (zs.length:Int):=by omega
    have HKZ:=hide hlt
    have hgz:gz < w4.heap.size:=((unhide HH).zr.lt gz rfl).2
    have hg3':g3 < w4.heap.size:=(unhide HH).bu.lt
    have hg0:w.heap.size < w4.heap.size:=by have:=unhide HH3;omega
    have HFW:=hide ((unhide HF).below (unhide HH).bu.below)
    clear hlt x0 x1 x2 x3
    generalize hx:zs.getD k 0=x at *
    have HX:=hide hx
    clear hx
    go_upto_region 7 with fail
    go_cut [6] from 22 to 51 (fun sx wx=>∃ g6,sx=.pointer (some ⟨g6,0,none⟩)∧Hid (BuL w wx g3 g4 #[.slice (some ⟨g,0,none⟩) ns.length cap,.slice sa fs.length sc] #[.bool c0,.int .i64 (c1:Int),.int .i64 (c2:Int),.slice n1 m1 p1,.slice (some ⟨gz,0,none⟩) zs.length p2] (.slice n1 m1 p1) (.slice (some ⟨gz,0,none⟩) zs.length p2) (c2:Int) (autN (partN R)).next zs (fun b=>fitN (zs.map (setOf fs)) b k)∧wx.heap[g6]?=some (.cells (setA (setOf fs x)) 132 (0,0))∧g4 < g6))
    case first =>
     go_region_with (go_at_call 63;refine (setAt_any _ _ _ _ _ fs x 0 (by first | exact unhide HFW | exact FsRow.below (w:=w4.drew) (unhide HFW) ((Below.refl _ _).alloc (Nat.le_refl _) _) | exact FsRow.below (w:=w4) (unhide HFW) ((Below.refl _ _).alloc (Nat.le_refl _) _).drew) (unhide HFL)).mono ?_;rintro e w5 ⟨rfl,hw5⟩;try have hz5:w5.heap[w4.heap.size]?=some (.cells zcS 132 (0,0)):=((hw5.block w4.heap.size (by simp)).trans (heap_alloc_new w4 _)))
     all_goals
      go_wp2_with fail
      go_meet
      first
       | exact ⟨_,rfl,(unhide HH).drew.next (hw5.trans ((Below.refl _ _).alloc (Nat.le_refl _) _ |>.mono hw5.size)),heap_alloc_new _ _,Nat.lt_of_lt_of_le (unhide HH).lt hw5.size⟩
       | exact ⟨_,rfl,BuL.row ((unhide HH).next (((Below.refl _ _).alloc (Nat.le_refl _) _).drew.trans (hw5.mono (by simp)))) (unhide HH).lt _ (fun q hq=>Nat.ne_of_lt ((unhide HH).nr.lt q hq).2) (fun q hq=>Nat.ne_of_lt ((unhide HH).zr.lt q hq).2),setRow_heap _ _ _ _ _ _ hz5,(unhide HH).lt⟩
    case rest =>
     rename World=>w5
     obtain ⟨g6,rfl,HC⟩:=hcut
     clear hc hgz hg3' hg0 x4 t0 t1 HFW HH
     have HKI:Hid (k < 59):=by have:=unhide HKZ;have:=unhide HZL;show _ < _;omega
     have HSA:Hid (∀ b,setAtN (zs.map (setOf fs)) k b=setOf fs x b):=fun b=>by rw [←unhide HX];exact setAtN_zs (unhide HKZ) b
     have HMV:Hid (∀ w,Calls Tryz.prog 64 #[.int .i64 1,.int .i64 (k:Int)] w fun e w'=>e=.returned (.int .i64 ((2 ^ k:Nat):Int))∧w'=w):=fun w=>by
      have:=move_any 1 k w (by have:=unhide HKI;omega) (by rw [Nat.one_mul];exact pow_top (by have:=unhide HKI;omega))
      rwa [Nat.one_mul] at this
     go_wp2_with fail
     go_loopw [7] (fun bx w6=>∃ b:Nat,bx=.int .i64 (b:Int)∧Hid (b≤256)∧Hid (BuL w w6 g3 g4 #[.slice (some ⟨g,0,none⟩) ns.length cap,.slice sa fs.length sc] #[.bool c0,.int .i64 (c1:Int),.int .i64 (c2:Int),.slice n1 m1 p1,.slice (some ⟨gz,0,none⟩) zs.length p2] (.slice n1 m1 p1) (.slice (some ⟨gz,0,none⟩) zs.length p2) (c2:Int) (autN (partN R)).next zs (fitTo (zs.map (setOf fs)) k b)∧w6.heap[g6]?=some (.cells (setA (setOf fs x)) 132 (0,0))∧g4 < g6)) (fun bx _=>left256 bx)
     case atStart=>exact ⟨0,rfl,Nat.zero_le _,(unhide HC).1.congr (fun b _=>fitTo_zero _ _ b),(unhide HC).2⟩
     case round =>
      rename World=>w6
      obtain ⟨b,rfl,HB,HH⟩:=hrel
      by_cases hbl:b < 256
      ·have hbI:(b:Int) < 256:=by omega
       have HBL:=hide hbl
       have hcs:w6.cell? ⟨g6,b,none⟩=some (.bool (setOf fs x b)):=by rw [cell_of_row _ _ _ _ _ _ (unhide HH).2.1,get_setA _ _ hbl]
       have hcf:=(unhide HH).1.fit hbl
       have hfz:=frozen_of_row w6 g4 (1+b) _ _ (unhide HH).1.b4
       have e1:=(i64_or_nat _ (2 ^ k) (fitTo_lt (zs.map (setOf fs)) k b b (unhide HKI)) (pow_top (show k < 60 by have:=unhide HKI;omega)))
       generalize hf:fitTo (zs.map (setOf fs)) k b b=y at *
       have HFB:=hide hf
       have HSB:=hide (unhide HSA b)
       clear hbl hf
       generalize hq:2 ^ k=q at *
       have HQ:=hide hq.symm
       clear hq
       generalize setOf fs x b=z at *
       cases z
       ·go_wp2
        go_roundw
        case rel=>exact ⟨b+1,by go_num,(unhide HBL),(unhide HH).1.congr (fun c _=>fitTo_no (unhide HSB) c),(unhide HH).2⟩
        case measure=>have:=unhide HBL;simp [left256,intOf];omega
       ·go_wp2
        go_region_with (go_at_call 64;refine (unhide HMV _).mono ?_;rintro e w' ⟨rfl,rfl⟩)
        all_goals
         go_wp2
         go_roundw
         case rel =>
          refine ⟨b+1,by go_num,(unhide HBL),(((unhide HH).1.step (unhide HBL) (y ||| q)).drew.congr (fun c _=>?_)),?_,(unhide HH).2.2⟩
          ·rw [←unhide HFB,unhide HQ];exact fitTo_yes (unhide HSB) c
          ·show (w6.setCell _ _).heap[g6]?=_;rw [Below.heap_setCell _ _ _ _ (by have:=(unhide HH).2.2;simp;omega)];exact (unhide HH).2.1
         case measure=>have:=unhide HBL;simp [left256,intOf];omega
      ·have hb2:b=256:=by have:=unhide HB;omega
       subst hb2
       have HZ:=hide ((unhide HH).1.congr (fun c hc=>fitTo_all _ _ c hc))
       go_wp2
       go_roundw
       case rel=>exact ⟨k+1,by go_num,unhide HKZ,unhide HZ⟩
       case measure=>have:=unhide HKZ;simp [intOf];omega
   ·have hk2:k=zs.length:=by omega
    subst hk2
    have hZ:=unhide HH
    have hsl:(zs.map (setOf fs)).length=zs.length:=List.length_map _
    have hF:(fun b=>fitN (zs.map (setOf fs)) b zs.length)=fitP (autN (partN R)):=by
     funext b;unfold fitP;rw [←unhide HZS,hsl]
    rw [hF,unhide HC2] at hZ
    have HZ:=hide hZ
    have h3:=unhide HH3
    clear hZ hF hsl x0 x1 x2 x3
    go_wp2_with (first
     | refine wpList_load_row rfl 90 _ rfl g4 rfl 90 _ (0,0) _ (unhide HZ).b4 Tryz.underlying90 rfl (by rw [autA_size];kernel_rfl) ?_
     | refine wpList_store_row rfl 90 _ _ rfl (w.heap.size+1) _ rfl rfl 90 _ (unhide HZ).bu.b1 (by rw [autA_size];kernel_rfl) (by rw [autA_size,zcA_size]) (autA_one _ _ _ _ _) ?_)
    refine bodyPost_ret (v:=.agg (autA (.slice n1 m1 p1) (fitP (autN (partN R))) ((autN (partN R)).last:Int)))
     (results_cell_row (p:=2) (ty:=90) rfl _ _ (w.heap.size+1) 90 _ (0,0) _ rfl (setRow_heap _ _ _ _ _ _ (unhide HZ).bu.b1) Tryz.underlying90 rfl (by rw [autA_size];kernel_rfl)) rfl
     ⟨_,rfl,⟨_,rfl,own_setRow (unhide HZ).nr (fun q hq e=>?_) _⟩,below_setRow (unhide HZ).bu.below (by omega) _⟩
    have hb1:=(unhide HZ).bu.b1
    rw [←e] at hb1
    exact own_not_at (unhide HZ).nr hq hb1 (by decide)
end Go.Proofs.YtobfpgoepaeknaaGreat
