/-
  The document's answer: of each kind of alike bytes the least.
  The document's answer: of each kind of alike bytes the least: the walk.
  The document's answer: pairs of sets in memory; does a pair stand in the list?
  The document's answer: two sets that no string tells apart. (Mathematics.)
-/
import Derived.Test.YtobfpgoepaeknaaGreatPO32
import Derived.Test.YtobfpgoepaeknaaGreatPO00
namespace Go.Proofs.YtobfpgoepaeknaaGreat
namespace Mc
open Go.RowKit
def kdA (f:Nat→Nat):Array Value:=((List.range 256).map fun i=>Value.int .i64 ((f i:Nat):Int)).toArray
theorem kdA_size (f:Nat→Nat):(kdA f).size=256:=by unfold kdA;simp
theorem kdA_ne (f:Nat→Nat):kdA f≠#[]:=fun e=>by have:=kdA_size f;rw [e] at this;simp at this
theorem kdA_at (f:Nat→Nat) {b:Nat} (hb:b < 256):(kdA f)[b]?=some (.int .i64 ((f b:Nat):Int)):=by
 unfold kdA
 rw [List.getElem?_toArray,List.getElem?_map,List.getElem?_range hb];rfl
theorem kdA_set (f:Nat→Nat) (b x:Nat):(kdA f).setIfInBounds b (.int .i64 ((x:Nat):Int))=kdA (fun j=>if j=b then x else f j):=by
 apply Array.ext_getElem?
 intro i
 rw [Array.getElem?_setIfInBounds]
 by_cases hi:i < 256
 ·have h2:=kdA_at (fun j=>if j=b then x else f j) hi
  rw [h2]
  by_cases e:b=i
  ·subst e
   rw [if_pos rfl,if_pos (by rw [kdA_size];exact hi)]
   simp
  ·rw [if_neg e,kdA_at _ hi]
   have e2:¬i=b:=fun h=>e h.symm
   simp [e2]
 ·have h1:(kdA f)[i]?=none:=Array.getElem?_eq_none (by rw [kdA_size];omega)
  have h2:(kdA fun j=>if j=b then x else f j)[i]?=none:=Array.getElem?_eq_none (by rw [kdA_size];omega)
  rw [h2,h1]
  split
  ·rw [if_neg (by rw [kdA_size];omega)]
  ·rfl
theorem kdA_one (f:Nat→Nat):(kdA f).all (·.oneCell')=true:=by
 unfold kdA
 rw [List.all_toArray,List.all_map,List.all_eq_true]
 intro x _
 rfl
theorem zvKd (w:World):(zeroValue 44).run Tryz.prog w=.ok (.agg (kdA fun _=>0)) w:=by kernel_rfl
theorem infoKd:(Tryz.prog.info? 44).map (·.size)=some 256:=by kernel_rfl
theorem aggcellsT (cs:Array Value):(Value.agg cs).cells=cs:=rfl
def IsKd (w:World) (v:Value) (cs:Array Value):Prop:=∃ g,v=.pointer (some ⟨g,0,none⟩)∧w.heap[g]?=some (.cells cs 44 (0,0))∧cs.size=256
def HasKd (w:World) (v:Value):Prop:=∃ cs,IsKd w v cs
def kdOf (w:World) (v:Value):Array Value:=match v with
 | .pointer (some a)=>match w.heap[a.block]? with
  | some (.cells cs _ _)=>cs
  | _=>#[]
 | _=>#[]
theorem IsKd.has {w:World} {v:Value} {cs:Array Value} (h:IsKd w v cs):HasKd w v:=⟨cs,h⟩
theorem IsKd.of {w:World} {v:Value} {cs:Array Value} (h:IsKd w v cs):kdOf w v=cs:=by
 obtain ⟨g,rfl,h1,-⟩:=h
 simp only [kdOf,h1]
theorem wp_ldKd {d:Option Tmp} {x:Operand} {ty:TypeId} {p:String} {af:Array Edge} {gd:Option (Nat × Bool)} {a:Act} {w:World} {K:Act→World→Prop} {Q:Exit→Act→World→Prop} (h:HasKd w (a.eval x)) :
  Oper.wp Tryz.prog { dst:=d,op:=.load 44 x,type:=ty,pos:=p,after:=af,guard:=gd } a w K Q=K (a.put d (.agg (kdOf w (a.eval x)))) w:=by
 obtain ⟨cs,hcs⟩:=h
 rw [hcs.of]
 obtain ⟨g,hv,hg,hs⟩:=hcs
 unfold Oper.wp execOp
 simp only [hv,Instr.loadAt,Instr.sureAddr,Sem.run_bind,Sem.run_pure,Result.andThen_ok,run_loadVar_row w g _ _ cs _ _ hg Tryz.underlying44 rfl (by rw [hs];exact infoKd)]
 rfl
def blkV:Value→Nat
 | .pointer (some a)=>a.block
 | _=>0
def IsKv (v:Value):Prop:=∃ cs,v=.agg cs∧cs.size=256∧cs.all (·.oneCell')=true
theorem wp_stKd {x y:Operand} {ty:TypeId} {p:String} {af:Array Edge} {gd:Option (Nat × Bool)} {a:Act} {w:World} {K:Act→World→Prop} {Q:Exit→Act→World→Prop} (h:HasKd w (a.eval x)) (h2:IsKv (a.eval y)) :
  Oper.wp Tryz.prog { dst:=none,op:=.store 44 x y,type:=ty,pos:=p,after:=af,guard:=gd } a w K Q=K a (w.setRow (blkV (a.eval x)) (a.eval y).cells):=by
 obtain ⟨old,g,hv,hg,hs⟩:=h
 obtain ⟨cs,hy,hs2,ho⟩:=h2
 unfold Oper.wp execOp
 simp only [hv,hy,Instr.storeAt,Instr.sureAddr,Sem.run_bind,Sem.run_pure,Result.andThen_ok,run_storeVar_row w g _ 44 old cs hg (by rw [hs2];exact infoKd) (by rw [hs,hs2]) ho]
 rfl
structure BtI (w:World) (gk g3:Nat) (wr:World) (va:Option Addr) (vc:Nat) (l:List Nat) (f:Nat→Nat):Prop where
 below:Below w.heap.size w wr
 h3:w.heap.size≤g3
 hk:w.heap.size≤gk
 ne:g3≠gk
 kd:wr.heap[gk]?=some (.cells (kdA f) 44 (0,0))
 rs:wr.heap[g3]?=some (.cells (kdA fun _=>0) 44 (0,0))
 row:NR wr w.heap.size (.slice va l.length vc) l
section
variable {w wr w2 : World} {gk g3 : Nat} {va : Option Addr} {vc : Nat} {l : List Nat} {f : Nat → Nat}
theorem BtI.drewN (h:BtI w gk g3 wr va vc l f) (n:Nat):BtI w gk g3 (wr.drewN n) va vc l f:=⟨below_drewN h.below n,h.h3,h.hk,h.ne,h.kd,h.rs,h.row⟩
theorem BtI.alloc (h:BtI w gk g3 wr va vc l f) (o:Obj):BtI w gk g3 (wr.alloc o) va vc l f:=⟨h.below.alloc h.below.size _,h.h3,h.hk,h.ne,(Fr.ofAlloc wr o).at h.kd (by simp),(Fr.ofAlloc wr o).at h.rs (by simp),(Fr.ofAlloc wr o).own h.row (by simp)⟩
theorem BtI.put (h:BtI w gk g3 wr va vc l f) (b x:Nat):wr.frozen? ⟨gk,b,none⟩=false∧BtI w gk g3 (wr.setCell ⟨gk,b,none⟩ (.int .i64 ((x:Nat):Int))) va vc l (fun j=>if j=b then x else f j):=by
 refine ⟨frozen_of_row _ _ _ _ _ h.kd,h.below.setCell (p:=⟨gk,b,none⟩) h.hk _,h.h3,h.hk,h.ne,?_,(Fr.ofSet _ _ _ _).at h.rs (by simpa using h.ne),(Fr.ofSet _ _ _ _).own h.row (fun q hq=>by simpa using own_off h.row h.kd (by decide) q hq)⟩
 rw [heap_setCell_same _ _ _ _ _ _ h.kd,kdA_set]
theorem BtI.push (h:BtI w gk g3 wr va vc l f) {g cap y:Nat} (hgrow:wr.grownBy w2 (.slice va l.length vc:Value).ownBlock) (ho:w2.ownsRow w.heap.size 3 1 (.slice (some ⟨g,0,none⟩) (l.length+1) cap) (l.length+1) (ncs l++[.int .i64 (y:Int)])):BtI w gk g3 w2 (some ⟨g,0,none⟩) cap (l++[y]) f:=by
 have e1:=own_off h.row h.kd (by decide)
 have e2:=own_off h.row h.rs (by decide)
 refine ⟨h.below.grown hgrow h.below.size (fun q hq=>(World.ownsRow.lt h.row q hq).1),h.h3,h.hk,h.ne,(Fr.ofGrown hgrow).at h.kd (fun hm=>e1 _ (Option.mem_toList.1 hm) rfl),(Fr.ofGrown hgrow).at h.rs (fun hm=>e2 _ (Option.mem_toList.1 hm) rfl),?_⟩
 rw [List.length_append]
 exact NR.of ho
theorem BtI.lk (h:BtI w gk g3 wr va vc l f):gk < wr.heap.size:=(Array.getElem?_eq_some_iff.1 h.kd).1
end
end Mc
end Go.Proofs.YtobfpgoepaeknaaGreat
namespace Go.Proofs.YtobfpgoepaeknaaGreat
namespace Mc
open Go.RowKit
theorem res_tmp_row {P:Program} {fn:Func} {p u:Tmp} {ty:TypeId} (h:fn.results=#[.tmp u,.cell p ty]) (tmps:Array Value) (w:World) (g:Nat) (t:TypeId) (cs:Array Value) (fr:Nat × Nat) (d:TypeDesc)
  (hp:tmps.getD p undef=.pointer (some ⟨g,0,none⟩)) (hg:w.heap[g]?=some (.cells cs t fr)) (hu:P.underlying ty=some d) (hd:(match d with | .struct _ | .array _ _=>true | _=>false)=true) (hi:(P.info? ty).map (·.size)=some cs.size)
  (x:Value) (hx:tmps.getD u undef=x):(results fn tmps).run P w=.ok (.tuple #[x,.agg cs]) w:=by
 have hp':tmps[p]?.getD undef=.pointer (some ⟨g,0,none⟩):=by simpa using hp
 have hx':tmps[u]?.getD undef=x:=by simpa using hx
 unfold results
 rw [h]
 simp [hp',hx',asAddr,run_loadVar_row w g t ty cs fr d hg hu hd hi]
section
attribute [local go_sem ↓] Go.wp_at_zero Go.wp_at_succ zvKd wp_ldKd wp_stKd
attribute [local go_sem] kdA_size kdA_ne aggcellsT
set_option maxRecDepth 20000 in
set_option maxHeartbeats 4000000 in
theorem tbytes_any (w:World) (b:Nat) (rs:List Rn) (hb:RtS w b rs) (hl:rs.length≤1000) :
  Calls Tryz.prog 23 #[.pointer (some ⟨b,0,none⟩)] w fun e w'=>∃ va vc l f,e=.returned (.tuple #[.slice va l.length vc,.agg (kdA f)])∧Sorted 256 (alkB rs) l f∧Below w.heap.size w w'∧NR w' w.heap.size (.slice va l.length vc) l:=by
 have HRT:=hide hb
 have HL:=hide hl
 have hbl:=RtS_lt hb
 have HB0:Hid (BtI w (w.heap.size+1) w.heap.size ((w.alloc (.cells (kdA fun _=>0) 44)).alloc (.cells (kdA fun _=>0) 44)) none 0 [] (fun _=>0)):=⟨((Below.refl _ _).alloc (Nat.le_refl _) _).alloc (by simp) _,Nat.le_refl _,by omega,by omega,heap_alloc2_new _ _ _,heap_alloc2_old _ _ _,NR.nil _ _⟩
 clear hb hl
 go_enter Tryz.func23,Tryz.ntmps23
 go_wp2_with fail
 generalize ((w.alloc (.cells (kdA fun _=>0) 44)).alloc (.cells (kdA fun _=>0) 44))=w1 at *
 generalize hgk:w.heap.size+1=gk at *
 generalize hg3:w.heap.size=g3 at HB0 ⊢
 clear hgk
 have HG3:=hide hg3
 clear hg3
 go_loopw [4,6] (fun vx bx wr=>∃ (c:Nat) (va:Option Addr) (vc:Nat) (l:List Nat) (f:Nat→Nat),vx=.slice va l.length vc∧bx=.int .i64 (c:Int)∧Hid (c≤256∧l.length≤c∧Sorted c (alkB rs) l f∧BtI w gk g3 wr va vc l f)) (fun _ bx _=>256 - (intOf bx).toNat)
 case atStart=>exact ⟨0,none,0,[],fun _=>0,rfl,rfl,by show 0≤256;decide,Nat.le_refl _,Sorted.nil _ _,unhide HB0⟩
 case round =>
  clear HB0
  rename World=>wr
  obtain ⟨c,va,vc,l,f,rfl,rfl,HH⟩:=hrel
  obtain ⟨hc,hlc,hS,hI⟩:=unhide HH
  clear HH
  by_cases hlt:c < 256
  ·have hcI:(c:Int) < 256:=by omega
   have hc0:(0:Int)≤(c:Int):=by omega
   have hc1:((c:Int)).toNat=c:=by omega
   have hlI:(l.length:Int)≤256:=by omega
   have hgk:=hI.lk
   have k0:wr.cell? ⟨gk,c,none⟩=some (.int .i64 ((f c:Nat):Int)):=by rw [cell_of_row _ _ _ _ _ _ hI.kd];exact kdA_at f hlt
   obtain ⟨hz,hI1⟩:=hI.put c l.length
   have HI1:=hide hI1
   have HS:=hide hS
   have HLC:=hide hlc
   have HLT:=hide hlt
   clear hc hlc hS hI hI1 hlt
   generalize f c=f0 at *
   go_wp2_with fail
   generalize hf1:(fun j=>if j=c then l.length else f j)=f1 at *
   have HF1:Hid (f1 c=l.length∧∀ a,a < c→f1 a=f a):=by rw [←hf1];exact ⟨by simp,fun a ha=>by simp;omega⟩
   clear hf1 k0 hz hgk
   generalize wr.setCell ⟨gk,c,none⟩ (.int .i64 (l.length:Int))=w2 at *
   go_loopw [7] (fun ix wy=>∃ i:Nat,ix=.int .i64 (i:Int)∧Hid (i≤l.length∧BtI w gk g3 wy va vc l f1∧∀ j,j < i→¬alkB rs c (l.getD j 0))) (fun ix _=>l.length - (intOf ix).toNat)
   case atStart=>exact ⟨0,rfl,Nat.zero_le _,unhide HI1,fun j hj=>by omega⟩
   case round =>
    clear HI1
    rename World=>wy
    obtain ⟨i,rfl,HH⟩:=hrel
    obtain ⟨hi,hI,hno⟩:=unhide HH
    clear HH
    have hgk:=hI.lk
    by_cases hlti:i < l.length
    ·have hiI:(i:Int) < (l.length:Int):=by omega
     have hi0:(0:Int)≤(i:Int):=by omega
     have hi1:((i:Int)).toNat=i:=by omega
     obtain ⟨gl,cl,he,c1⟩:=hI.row.at hlti
     simp only [Value.slice.injEq,true_and] at he
     obtain ⟨rfl,rfl⟩:=he
     have hgl:gl < wy.heap.size:=(World.ownsRow.lt hI.row gl rfl).2
     have hh:=(unhide HS).head i hlti
     have hli:l.getD i 0 < 256:=by have:=unhide HLT;omega
     have HAL:=hide (alike_any wy b rs (RtS_below (unhide HRT) hI.below) (unhide HL) c (l.getD i 0) (unhide HLT) hli)
     have HI:=hide hI
     have HNO:=hide hno
     have HLI:=hide hlti
     have k0:wy.cell? ⟨gk,c,none⟩=some (.int .i64 ((f1 c:Nat):Int)):=by rw [cell_of_row _ _ _ _ _ _ hI.kd];exact kdA_at f1 (unhide HLT)
     have hz:=frozen_of_row wy gk c _ _ hI.kd
     clear hi hI hno hlti hh hli
     generalize hy:l.getD i 0=y at *
     have HY:=hide hy
     clear hy
     go_wp2_with fail
     refine (unhide HAL).mono ?_
     rintro e w3 ⟨⟨z,rfl,hzz⟩,n,rfl⟩
     clear HAL
     cases z
     ·have HNO2:Hid (∀ j,j < i+1→¬alkB rs c (l.getD j 0)):=fun j hj=>by
       by_cases e:j=i
       ·subst e
        rw [unhide HY]
        exact fun h=>by simpa using hzz.2 h
       ·exact unhide HNO j (by omega)
      clear hzz
      go_wp2_with fail
      go_roundw
      case rel=>exact ⟨i+1,by go_num,unhide HLI,(unhide HI).drewN n,unhide HNO2⟩
      case measure=>have:=unhide HLI;simp [intOf];omega
     ·have HALK:Hid (alkB rs c (l.getD i 0)):=by rw [unhide HY];exact hzz.1 rfl
      obtain ⟨hz3,hI3⟩:=((unhide HI).drewN n).put c i
      have HI3:=hide hI3
      have hne:¬(i:Int)=(l.length:Int):=by omega
      have k3:((wy.drewN n).setCell ⟨gk,c,none⟩ (.int .i64 ((i:Nat):Int))).cell? ⟨gk,c,none⟩=some (.int .i64 (i:Int)):=by rw [cell_of_row _ _ _ _ _ _ hI3.kd,kdA_at _ (unhide HLT)];simp
      have hgk3:=hI3.lk
      clear hzz hI3
      go_wp2_with fail
      go_roundw
      case rel=>exact ⟨c+1,_,_,l,(fun j=>if j=c then i else f1 j),rfl,by go_num,unhide HLT,by have:=unhide HLC;omega,(unhide HS).old (alk_eqv rs) (unhide HLI) (unhide HALK) (fun a ha=>by have:=(unhide HF1).2 a ha;show (if a=c then i else f1 a)=f a;rw [if_neg (by omega)];exact this) (if_pos rfl),unhide HI3⟩
      case measure=>have:=unhide HLT;simp [intOf];omega
    ·have hi2:i=l.length:=by omega
     subst hi2
     have hiI:¬(l.length:Int) < (l.length:Int):=by omega
     have k0:wy.cell? ⟨gk,c,none⟩=some (.int .i64 (l.length:Int)):=by rw [cell_of_row _ _ _ _ _ _ hI.kd,kdA_at f1 (unhide HLT),(unhide HF1).1]
     have HI:=hide hI
     have HNO:=hide hno
     have HXA:=hide (hI.alloc (Obj.cells #[.int .i64 (c:Int)] 3))
     have HSZ:Hid (w.heap.size≤wy.heap.size):=hI.below.size
     clear hi hI hno hlti
     go_wp2_with (at_builtin;refine app1 rfl (.tmp 40) (.tmp 42) rfl w.heap.size _ l rfl (unhide HXA).row wy.heap.size c rfl (new_cell rfl) (by have:=unhide HLC;have:=unhide HLT;omega) (by have:=unhide HSZ;simp;omega) (wy.heap.size+1) (by simp) ?_;intro g5 cap5 w8 ho hgrow hlies hlt5;have HP9:=hide ((unhide HXA).push hgrow ho);clear ho hgrow hlies)
     go_roundw
     case rel=>exact ⟨c+1,some ⟨g5,0,none⟩,cap5,l++[c],f1,by simp,by go_num,unhide HLT,by have:=unhide HLC;simp;omega,(unhide HS).new (alk_eqv rs) (unhide HNO) (unhide HF1).2 (unhide HF1).1,unhide HP9⟩
     case measure=>have:=unhide HLT;simp [intOf];omega
  ·have hc2:c=256:=by omega
   subst hc2
   have HS:=hide hS
   have HI:=hide hI
   have HK1:Hid (IsKd wr.drew (.pointer (some ⟨gk,0,none⟩)) (kdA f)):=⟨gk,rfl,hI.kd,kdA_size f⟩
   have HK2:Hid (IsKd wr.drew (.pointer (some ⟨g3,0,none⟩)) (kdA fun _=>0)):=⟨g3,rfl,hI.rs,kdA_size _⟩
   have hT1:=(unhide HK1).has
   have hT2:=(unhide HK1).of
   have hT3:=(unhide HK2).has
   have hT4:IsKv (.agg (kdA f)):=⟨_,rfl,kdA_size f,kdA_one f⟩
   have hb3:blkV (.pointer (some ⟨g3,0,none⟩))=g3:=rfl
   clear hc hlc hS hI hlt
   generalize hka:kdA f=ka at *
   have HKA:=hide hka
   clear hka
   go_wp2_with fail
   go_region
   all_goals
    go_wp2_with fail
    refine bodyPost_ret (res_tmp_row (p:=3) (u:=2) (ty:=44) rfl _ _ g3 44 ka (0,0) _ rfl (setRow_heap _ _ _ _ _ _ (by exact (unhide HI).rs)) Tryz.underlying44 rfl (by rw [←unhide HKA,kdA_size];exact infoKd) _ rfl) rfl ?_
    refine ⟨va,vc,l,f,by rw [unhide HKA];rfl,unhide HS,below_setRow (unhide HI).below.drew (unhide HI).h3 _,?_⟩
    exact (Fr.ofRow _ _ _).own (show NR wr.drew w.heap.size (.slice va l.length vc) l from (unhide HI).row) (fun q hq=>by simpa using own_off (unhide HI).row (unhide HI).rs (by decide) q hq)
end
end Mc
end Go.Proofs.YtobfpgoepaeknaaGreat
namespace Go.Proofs.YtobfpgoepaeknaaGreat
namespace Mc
open Go.RowKit
attribute [local go_sem ↓] Go.wp_at_zero Go.wp_at_succ
structure Pr where
 av:Value
 A:List ByteArray
 bv:Value
 B:List ByteArray
 S:ByteArray
def prC (z:Pr):List Value:=[z.av,z.bv,.string z.S]
theorem flat3:∀ (L:List Pr) (k j:Nat) (z:Pr),L[k]?=some z→j < 3→(L.flatMap prC)[k * 3+j]?=(prC z)[j]?
 | [],k,j,a,h,_=>by simp at h
 | x ::L,0,j,a,h,hj=>by
  simp only [List.getElem?_cons_zero,Option.some.injEq] at h
  subst h
  rw [List.flatMap_cons,Nat.zero_mul,Nat.zero_add,List.getElem?_append_left (by exact hj)]
 | x ::L,k+1,j,a,h,hj=>by
  rw [List.getElem?_cons_succ] at h
  have h3:(prC x).length=3:=rfl
  rw [List.flatMap_cons,List.getElem?_append_right (by rw [h3];omega),h3,show (k+1) * 3+j - 3=k * 3+j by omega]
  exact flat3 L k j a h hj
theorem own_tyT {w:World} {B e z:Nat} {v:Value} {n:Nat} {xs:List Value} (h:w.ownsRow B e z v n xs) {q:Nat} (hq:v.ownBlock=some q):∃ cs,w.heap[q]?=some (.cells cs e (0,0)):=by
 rcases h.2 with ⟨rfl,_⟩ | ⟨g,cap,cur,rfl,_,hg,_⟩
 ·simp [Value.ownBlock] at hq
 ·have:g=q:=by simpa [Value.ownBlock] using hq
  subst this
  exact ⟨_,hg⟩
structure PrR (w:World) (Bd:Nat) (va:Option Addr) (vc:Nat) (Z:List Pr):Prop where
 own:w.ownsRow Bd 199 3 (.slice va Z.length vc) Z.length (Z.flatMap prC)
 rows:∀ z∈Z,SRow w 0 z.av z.A∧SRow w 0 z.bv z.B
section
variable {w w' : World} {Bd : Nat} {va : Option Addr} {vc : Nat} {Z : List Pr}
theorem PrR.below (h:PrR w Bd va vc Z) (hb:Below w.heap.size w w'):PrR w' Bd va vc Z:=⟨own_belowZ h.own hb,fun z hz=>⟨(h.rows z hz).1.below hb,(h.rows z hz).2.below hb⟩⟩
theorem PrR.fy (h:PrR w Bd va vc Z) {b:Nat} {rs:List Rn} (hf:Fy b w w') (ht:RtS w b rs):PrR w' Bd va vc Z:=⟨hf.own ht h.own (by decide) (by decide),fun z hz=>⟨(h.rows z hz).1.fy hf ht,(h.rows z hz).2.fy hf ht⟩⟩
theorem PrR.at (h:PrR w Bd va vc Z) {k:Nat} {z:Pr} (hk:Z[k]?=some z):∃ g,va=some ⟨g,0,none⟩∧g < w.heap.size∧w.cell? ⟨g,k * 3,none⟩=some z.av∧w.cell? ⟨g,k * 3+1,none⟩=some z.bv∧w.cell? ⟨g,k * 3+2,none⟩=some (.string z.S)∧SRow w 0 z.av z.A∧SRow w 0 z.bv z.B:=by
 have hl:=(List.getElem?_eq_some_iff.1 hk).1
 obtain ⟨g,cap,he⟩:=own_form h.own (by omega)
 simp only [Value.slice.injEq,true_and] at he
 obtain ⟨rfl,rfl⟩:=he
 have hc:∀ j,j < 3→∀ u,(prC z)[j]?=some u→w.cell? ⟨g,k * 3+j,none⟩=some u:=fun j hj u hu=>by
  have:=h.own.cells (g:=g) rfl (k * 3+j) u (by rw [flat3 Z k j z hk hj];exact hu)
  rwa [add0] at this
 obtain ⟨r1,r2⟩:=h.rows z (List.mem_of_getElem? hk)
 exact ⟨g,rfl,(h.own.lt g rfl).2,hc 0 (by decide) _ rfl,hc 1 (by decide) _ rfl,hc 2 (by decide) _ rfl,r1,r2⟩
end
set_option maxRecDepth 20000 in
set_option maxHeartbeats 2000000 in
theorem seen_any (w:World) (Bd:Nat) (va:Option Addr) (vc:Nat) (Z:List Pr) (h:PrR w Bd va vc Z) (hZ:Z.length≤100000000) (hl:∀ z∈Z,z.A.length≤13∧z.B.length≤13) (B1 B2:Nat) (u v:Value) (A B:List ByteArray) (hu:SRow w B1 u A) (hv:SRow w B2 v B) (hA:A.length≤13) (hB:B.length≤13) :
  Calls Tryz.prog 127 #[.slice va Z.length vc,u,v] w fun e w'=>(∃ y,e=.returned (.bool y)∧(y=true↔∃ z∈Z,z.A=A∧z.B=B))∧Below w.heap.size w w':=by
 obtain ⟨ua,uc,rfl⟩:=hu.form
 obtain ⟨xa,xc,rfl⟩:=hv.form
 have hzI:(Z.length:Int)≤100000000:=by omega
 have HP:=hide h
 have HL:=hide hl
 have HU:=hide hu
 have HV:=hide hv
 have HA:=hide hA
 have HB:=hide hB
 clear h hl hu hv hA hB hZ
 go_enter Tryz.func127,Tryz.ntmps127
 go_wp2_with fail
 go_loopw [7] (fun ix wr=>∃ i:Nat,ix=.int .i64 (i:Int)∧Hid (i≤Z.length∧Below w.heap.size w wr∧∀ (k:Nat) z,k < i→Z[k]?=some z→¬(z.A=A∧z.B=B))) (fun ix _=>Z.length - (intOf ix).toNat)
 case atStart=>exact ⟨0,rfl,Nat.zero_le _,Below.refl _ _,fun k z hk=>by omega⟩
 case round =>
  rename World=>wr
  obtain ⟨i,rfl,HH⟩:=hrel
  obtain ⟨hi,hBw,hno⟩:=unhide HH
  clear HH
  by_cases hlt:i < Z.length
  ·have hiI:(i:Int) < (Z.length:Int):=by omega
   have hi0:(0:Int)≤(i:Int):=by omega
   have hi1:((i:Int)).toNat=i:=by omega
   obtain ⟨z,hz⟩:∃ z,Z[i]?=some z:=⟨_,List.getElem?_eq_getElem hlt⟩
   obtain ⟨g,rfl,hg,c0,c1,c2,r1,r2⟩:=((unhide HP).below hBw).at hz
   have hzl:=unhide HL z (List.mem_of_getElem? hz)
   have HS1:=hide (sameTerms_any wr 0 B1 z.av _ z.A A r1 ((unhide HU).below hBw) (by omega) (by have:=unhide HA;omega))
   have HS2:=hide (fun W (hW:Below w.heap.size w W) (hr:SRow W 0 z.bv z.B)=>sameTerms_any W 0 B2 z.bv _ z.B B hr ((unhide HV).below hW) (by omega) (by have:=unhide HB;omega))
   obtain ⟨pa,pc,hpa⟩:=r1.form
   obtain ⟨qa,qc,hqa⟩:=r2.form
   have HBW:=hide hBw
   have HLT:=hide hlt
   have HZ:=hide hz
   have HNO:=hide hno
   have HYES:Hid (z.A=A→z.B=B→∃ z∈Z,z.A=A∧z.B=B):=fun h1 h2=>⟨z,List.mem_of_getElem? hz,h1,h2⟩
   have HST:Hid (¬(z.A=A∧z.B=B)→∀ (k:Nat) z,k < i+1→Z[k]?=some z→¬(z.A=A∧z.B=B)):=fun h k z' hk hz'=>by
    by_cases e:k=i
    ·subst e;rw [hz] at hz';cases hz';exact h
    ·exact hno k z' (by omega) hz'
   have HR2:=hide r2
   rw [hpa] at c0 HS1
   rw [hqa] at c1
   have HC1:=hide c1
   have HQ:=hide hqa
   clear hi hBw hno hlt hz r1 r2 hzl hpa hqa c1 c2
   go_wp2_with fail
   refine (unhide HS1).mono ?_
   rintro e w1 ⟨⟨y1,rfl,hy1⟩,hb1⟩
   have HB1:Hid (Below w.heap.size w w1):=(unhide HBW).trans (hb1.mono (unhide HBW).size)
   have c1:=Mc.below_cell hb1 (unhide HC1)
   have hg1:g < w1.heap.size:=World.block_lt_of_cell? w1 ⟨g,i * 3+1,none⟩ c1
   have HR3:=hide ((unhide HR2).below hb1)
   clear hb1 HS1 c0 hg
   cases y1
   ·have HS:=hide (unhide HST (fun h=>by have:=hy1.2 h.1;simp at this))
    clear hy1
    go_wp2_with fail
    go_roundw
    case rel=>exact ⟨i+1,by go_num,unhide HLT,unhide HB1,unhide HS⟩
    case measure=>have:=unhide HLT;simp [intOf];omega
   ·have hA':=hy1.1 rfl
    have HEA:=hide hA'
    have HS2':=hide (unhide HS2 w1 (unhide HB1) (unhide HR3))
    rw [unhide HQ] at HS2'
    clear hy1 hA'
    go_wp2_with fail
    refine (unhide HS2').mono ?_
    rintro e w2 ⟨⟨y2,rfl,hy2⟩,hb2⟩
    have HB2:Hid (Below w.heap.size w w2):=(unhide HB1).trans (hb2.mono (unhide HB1).size)
    clear hb2
    cases y2
    ·have HS:=hide (unhide HST (fun h=>by have:=hy2.2 h.2;simp at this))
     clear hy2
     go_wp2_with fail
     go_roundw
     case rel=>exact ⟨i+1,by go_num,unhide HLT,unhide HB2,unhide HS⟩
     case measure=>have:=unhide HLT;simp [intOf];omega
    ·have HYY:=hide (unhide HYES (unhide HEA) (hy2.1 rfl))
     clear hy2
     go_wp2_with fail
     go_ret
     exact ⟨⟨true,rfl,by simpa using unhide HYY⟩,unhide HB2⟩
  ·have hi2:i=Z.length:=by omega
   subst hi2
   have HF:Hid (¬∃ z∈Z,z.A=A∧z.B=B):=fun ⟨z,hz,h⟩=>by
    obtain ⟨k,hk⟩:=List.getElem?_of_mem hz
    exact hno k z (List.getElem?_eq_some_iff.1 hk).1 hk h
   have HBW:=hide hBw
   clear hi hBw hno hlt
   go_wp2_with fail
   go_ret
   exact ⟨⟨false,rfl,⟨fun h=>(by cases h),fun h=>absurd h (unhide HF)⟩⟩,unhide HBW⟩
end Mc
end Go.Proofs.YtobfpgoepaeknaaGreat
namespace Go.Proofs.YtobfpgoepaeknaaGreat
theorem apart_same {hb:List Nat} {n:Nat} {Pf Qf:Nat→Lang} (hend:∀ k,k < n→(Pf k []↔Qf k [])) (hcl:∀ k,k < n→∀ j,j < hb.length→(∀ w,derL (hb.getD j 0) (Pf k) w↔derL (hb.getD j 0) (Qf k) w)∨∃ k',k' < n∧Pf k'=derL (hb.getD j 0) (Pf k)∧Qf k'=derL (hb.getD j 0) (Qf k)):∀ (w:List Nat) (k:Nat),k < n→(∀ x∈w,x∈hb)→(Pf k w↔Qf k w)
 | [],k,hk,_=>hend k hk
 | c ::w,k,hk,hw=>by
  obtain ⟨j,hj,hc⟩:=List.getElem_of_mem (hw c (by simp))
  have hcj:hb.getD j 0=c:=by rw [List.getD_eq_getElem?_getD,List.getElem?_eq_getElem hj];exact hc
  rcases hcl k hk j hj with h | ⟨k',hk',h1,h2⟩
  ·rw [hcj] at h;exact h w
  ·rw [hcj] at h1 h2
   have ih:=apart_same hend hcl w k' hk' (fun x hx=>hw x (by simp [hx]))
   rw [h1,h2] at ih
   exact ih
theorem alk_rep {rs:List Rn} {hb:List Nat} {kd:Nat→Nat} (hs:Sorted 256 (alkB rs) hb kd):∀ (w:List Nat),bytesOk w→Alk2 rs w (w.map fun c=>hb.getD (kd c) 0)∧(∀ x∈w.map fun c=>hb.getD (kd c) 0,x∈hb)∧bytesOk (w.map fun c=>hb.getD (kd c) 0)
 | [],_=>⟨trivial,fun x hx=>by simp at hx,bytesOk_nil⟩
 | c ::w,hw=>by
  obtain ⟨hc,hw'⟩:=bytesOk_tail hw
  obtain ⟨h1,h2,h3⟩:=alk_rep hs w hw'
  have hk:=hs.lt c hc
  have hh:=hs.head _ hk
  have he:alkB rs c (hb.getD (kd c) 0):=(hs.iff c _ hc hh.1).1 hh.2.symm
  refine ⟨⟨he,h1⟩,fun x hx=>?_,bytesOk_cons hh.1 h3⟩
  rw [List.map_cons] at hx
  rcases List.mem_cons.1 hx with rfl | hx
  ·rw [List.getD_eq_getElem?_getD,List.getElem?_eq_getElem hk];exact List.getElem_mem _
  ·exact h2 x hx
theorem eqb_reps {rs:List Rn} {hb:List Nat} {kd:Nat→Nat} (hs:Sorted 256 (alkB rs) hb kd) {L:Lang} (hL:SameA rs L) {A B:Lang} {u v:List Nat} (hA:EqB A (derS u L)) (hB:EqB B (derS v L)) (h:∀ w,(∀ x∈w,x∈hb)→(A w↔B w)):EqB A B:=fun w hw=>by
 obtain ⟨h1,h2,h3⟩:=alk_rep hs w hw
 have key:∀ {C:Lang} {u:List Nat},EqB C (derS u L)→(C w↔C (w.map fun c=>hb.getD (kd c) 0)):=fun {C u} hC=>by
  rw [hC w hw,hC _ h3]
  exact ⟨hL _ _ (alk_app u h1),hL _ _ (alk_app u h1.symm)⟩
 rw [key hA,key hB]
 exact h _ h2
theorem pigeonX (n:Nat):∀ (f:Nat→Nat),(∀ i,i≤n→f i < n)→∃ i j,i < j∧j≤n∧f i=f j:=by
 induction n with
 | zero=>intro f h;have:=h 0 (Nat.le_refl _);omega
 | succ n ih =>
  intro f h
  by_cases hx:∃ i,i≤n∧f i=f (n+1)
  ·obtain ⟨i,hi,e⟩:=hx
   exact ⟨i,n+1,by omega,Nat.le_refl _,e⟩
  ·have hn:∀ i,i≤n→f i≠f (n+1):=fun i hi e=>hx ⟨i,hi,e⟩
   have hl:=h (n+1) (Nat.le_refl _)
   obtain ⟨i,j,hij,hj,e⟩:=ih (fun i=>if f i < f (n+1) then f i else f i - 1) fun i hi=>by
    have:=hn i hi;have:=h i (by omega)
    split<;>omega
   refine ⟨i,j,hij,by omega,?_⟩
   have:=hn i (by omega);have:=hn j hj
   split at e<;>split at e<;>omega
theorem pairs_few {rs0 rs:List Rn} {U:List (List Nm)} (hg:GrowT rs0 rs) (hU:U.length≤13) {n:Nat} {Af Bf:Nat→List ByteArray} (hA:∀ i,i < n→VSet rs0 rs U (Af i)) (hB:∀ i,i < n→VSet rs0 rs U (Bf i)) (hne:∀ i j,i < j→j < n→¬(Af i=Af j∧Bf i=Bf j)):n≤67108864:=by
 refine Nat.le_of_not_lt fun hlt=>?_
 have hm:∀ f:List Nm→Bool,maskU f U < 8192:=fun f=>Nat.lt_of_lt_of_le (maskU_lt f U) (by
  have:=Nat.pow_le_pow_right (show 0 < 2 by decide) hU
  simpa using this)
 obtain ⟨i,j,hij,hj,e⟩:=pigeonX 67108864 (fun i=>maskU (memU rs0 rs (Af i)) U * 8192+maskU (memU rs0 rs (Bf i)) U) (fun i _=>by
  have h1:=hm (memU rs0 rs (Af i))
  have h2:=hm (memU rs0 rs (Bf i))
  show _ < _
  omega)
 have a1:=hm (memU rs0 rs (Bf i))
 have a2:=hm (memU rs0 rs (Bf j))
 have e':maskU (memU rs0 rs (Af i)) U * 8192+maskU (memU rs0 rs (Bf i)) U=maskU (memU rs0 rs (Af j)) U * 8192+maskU (memU rs0 rs (Bf j)) U:=e
 refine hne i j hij (by omega) ⟨mask_inj hg.gr (hA i (by omega)).inu (hA j (by omega)).inu (hA i (by omega)).srt (hA j (by omega)).srt (by omega),mask_inj hg.gr (hB i (by omega)).inu (hB j (by omega)).inu (hB i (by omega)).srt (hB j (by omega)).srt (by omega)⟩
end Go.Proofs.YtobfpgoepaeknaaGreat
