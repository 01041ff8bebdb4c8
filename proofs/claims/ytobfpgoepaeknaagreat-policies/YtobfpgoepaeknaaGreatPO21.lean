/-
  policies.Image.readTables.
  policies.Image.readTables: the walk.
  policies.Open.
  policies.Compile: what is to be answered; what the walk wants.
-/
import Derived.Test.YtobfpgoepaeknaaGreatPO20
import Derived.Test.YtobfpgoepaeknaaGreatPO19
namespace Go.Proofs.YtobfpgoepaeknaaGreat
namespace Mc
open Go.RowKit
theorem own_ty {w:World} {B e z:Nat} {v:Value} {n:Nat} {xs:List Value} (h:w.ownsRow B e z v n xs) {q:Nat} (hq:v.ownBlock=some q):∃ cs,w.heap[q]?=some (.cells cs e (0,0)):=by
 rcases h.2 with ⟨rfl,_⟩ | ⟨g,cap,cur,rfl,_,hg,_⟩
 ·simp [Value.ownBlock] at hq
 ·have:g=q:=by simpa [Value.ownBlock] using hq
  subst this
  exact ⟨_,hg⟩
def NoRows (w:World) (S:List Nat):Prop:=∀ q∈S,∀ cs ty fr,w.heap[q]?=some (.cells cs ty fr)→ty≠4∧ty≠3
theorem TRws.fr {w w':World} {B B':Nat} {t:TabN} {gv nv:Value} {S:List Nat} (h:TRws w B t gv nv) (f:Fr S w w') (hS:NoRows w S) (hB:B≤B'):TRws w' B' t gv nv:=by
 obtain ⟨bs,ns,h1,h2,q1,q2,r⟩:=h.ex
 refine ⟨h.ok,bs,ns,f.own h1 (fun q hq hm=>?_),f.own h2 (fun q hq hm=>?_),fun q hq=>Nat.lt_of_lt_of_le (q1 q hq) hB,fun q hq=>Nat.lt_of_lt_of_le (q2 q hq) hB,r⟩
 ·obtain ⟨cs,hc⟩:=own_ty h1 hq
  exact (hS q hm _ _ _ hc).1 rfl
 ·obtain ⟨cs,hc⟩:=own_ty h2 hq
  exact (hS q hm _ _ _ hc).2 rfl
theorem NoRows.nil (w:World):NoRows w []:=fun q hq=>by cases hq
structure RtI (w wr:World) (gi N:Nat) (f:ByteArray) (ta:Option Addr) (tc:Nat) (ts:Nat→TabN) (cs:List Value) (i:Nat):Prop where
 fr:Fr [gi] w wr
 im:wr.heap[gi]?=some (.cells #[.int .i64 (N:Int),.string f,.slice ta i tc] 76 (0,0))
 hgi:gi < w.heap.size
 own:wr.ownsRow w.heap.size 47 259 (.slice ta i tc) i cs
 rows:∀ j,j < i→∃ gv nv,(∀ k,k < 259→cs[j * 259+k]?=(tbC (ts j).cl (ts j).C gv nv)[k]?)∧TRws wr wr.heap.size (ts j) gv nv
section
variable {w wr w2 : World} {gi N : Nat} {f : ByteArray} {ta : Option Addr} {tc : Nat} {ts : Nat → TabN} {cs : List Value} {i : Nat}
theorem RtI.start (hi:w.heap[gi]?=some (.cells #[.int .i64 (N:Int),.string f,.slice none 0 0] 76 (0,0))):RtI w w gi N f none 0 ts [] 0 :=
 ⟨Fr.refl _ _,hi,(Array.getElem?_eq_some_iff.1 hi).1,World.ownsRow_nil _ _ _ _,fun j hj=>by omega⟩
theorem RtI.below (h:RtI w wr gi N f ta tc ts cs i) (hb:Below wr.heap.size wr w2):RtI w w2 gi N f ta tc ts cs i :=
 ⟨h.fr.next hb,(Fr.ofBelow hb).at h.im (by simp),h.hgi,(Fr.ofBelow hb).own h.own (by simp),fun j hj=>by
  obtain ⟨gv,nv,h1,h2⟩:=h.rows j hj
  exact ⟨gv,nv,h1,h2.fr (Fr.ofBelow hb) (NoRows.nil _) hb.size⟩⟩
theorem RtI.alloc (h:RtI w wr gi N f ta tc ts cs i) (o:Obj):RtI w (wr.alloc o) gi N f ta tc ts cs i:=h.below ((Below.refl _ _).alloc (Nat.le_refl _) _)
theorem RtI.drew (h:RtI w wr gi N f ta tc ts cs i):RtI w wr.drew gi N f ta tc ts cs i:=⟨h.fr.drew,h.im,h.hgi,h.own,fun j hj=>by
 obtain ⟨gv,nv,h1,h2⟩:=h.rows j hj
 exact ⟨gv,nv,h1,h2.ok,h2.ex⟩⟩
theorem RtI.le (h:RtI w wr gi N f ta tc ts cs i):w.heap.size≤wr.heap.size:=h.fr.size
theorem RtI.push (h:RtI w wr gi N f ta tc ts cs i) {g cap:Nat} {gv nv:Value} (hr:TRws wr wr.heap.size (ts i) gv nv) (hgrow:wr.grownBy w2 (.slice ta i tc:Value).ownBlock) (ho:w2.ownsRow w.heap.size 47 259 (.slice (some ⟨g,0,none⟩) (i+1) cap) (i+1) (cs++(tbC (ts i).cl (ts i).C gv nv).toList)) :
  w2.cell? ⟨gi,2,none⟩=some (.slice ta i tc)∧w2.frozen? ⟨gi,2,none⟩=false∧RtI w (w2.setCell ⟨gi,2,none⟩ (.slice (some ⟨g,0,none⟩) (i+1) cap)) gi N f (some ⟨g,0,none⟩) cap ts (cs++(tbC (ts i).cl (ts i).C gv nv).toList) (i+1):=by
 have e2:=own_off h.own h.im (by decide)
 have g2:w2.heap[gi]?=_:=(Fr.ofGrown hgrow).at h.im (fun hm=>e2 _ (Option.mem_toList.1 hm) rfl)
 have hN:NoRows wr (.slice ta i tc:Value).ownBlock.toList:=fun q hq cs' ty fr hc=>by
  obtain ⟨cs2,hc2⟩:=own_ty h.own (Option.mem_toList.1 hq)
  rw [hc] at hc2
  simp at hc2
  rw [hc2.2.1];decide
 have hN2:NoRows w2 [gi]:=fun q hq cs' ty fr hc=>by
  rw [List.mem_singleton.1 hq,g2] at hc
  simp at hc
  rw [←hc.2.1];decide
 have hsz:(w2.setCell ⟨gi,2,none⟩ (.slice (some ⟨g,0,none⟩) (i+1) cap)).heap.size=w2.heap.size:=by simp [World.setCell]
 have hmv:∀ {t:TabN} {a b:Value},TRws wr wr.heap.size t a b→TRws (w2.setCell ⟨gi,2,none⟩ (.slice (some ⟨g,0,none⟩) (i+1) cap)) (w2.setCell ⟨gi,2,none⟩ (.slice (some ⟨g,0,none⟩) (i+1) cap)).heap.size t a b:=fun ht =>
  (ht.fr (Fr.ofGrown hgrow) hN (Nat.le_refl _)).fr (Fr.ofSet _ _ _ _) hN2 (by rw [hsz];exact hgrow.size)
 refine ⟨by rw [cell_of_row _ _ _ _ _ _ g2];rfl,frozen_of_row _ _ _ _ _ g2,(h.fr.grown hgrow (fun k hk=>Or.inr (h.own.lt k hk).1)).set (Or.inl (by simp)) _ _,by rw [heap_setCell_same _ _ _ _ _ _ g2];rfl,h.hgi,?_,fun j hj=>?_⟩
 ·exact (Fr.ofSet _ _ _ _).own ho (fun q hq=>by simpa using own_off ho g2 (by decide) q hq)
 ·have hcl:cs.length=i * 259:=h.own.1
  by_cases hji:j < i
  ·obtain ⟨gv',nv',h1,h2⟩:=h.rows j hji
   refine ⟨gv',nv',fun k hk=>?_,hmv h2⟩
   rw [List.getElem?_append_left (by rw [hcl];omega),h1 k hk]
  ·have hje:j=i:=by omega
   subst hje
   refine ⟨gv,nv,fun k hk=>?_,hmv hr⟩
   rw [List.getElem?_append_right (by rw [hcl];omega),hcl,Nat.add_sub_cancel_left,Array.getElem?_toList]
theorem RtI.tbs {g0:Nat} (h:RtI w wr gi N f (some ⟨g0,0,none⟩) tc ts cs i):Tbs wr wr.heap.size g0 i ts:=by
 have ho:=h.own
 refine ⟨fun j hj=>?_,(ho.lt g0 rfl).2⟩
 obtain ⟨gv,nv,h1,h2⟩:=h.rows j hj
 refine ⟨gv,nv,fun k v hv=>?_,h2⟩
 have hk:k < 259:=by
  have:=(List.getElem?_eq_some_iff.1 hv).1
  rwa [Array.length_toList,tbC_size] at this
 have h3:=ho.cells (g:=g0) rfl (j * 259+k) v (by rw [h1 k hk];rwa [Array.getElem?_toList] at hv)
 rwa [add0] at h3
end
end Mc
end Go.Proofs.YtobfpgoepaeknaaGreat
namespace Go.Proofs.YtobfpgoepaeknaaGreat
namespace Mc
open Go.RowKit
theorem rows_of {w w':World} {t:ByteArray} (ht:TOk t 0) {gv nv:Value} (hg:BR w' w.heap.size gv ((List.range (tabAt t 0).S).map (tabAt t 0).gr)) (hn:NR w' w.heap.size nv ((List.range ((tabAt t 0).S * (tabAt t 0).C)).map fun k=>bt t (258+bt t 0+k))):TRws w' w'.heap.size (tabAt t 0) gv nv:=by
 refine ⟨ht.ok,_,_,own_less hg (Nat.zero_le _),NR.less hn (Nat.zero_le _),fun q hq=>(hg.lt q hq).2,fun q hq=>(hn.lt q hq).2,by simp,fun q hq=>?_,by simp,fun q c hq hc=>?_⟩
 ·rw [List.getD_eq_getElem?_getD,List.getElem?_map,List.getElem?_range hq];rfl
 ·have h1:(q+1) * (tabAt t 0).C≤(tabAt t 0).S * (tabAt t 0).C:=Nat.mul_le_mul_right _ hq
  rw [Nat.add_mul,Nat.one_mul] at h1
  rw [List.getD_eq_getElem?_getD,List.getElem?_map,List.getElem?_range (by omega)]
  show bt t (258+bt t 0+(q * bt t (0+1)+c))=bt t (0+258+bt t 0+(q * bt t (0+1)+c))
  rw [Nat.zero_add 258]
theorem setRow_alloc1 (w:World) (A B:Array Value) (t:TypeId):(w.alloc (Obj.cells A t)).setRow w.heap.size B=w.alloc (Obj.cells B t):=by
 simp only [World.setRow,World.alloc]
 congr 1
 apply Array.ext_getElem?
 intro i
 rw [Array.getElem?_modify,Array.getElem?_push,Array.getElem?_push]
 by_cases h:i=w.heap.size
 ·subst h;simp
 ·simp [h,Ne.symm h]
theorem RtI.pushC {w wr w2:World} {gi N:Nat} {f:ByteArray} {ta:Option Addr} {tc:Nat} {ts:Nat→TabN} {cs:List Value} {i:Nat} (h:RtI w wr gi N f ta tc ts cs i) {g cap:Nat} {gv nv:Value} {c0:Array Value} (hr:TRws wr wr.heap.size (ts i) gv nv) (hc:tbC (ts i).cl (ts i).C gv nv=c0) (hgrow:wr.grownBy w2 (.slice ta i tc:Value).ownBlock) (ho:w2.ownsRow w.heap.size 47 259 (.slice (some ⟨g,0,none⟩) (i+1) cap) (i+1) (cs++c0.toList)) :
  w2.cell? ⟨gi,2,none⟩=some (.slice ta i tc)∧w2.frozen? ⟨gi,2,none⟩=false∧RtI w (w2.setCell ⟨gi,2,none⟩ (.slice (some ⟨g,0,none⟩) (i+1) cap)) gi N f (some ⟨g,0,none⟩) cap ts (cs++c0.toList) (i+1):=by
 subst hc
 exact h.push hr hgrow ho
theorem ba_empty {t:ByteArray} (h:t.size=0):t=⟨#[]⟩:=by
 cases t with
 | mk d=>congr 1;exact Array.eq_empty_of_size_eq_zero h
section
attribute [local go_sem ↓] Go.wp_at_zero Go.wp_at_succ zvTb wp_ldT wp_bsT
attribute [local go_sem] zcTb_size zcTb_ne aggcells
set_option maxRecDepth 20000 in
set_option maxHeartbeats 2000000 in
theorem readTables_any (w:World) (gi N:Nat) (f x:ByteArray) (p r:Nat) (hi:w.heap[gi]?=some (.cells #[.int .i64 (N:Int),.string f,.slice none 0 0] 76 (0,0))) (hp:p≤x.size) (hx:x.size≤9223372036854775807) (hr:r≤255) :
  Calls Tryz.prog 53 #[.pointer (some ⟨gi,0,none⟩),.string (x.extract p x.size),.int .i64 (r:Int)] w fun e w'=>Fr [gi] w w'∧((TsOk x p r∧e=.returned (.bool true)∧∃ ta tc cs,RtI w w' gi N f ta tc (fun i=>tabAt x (tpos x p i)) cs r)∨(¬TsOk x p r∧e=.returned (.bool false))):=by
 have HS0:=hide (RtI.start (ts:=fun i=>tabAt x (tpos x p i)) hi)
 have hgi:=(Array.getElem?_eq_some_iff.1 hi).1
 have hrI:(r:Int)≤255:=by omega
 have HP:=hide hp
 have HX:=hide hx
 have HRR:=hide hr
 clear hi hp hx hr
 go_enter Tryz.func53,Tryz.ntmps53
 go_wp2_with fail
 go_loopw [1,7] (fun tx ix wr=>∃ (i:Nat) (ta:Option Addr) (tc:Nat) (cs:List Value),tx=.string (x.extract (tpos x p i) x.size)∧ix=.int .i64 (i:Int)∧Hid (i≤r∧(∀ j,j < i→TOk x (tpos x p j))∧RtI w wr gi N f ta tc (fun i=>tabAt x (tpos x p i)) cs i)) (fun _ ix _=>lenLeft r ix)
 case atStart=>exact ⟨0,none,0,[],rfl,rfl,Nat.zero_le _,fun j hj=>by omega,unhide HS0⟩
 case round =>
  clear HS0
  rename World=>wr
  obtain ⟨i,ta,tc,cs,rfl,rfl,HH⟩:=hrel
  obtain ⟨hir,hok,hI⟩:=unhide HH
  clear HH
  have hpl:tpos x p i≤x.size:=tpos_le (unhide HP) i hok
  have hsz:(x.extract (tpos x p i) x.size).size=x.size - tpos x p i:=by rw [ByteArray.size_extract];omega
  by_cases hlt:i < r
  ·have hltI:(i:Int) < (r:Int):=by omega
   have htI:((x.extract (tpos x p i) x.size).size:Int)≤9223372036854775807:=by have:=unhide HX;omega
   have HRD:=hide (TRead_any wr (x.extract (tpos x p i) x.size) (by have:=unhide HX;omega))
   have HTO:Hid (TOk (x.extract (tpos x p i) x.size) 0↔TOk x (tpos x p i)):=by have:=TOk_rest (x:=x) (a:=tpos x p i) (p:=0) hpl;rwa [Nat.add_zero] at this
   have HTT:Hid (tabAt (x.extract (tpos x p i) x.size) 0=tabAt x (tpos x p i)):=by have:=tabAt_rest x (tpos x p i) 0;rwa [Nat.add_zero] at this
   have HNX:Hid ((x.extract (tpos x p i) x.size).extract (tsz (x.extract (tpos x p i) x.size) 0) (x.extract (tpos x p i) x.size).size=x.extract (tpos x p (i+1)) x.size):=by
    show _=_
    rw [ext_ext,tsz_rest,Nat.add_zero];rfl
   have HI:=hide hI
   have HOK:=hide hok
   have HLT:=hide hlt
   have HIR:=hide hir
   have hgr:gi < wr.heap.size:=by have:=hI.le;omega
   clear hir hok hI hlt hpl hsz
   generalize x.extract (tpos x p i) x.size=t at *
   go_wp2_with fail
   refine (unhide HRD).mono ?_
   rintro e w1 ⟨hb1,hrd⟩
   clear HRD
   have HI1:=hide ((unhide HI).below hb1)
   have hg1:gi < w1.heap.size:=by have:=hb1.size;omega
   rcases hrd with ⟨hto,gv,nv,rfl,hg,hn⟩ | ⟨hno,rfl⟩
   ·obtain ⟨a1,k1,rfl⟩:=hg.form
    obtain ⟨a2,k2,rfl⟩:=hn.form
    have hrw:=rows_of hto hg hn
    have HTK:=hide ((unhide HTO).1 hto)
    have hz1:(1:Int)≤((tsz t 0:Nat):Int):=by have:=tsz_pos t 0;omega
    have hz2:((tsz t 0:Nat):Int)≤(t.size:Int):=by have:=hto.size;omega
    have hz3:(0:Int)≤((tsz t 0:Nat):Int):=by omega
    have HSZ:=hide (tbC_size (tabAt t 0).cl (tabAt t 0).C (.slice a1 ((List.range (tabAt t 0).S).map (tabAt t 0).gr).length k1) (.slice a2 ((List.range ((tabAt t 0).S * (tabAt t 0).C)).map fun k=>bt t (258+bt t 0+k)).length k2))
    have HON:=hide (tbC_one a1 a2 ((List.range (tabAt t 0).S).map (tabAt t 0).gr).length ((List.range ((tabAt t 0).S * (tabAt t 0).C)).map fun k=>bt t (258+bt t 0+k)).length k1 k2 (tabAt t 0).cl (tabAt t 0).C)
    generalize ((List.range (tabAt t 0).S).map (tabAt t 0).gr).length=n1 at *
    generalize ((List.range ((tabAt t 0).S * (tabAt t 0).C)).map fun k=>bt t (258+bt t 0+k)).length=n2 at *
    generalize hc0:tbC (tabAt t 0).cl (tabAt t 0).C (.slice a1 n1 k1) (.slice a2 n2 k2)=c0 at *
    have HC0:Hid (tbC (tabAt x (tpos x p i)).cl (tabAt x (tpos x p i)).C (.slice a1 n1 k1) (.slice a2 n2 k2)=c0):=by show _=_;rw [←unhide HTT];exact hc0
    rw [unhide HTT] at hrw
    have HRW:=hide hrw
    have HI2:=hide ((unhide HI1).alloc (.cells c0 47))
    have HTB:Hid (IsTb (w1.alloc (.cells c0 47)).drew (.pointer (some ⟨w1.heap.size,0,none⟩)) c0):=⟨_,rfl,heap_alloc_new _ _,unhide HSZ⟩
    have hT1:=(unhide HTB).has
    have hT2:=(unhide HTB).of
    have hT3:IsTv (.agg c0):=⟨c0,rfl,unhide HSZ⟩
    have HX2:=hide ((unhide HI2).alloc (.cells c0 47)).drew
    have HB2:Hid (Below w1.heap.size w1 ((w1.alloc (.cells c0 47)).alloc (.cells c0 47))):=((Below.refl _ _).alloc (Nat.le_refl _) _).alloc (by simp) _
    have HRW2:Hid (TRws ((w1.alloc (.cells c0 47)).alloc (.cells c0 47)).drew ((w1.alloc (.cells c0 47)).alloc (.cells c0 47)).drew.heap.size (tabAt x (tpos x p i)) (.slice a1 n1 k1) (.slice a2 n2 k2)):=(unhide HRW).fr ((Fr.ofBelow (unhide HB2)).drew) (NoRows.nil _) (by show _≤((w1.alloc (.cells c0 47)).alloc (.cells c0 47)).heap.size;simp;omega)
    have c2:(w1.alloc (.cells c0 47)).cell? ⟨gi,2,none⟩=some (.slice ta i tc):=by rw [cell_of_row _ _ _ _ _ _ (unhide HI2).im];rfl
    have hg2:gi < (w1.alloc (.cells c0 47)).heap.size:=by simp;omega
    have HC2:Hid ((((w1.alloc (.cells c0 47)).alloc (.cells c0 47)).drew).heap[(w1.alloc (.cells c0 47)).heap.size]?=some (.cells c0 47 (0,0))):=heap_alloc_new _ _
    have HWS:Hid (w.heap.size≤(w1.alloc (.cells c0 47)).heap.size):=(unhide HI2).le
    have HI1000:Hid (i≤1000):=by have:=unhide HLT;have:=unhide HRR;show _≤_;omega
    clear hb1 hto hg hn hrw hc0 HI HI1 HTB HB2 HTO HTT
    generalize tsz t 0=z at *
    go_wp2_with (refine store_row rfl 47 _ _ rfl rfl w1.heap.size c0 rfl rfl 47 _ (heap_alloc_new _ _) (by rw [unhide HSZ];exact infoT) (by rw [zcTb_size];exact (unhide HSZ).symm) (unhide HON) ?_;rw [setRow_alloc1])
    generalize w1.alloc (.cells c0 47)=w2 at *
    generalize w1.heap.size=g8 at *
    go_region_law (refine appT (by rfl) _ _ (by rfl) w.heap.size _ i cs (by rfl) (by exact (unhide HX2).own) w2.heap.size c0 (by rfl) (by exact unhide HC2) (unhide HSZ) (unhide HON) (unhide HI1000) (by have:=unhide HWS;simp;omega) (w2.heap.size+1) (by simp) ?_;intro g5 cap5 w8 ho hgrow hlies hlt5;obtain ⟨c9,f9,hP9⟩:=(unhide HX2).pushC (unhide HRW2) (unhide HC0) hgrow ho;have HP9:=hide hP9;clear ho hgrow hlies hP9)
    all_goals
     go_wp2_with fail
     go_roundw
     case rel=>exact ⟨i+1,_,_,_,congrArg Value.string (unhide HNX),by go_num,unhide HLT,fun j hj=>(by
      by_cases e:j=i
      ·rw [e];exact unhide HTK
      ·exact unhide HOK j (by omega)),unhide HP9⟩
     case measure=>have:=unhide HLT;simp [lenLeft,intOf];omega
   ·have HF:Hid (¬TsOk x p r):=fun h=>hno ((unhide HTO).2 (h.1 i (unhide HLT)))
    have HFr:Hid (Fr [gi] w (w1.alloc (.cells zcTb 47))):=((unhide HI1).alloc _).fr
    clear hb1 hno HI HTO HTT HNX
    go_wp2_with (refine store_row rfl 47 _ _ rfl rfl w1.heap.size zcTb rfl rfl 47 _ (heap_alloc_new _ _) (by rw [zcTb_size];exact infoT) rfl (tbC_one _ _ _ _ _ _ _ _) ?_)
    go_ret
    exact ⟨(unhide HFr).row (Or.inr (unhide HI1).le) _,.inr ⟨unhide HF,rfl⟩⟩
  ·have hir2:i=r:=by omega
   subst hir2
   have hltI:¬(i:Int) < (i:Int):=by omega
   have HI:=hide hI
   by_cases ht0:(x.extract (tpos x p i) x.size).size=0
   ·have HT:Hid (TsOk x p i):=⟨hok,by omega⟩
    have ht1:=ba_empty ht0
    rw [ht1]
    clear hir hok hI hlt hpl hsz ht0 ht1
    go_wp2_with fail
    go_ret
    exact ⟨(unhide HI).fr,.inl ⟨unhide HT,rfl,_,_,_,unhide HI⟩⟩
   ·have HF:Hid (¬TsOk x p i):=fun h=>by have:=h.2;omega
    have hne:¬(x.extract (tpos x p i) x.size).toList=[]:=fun e=>by rw [ByteArray.toList_eq] at e;exact ht0 (by have:=congrArg List.length e;rwa [Array.length_toList] at this)
    clear hir hok hI hlt hpl hsz ht0
    generalize x.extract (tpos x p i) x.size=t at *
    go_wp2_with fail
    go_ret
    exact ⟨(unhide HI).fr,.inr ⟨unhide HF,by simpa using hne⟩⟩
end
end Mc
end Go.Proofs.YtobfpgoepaeknaaGreat
namespace Go.Proofs.YtobfpgoepaeknaaGreat
namespace Mc
open Go.RowKit
theorem fcheck_ok {R:Nat} {T:ByteArray}:((fcheck R T).1=0↔T.size≤40∧fscan R T T.size 0 0 0=none)∧((fcheck R T).1=0∨(fcheck R T).1=6):=by
 unfold fcheck
 by_cases h:40 < T.size
 ·rw [if_pos h];simp;omega
 ·rw [if_neg h]
  cases hf:fscan R T T.size 0 0 0 with
  | none=>simp [fans];omega
  | some k=>simp [fans]
def zIm:Array Value:=#[.int .i64 0,.string ⟨#[]⟩,.slice none 0 0]
def imC (N:Nat) (f:ByteArray) (ta:Option Addr) (m tc:Nat):Array Value:=#[.int .i64 (N:Int),.string f,.slice ta m tc]
theorem infoIm:(Tryz.prog.info? 76).map (·.size)=some 3:=by kernel_rfl
def OpA (w':World) (x:ByteArray) (e:Ending):Prop :=
 (ImOk x∧∃ g tc,e=.returned (.tuple #[.agg (imC (bt x 2) (imF x) (some ⟨g,0,none⟩) (bt x 3) tc),.int .i64 0])∧Tbs w' w'.heap.size g (bt x 3) (imT x)) ∨
 (¬ImOk x∧e=.returned (.tuple #[.agg zIm,.int .i64 7]))
theorem two_bytes {t:ByteArray} (hs:t.size=2) (h0:bt t 0=86) (h1:bt t 1=80):t=⟨#[86,80]⟩:=by
 rw [←bt_at t 0 (by omega)] at h0
 rw [←bt_at t 1 (by omega)] at h1
 apply ByteArray.ext
 apply Array.ext
 ·exact hs
 ·intro i hi hi2
  have hi3:i < 2:=by have:t.data.size=2:=hs;omega
  match i,hi3 with
  | 0,_=>exact UInt8.toNat.inj h0
  | 1,_=>exact UInt8.toNat.inj h1
theorem vp_of {x:ByteArray} (hl:5≤x.size) (h0:bt x 0=86) (h1:bt x 1=80):((x.extract 0 2).toList == [86,80])=true:=by
 rw [two_bytes (t:=x.extract 0 2) (by rw [ByteArray.size_extract];omega) (by rw [bt_ext,if_pos (by omega)];exact h0) (by rw [bt_ext,if_pos (by omega)];exact h1)]
 rw [ByteArray.toList_eq]
 rfl
theorem vp_not {x:ByteArray} (h:¬(bt x 0=86∧bt x 1=80)):((x.extract 0 2).toList == [86,80])=false:=by
 refine beq_eq_false_iff_ne.2 fun e=>h ?_
 have e':x.extract 0 2=⟨#[86,80]⟩:=by
  apply ByteArray.ext
  rw [ByteArray.toList_eq] at e
  exact Array.toList_inj.1 e
 have e0:bt (x.extract 0 2) 0=86:=by rw [e'];rfl
 have e1:bt (x.extract 0 2) 1=80:=by rw [e'];rfl
 rw [bt_ext,if_pos (by omega)] at e0 e1
 exact ⟨e0,e1⟩
theorem Tbs.setIm {w w':World} {g m:Nat} {ts:Nat→TabN} (h:Tbs w w.heap.size g m ts) {gi:Nat} {old:Array Value} (hi:w.heap[gi]?=some (.cells old 76 (0,0))) (f:Fr [gi] w w') (hg:g≠gi):Tbs w' w'.heap.size g m ts:=by
 refine ⟨fun j hj=>?_,Nat.lt_of_lt_of_le h.lt f.size⟩
 obtain ⟨gv,nv,h1,h2⟩:=h.at_ j hj
 refine ⟨gv,nv,fun k v hv=>f.cell (h1 k v hv) (by simpa using hg),h2.fr f (fun q hq cs' ty fr hc=>?_) f.size⟩
 rw [List.mem_singleton.1 hq,hi] at hc
 simp at hc
 rw [←hc.2.1];decide
theorem set3_heap {w:World} {g:Nat} {t:TypeId} {a0 b0 c0:Value} (h:w.heap[g]?=some (.cells #[a0,b0,c0] t (0,0))) (a b c:Value):(((w.setCell ⟨g,0,none⟩ a).setCell ⟨g,1,none⟩ b).setCell ⟨g,2,none⟩ c).heap[g]?=some (.cells #[a,b,c] t (0,0)):=by
 have h1:(w.setCell ⟨g,0,none⟩ a).heap[g]?=some (.cells #[a,b0,c0] t (0,0)):=by rw [heap_setCell_same _ _ _ _ _ _ h];rfl
 have h2:((w.setCell ⟨g,0,none⟩ a).setCell ⟨g,1,none⟩ b).heap[g]?=some (.cells #[a,b,c0] t (0,0)):=by rw [heap_setCell_same _ _ _ _ _ _ h1];rfl
 rw [heap_setCell_same _ _ _ _ _ _ h2];rfl
theorem set3_fr (w:World) (g:Nat) (a b c:Value):Fr [g] w (((w.setCell ⟨g,0,none⟩ a).setCell ⟨g,1,none⟩ b).setCell ⟨g,2,none⟩ c) :=
 (((Fr.refl [g] w).set (Or.inl (by simp)) _ _).set (Or.inl (by simp)) _ _).set (Or.inl (by simp)) _ _
section
attribute [local go_sem ↓] Go.wp_at_zero Go.wp_at_succ
set_option maxRecDepth 20000 in
set_option maxHeartbeats 2000000 in
theorem Open_any (w:World) (x:ByteArray) (hx:x.size≤9223372036854775807) :
  Calls Tryz.prog 33 #[.string x] w fun e w'=>Below w.heap.size w w'∧OpA w' x e:=by
 have hxI:(x.size:Int)≤9223372036854775807:=by omega
 have HR1:Hid ((w.alloc (.cells zIm 76)).heap[w.heap.size]?=some (.cells zIm 76 (0,0))):=heap_alloc_new _ _
 have HB1:Hid (Below w.heap.size w (w.alloc (.cells zIm 76))):=(Below.refl _ _).alloc (Nat.le_refl _) _
 by_cases h5:x.size < 5
 ·have hI:(x.size:Int) < 5:=by omega
  have HF:Hid (¬ImOk x):=fun h=>by have:=h.len;omega
  clear h5 hx
  unfold zIm at *
  go_enter Tryz.func33,Tryz.ntmps33
  go_wp2_with fail
  exact bodyPost_ret (v:=.tuple #[.agg zIm,.int .i64 7]) (res_row_tmp (p:=2) (u:=3) (ty:=76) rfl _ _ w.heap.size 76 _ (0,0) _ rfl (unhide HR1) Tryz.underlying76 rfl infoIm _ rfl) rfl ⟨unhide HB1,.inr ⟨unhide HF,rfl⟩⟩
 ·have hI:(5:Int)≤(x.size:Int):=by omega
  by_cases hv:bt x 0=86∧bt x 1=80
  ·have hE:=vp_of (by omega) hv.1 hv.2
   have l2:2 < x.size:=by omega
   have l3:3 < x.size:=by omega
   have l4:4 < x.size:=by omega
   have b2:=bt_at x 2
   have b3:=bt_at x 3
   have b4:=bt_at x 4
   have b2I:((bt x 2:Nat):Int) < 256:=by have:=bt_le x 2;omega
   have b3I:((bt x 3:Nat):Int) < 256:=by have:=bt_le x 3;omega
   have b4I:((bt x 4:Nat):Int) < 256:=by have:=bt_le x 4;omega
   obtain ⟨N,hN⟩:∃ N,bt x 2=N:=⟨_,rfl⟩
   obtain ⟨r,hr⟩:∃ r,bt x 3=r:=⟨_,rfl⟩
   obtain ⟨F,hF⟩:∃ F,bt x 4=F:=⟨_,rfl⟩
   rw [hN] at b2 b2I
   rw [hr] at b3 b3I
   rw [hF] at b4 b4I
   have e5:(5:Int)+(F:Int)=((5+F:Nat):Int):=by omega
   have w5:=wrap_i64 (5+F) (by omega)
   have n5:(((5+F:Nat):Int)).toNat=5+F:=by omega
   have hsc:(16 < (N:Int))∨((N:Int)≤16∧(r:Int) < 1)∨((N:Int)≤16∧1≤(r:Int)∧4 < (r:Int))∨((N:Int)≤16∧1≤(r:Int)∧(r:Int)≤4∧(x.size:Int) < ((5+F:Nat):Int))∨((N:Int)≤16∧1≤(r:Int)∧(r:Int)≤4∧((5+F:Nat):Int)≤(x.size:Int)):=by omega
   rcases hsc with i1 | ⟨i1,i2⟩ | ⟨i1,i2,i3⟩ | ⟨i1,i2,i3,i4⟩ | ⟨i1,i2,i3,i4⟩
   iterate 4
    ·have HF:Hid (¬ImOk x):=fun h=>by have:=h.n;have:=h.r1;have:=h.r2;have:=h.fl;omega
     clear h5 hx hv hN hr hF
     unfold zIm at *
     generalize 5+F=y at *
     go_enter Tryz.func33,Tryz.ntmps33
     go_wp2_with fail
     exact bodyPost_ret (v:=.tuple #[.agg zIm,.int .i64 7]) (res_row_tmp (p:=2) (u:=3) (ty:=76) rfl _ _ w.heap.size 76 _ (0,0) _ rfl (unhide HR1) Tryz.underlying76 rfl infoIm _ rfl) rfl ⟨unhide HB1,.inr ⟨unhide HF,rfl⟩⟩
   have hy0:(5:Int)≤((5+F:Nat):Int):=by omega
   have himf:imF x=x.extract 5 (5+F):=by unfold imF;rw [hF]
   have hfs:(x.extract 5 (5+F)).size=F:=by rw [ByteArray.size_extract];omega
   have HCF:=hide (fun W=>checkFormula_any W (x.extract 5 (5+F)) r (by omega) (by omega))
   obtain ⟨hfc,hfc2⟩:=fcheck_ok (R:=r) (T:=x.extract 5 (5+F))
   have HRT:=hide (fun W gi hi=>readTables_any W gi N (x.extract 5 (5+F)) x (5+F) r hi (by omega) hx (by omega))
   have HIM:Hid (ImOk x↔fscan r (x.extract 5 (5+F)) (x.extract 5 (5+F)).size 0 0 0=none∧(x.extract 5 (5+F)).size≤40∧TsOk x (5+F) r):=by
    constructor
    ·intro h
     have h1:=h.fm
     have h2:=h.ts
     have h3:=h.f2
     rw [himf,hr] at h1
     rw [hF,hr] at h2
     rw [hF] at h3
     exact ⟨h1,by rw [hfs];exact h3,h2⟩
    ·rintro ⟨h1,h2,h3⟩
     rw [hfs] at h2
     refine ⟨by omega,hv.1,hv.2,by omega,by omega,by omega,?_,by omega,by omega,by rw [himf,hr];exact h1,by rw [hF,hr];exact h3⟩
     rw [hF]
     cases F with
     | zero=>rw [hfs] at h1;unfold fscan at h1;rw [if_pos (Or.inr (by decide))] at h1;cases h1
     | succ F=>omega
   have HGI:Hid (((w.alloc (.cells zIm 76)).alloc (.cells #[.int .i64 (N:Int),.string (x.extract 5 (5+F)),.slice none 0 0] 76)).heap[w.heap.size+1]?=some (.cells #[.int .i64 (N:Int),.string (x.extract 5 (5+F)),.slice none 0 0] 76 (0,0))):=heap_alloc2_new _ _ _
   have HR2:Hid (((w.alloc (.cells zIm 76)).alloc (.cells #[.int .i64 (N:Int),.string (x.extract 5 (5+F)),.slice none 0 0] 76)).heap[w.heap.size]?=some (.cells zIm 76 (0,0))):=heap_alloc2_old _ _ _
   have HB2:Hid (Below w.heap.size w ((w.alloc (.cells zIm 76)).alloc (.cells #[.int .i64 (N:Int),.string (x.extract 5 (5+F)),.slice none 0 0] 76))):=(unhide HB1).alloc (unhide HB1).size _
   have HS2:Hid (((w.alloc (.cells zIm 76)).alloc (.cells #[.int .i64 (N:Int),.string (x.extract 5 (5+F)),.slice none 0 0] 76)).heap.size=w.heap.size+2):=by show _=_;simp
   have HAN:Hid (imC (bt x 2) (imF x)=imC N (x.extract 5 (5+F))∧bt x 3=r∧imT x=fun i=>tabAt x (tpos x (5+F) i)):=⟨by rw [hN,himf],hr,by funext i;unfold imT;rw [hF]⟩
   have HF40:=hide hfc
   have hr1:1≤r:=by omega
   have HR1':=hide hr1
   clear h5 hx hv hN hr hF himf hfs hfc HR1 HB1 hr1
   unfold zIm at *
   go_enter Tryz.func33,Tryz.ntmps33
   generalize 5+F=y at *
   go_wp2_with fail
   generalize (w.alloc (.cells #[.int .i64 0,.string ⟨#[]⟩,.slice none 0 0] 76)).alloc (.cells #[.int .i64 (N:Int),.string (x.extract 5 y),.slice none 0 0] 76)=w2 at *
   generalize x.extract 5 y=fm at *
   refine (unhide HCF _).mono ?_
   rintro e w3 ⟨rfl,hb3⟩
   have HR3:Hid (w3.heap[w.heap.size]?=some (.cells #[.int .i64 0,.string ⟨#[]⟩,.slice none 0 0] 76 (0,0))):=(hb3.block _ (by have:=unhide HS2;omega)).trans (unhide HR2)
   have HG3:Hid (w3.heap[w.heap.size+1]?=some (.cells #[.int .i64 (N:Int),.string fm,.slice none 0 0] 76 (0,0))):=(hb3.block _ (by have:=unhide HS2;omega)).trans (unhide HGI)
   have HB3:Hid (Below w.heap.size w w3):=(unhide HB2).trans (hb3.mono (by have:=unhide HS2;omega))
   clear hb3 HCF HR2 HGI HB2 HS2
   rcases hfc2 with hc0 | hc6
   ·have HC0:=hide ((unhide HF40).1 hc0)
    have HRT3:=hide (unhide HRT w3 (w.heap.size+1) (unhide HG3))
    rw [hc0]
    clear hc0
    generalize (fcheck r fm).2=k at *
    go_wp2_with fail
    refine (unhide HRT3).mono ?_
    rintro e w4 ⟨hfr,hts⟩
    have HR4:Hid (w4.heap[w.heap.size]?=some (.cells #[.int .i64 0,.string ⟨#[]⟩,.slice none 0 0] 76 (0,0))):=hfr.at (unhide HR3) (by simp)
    have HB4:Hid (Below w.heap.size w w4):=hfr.belowOf (unhide HB3) (unhide HB3).size (by omega)
    clear HRT HRT3 HR3 HB3 HG3
    rcases hts with ⟨hts,rfl,ta,tc,cs,hI⟩ | ⟨hno,rfl⟩
    ·have HIO:=hide ((unhide HIM).2 ⟨(unhide HC0).2,(unhide HC0).1,hts⟩)
     obtain ⟨g0,cap0,he⟩:=own_form hI.own (unhide HR1')
     simp only [Value.slice.injEq,true_and] at he
     obtain ⟨rfl,rfl⟩:=he
     have HIM4:=hide hI.im
     have HTB:=hide hI.tbs
     have HNE:Hid (g0≠w.heap.size):=own_off hI.own (unhide HR4) (by decide) g0 rfl
     clear hts hI hfr
     have y0:w4.cell? ⟨w.heap.size,0,none⟩=some (.int .i64 0):=by rw [cell_of_row _ _ _ _ _ _ (unhide HR4)];rfl
     have z0:w4.frozen? ⟨w.heap.size,0,none⟩=false:=frozen_of_row _ _ _ _ _ (unhide HR4)
     have y1:w4.cell? ⟨w.heap.size,1,none⟩=some (.string ⟨#[]⟩):=by rw [cell_of_row _ _ _ _ _ _ (unhide HR4)];rfl
     have z1:w4.frozen? ⟨w.heap.size,1,none⟩=false:=frozen_of_row _ _ _ _ _ (unhide HR4)
     have y2:w4.cell? ⟨w.heap.size,2,none⟩=some (.slice none 0 0):=by rw [cell_of_row _ _ _ _ _ _ (unhide HR4)];rfl
     have z2:w4.frozen? ⟨w.heap.size,2,none⟩=false:=frozen_of_row _ _ _ _ _ (unhide HR4)
     go_wp2_with (refine wpList_load_row rfl 76 _ rfl (w.heap.size+1) rfl 76 _ (0,0) _ (unhide HIM4) Tryz.underlying76 rfl infoIm ?_)
     refine bodyPost_ret (res_row_tmp (p:=2) (u:=3) (ty:=76) rfl _ _ w.heap.size 76 _ (0,0) _ rfl (set3_heap (unhide HR4) _ _ _) Tryz.underlying76 rfl infoIm _ rfl) rfl ?_
     refine ⟨(set3_fr _ w.heap.size _ _ _).belowOf (unhide HB4) (unhide HB4).size (Nat.le_refl _),.inl ⟨unhide HIO,g0,tc,by rw [(unhide HAN).1,(unhide HAN).2.1];rfl,?_⟩⟩
     rw [(unhide HAN).2.1,(unhide HAN).2.2]
     exact (unhide HTB).setIm (unhide HR4) (set3_fr _ _ _ _ _) (unhide HNE)
    ·have HF:Hid (¬ImOk x):=fun h=>hno ((unhide HIM).1 h).2.2
     clear hno hfr
     have y0:w4.cell? ⟨w.heap.size,0,none⟩=some (.int .i64 0):=by rw [cell_of_row _ _ _ _ _ _ (unhide HR4)];rfl
     have z0:w4.frozen? ⟨w.heap.size,0,none⟩=false:=frozen_of_row _ _ _ _ _ (unhide HR4)
     have y1:w4.cell? ⟨w.heap.size,1,none⟩=some (.string ⟨#[]⟩):=by rw [cell_of_row _ _ _ _ _ _ (unhide HR4)];rfl
     have z1:w4.frozen? ⟨w.heap.size,1,none⟩=false:=frozen_of_row _ _ _ _ _ (unhide HR4)
     have y2:w4.cell? ⟨w.heap.size,2,none⟩=some (.slice none 0 0):=by rw [cell_of_row _ _ _ _ _ _ (unhide HR4)];rfl
     have z2:w4.frozen? ⟨w.heap.size,2,none⟩=false:=frozen_of_row _ _ _ _ _ (unhide HR4)
     go_wp2_with fail
     exact bodyPost_ret (v:=.tuple #[.agg zIm,.int .i64 7]) (res_row_tmp (p:=2) (u:=3) (ty:=76) rfl _ _ w.heap.size 76 _ (0,0) _ rfl (set3_heap (unhide HR4) _ _ _) Tryz.underlying76 rfl infoIm _ rfl) rfl ⟨(set3_fr _ w.heap.size _ _ _).belowOf (unhide HB4) (unhide HB4).size (Nat.le_refl _),.inr ⟨unhide HF,rfl⟩⟩
   ·have HF:Hid (¬ImOk x):=fun h=>by
     have h1:=(unhide HIM).1 h
     have:=(unhide HF40).2 ⟨h1.2.1,h1.1⟩
     omega
    rw [hc6]
    clear hc6 HRT
    generalize (fcheck r fm).2=k at *
    have y0:w3.cell? ⟨w.heap.size,0,none⟩=some (.int .i64 0):=by rw [cell_of_row _ _ _ _ _ _ (unhide HR3)];rfl
    have z0:w3.frozen? ⟨w.heap.size,0,none⟩=false:=frozen_of_row _ _ _ _ _ (unhide HR3)
    have y1:w3.cell? ⟨w.heap.size,1,none⟩=some (.string ⟨#[]⟩):=by rw [cell_of_row _ _ _ _ _ _ (unhide HR3)];rfl
    have z1:w3.frozen? ⟨w.heap.size,1,none⟩=false:=frozen_of_row _ _ _ _ _ (unhide HR3)
    have y2:w3.cell? ⟨w.heap.size,2,none⟩=some (.slice none 0 0):=by rw [cell_of_row _ _ _ _ _ _ (unhide HR3)];rfl
    have z2:w3.frozen? ⟨w.heap.size,2,none⟩=false:=frozen_of_row _ _ _ _ _ (unhide HR3)
    go_wp2_with fail
    exact bodyPost_ret (v:=.tuple #[.agg zIm,.int .i64 7]) (res_row_tmp (p:=2) (u:=3) (ty:=76) rfl _ _ w.heap.size 76 _ (0,0) _ rfl (set3_heap (unhide HR3) _ _ _) Tryz.underlying76 rfl infoIm _ rfl) rfl ⟨(set3_fr _ w.heap.size _ _ _).belowOf (unhide HB3) (unhide HB3).size (Nat.le_refl _),.inr ⟨unhide HF,rfl⟩⟩
  ·have hE:=vp_not hv
   have HF:Hid (¬ImOk x):=fun h=>hv ⟨h.b0,h.b1⟩
   clear h5 hx hv
   unfold zIm at *
   go_enter Tryz.func33,Tryz.ntmps33
   go_wp2_with fail
   exact bodyPost_ret (v:=.tuple #[.agg zIm,.int .i64 7]) (res_row_tmp (p:=2) (u:=3) (ty:=76) rfl _ _ w.heap.size 76 _ (0,0) _ rfl (unhide HR1) Tryz.underlying76 rfl infoIm _ rfl) rfl ⟨unhide HB1,.inr ⟨unhide HF,rfl⟩⟩
end
end Mc
end Go.Proofs.YtobfpgoepaeknaaGreat
namespace Go.Proofs.YtobfpgoepaeknaaGreat
namespace Mc
open Go.RowKit
theorem below_tr {w w1 w2:World} (h:Below w.heap.size w w1) (k:Below w1.heap.size w1 w2):Below w.heap.size w w2:=h.trans (k.mono h.size)
theorem tabA_tbC (cl:Nat→Nat) (C:Nat) (gv nv:Value):tabA cl C gv nv=tbC cl C gv nv:=by
 unfold tabA tbC rowN ncs midN
 simp [Function.comp_def]
def tbS (t:TabN):ByteArray:=strN (layTab t.S t.C t.cl t.gr t.nx)
theorem tab_ok {L:List Nat→Prop} {S C:Nat} {nx:Nat→Nat→Nat} {gr:Nat→Bool} {cl:Nat→Nat} {nc:Nat→Nat→Nat} (h:TabOf L S C nx gr cl nc):TabN.Ok ⟨S,C,cl,gr,nc⟩ :=
 ⟨h.dfa.pos,Nat.lt_of_le_of_lt (Nat.zero_le _) (h.cols.lt 0 (by omega)),h.sle,h.cle,h.cols.lt,fun q c hq hc=>h.nc_lt hq hc⟩
theorem flat_getD (C:Nat) (nc:Nat→Nat→Nat):∀ (S q c:Nat),q < S→c < C→((List.range S).flatMap (fun i=>(List.range C).map (nc i))).getD (q * C+c) 0=nc q c
 | 0,q,c,hq,_=>by omega
 | S+1,q,c,hq,hc=>by
  rw [List.range_succ,List.flatMap_append]
  by_cases h:q < S
  ·have h1:(q+1) * C≤S * C:=Nat.mul_le_mul_right _ h
   rw [Nat.add_mul,Nat.one_mul] at h1
   rw [List.getD_eq_getElem?_getD,List.getElem?_append_left (by rw [flat_len];omega),←List.getD_eq_getElem?_getD]
   exact flat_getD C nc S q c h hc
  ·have:q=S:=by omega
   subst this
   rw [List.getD_eq_getElem?_getD,List.getElem?_append_right (by rw [flat_len];omega),flat_len,Nat.add_sub_cancel_left]
   simp [hc]
theorem rows_made {L:List Nat→Prop} {S C:Nat} {nx:Nat→Nat→Nat} {gr:Nat→Bool} {cl:Nat→Nat} {nc:Nat→Nat→Nat} (h:TabOf L S C nx gr cl nc) {w':World} {B:Nat} {gv nv:Value} (hg:BRow w' B gv ((List.range S).map gr)) (hn:NRow w' B nv ((List.range S).flatMap (fun i=>(List.range C).map (nc i)))):TRws w' w'.heap.size ⟨S,C,cl,gr,nc⟩ gv nv:=by
 refine ⟨tab_ok h,(List.range S).map gr,(List.range S).flatMap (fun i=>(List.range C).map (nc i)),own_less hg (Nat.zero_le _),NR.less hn (Nat.zero_le _),fun q hq=>(World.ownsRow.lt hg q hq).2,fun q hq=>(World.ownsRow.lt hn q hq).2,by simp,fun q hq=>?_,flat_len _ _ _,fun q c hq hc=>flat_getD _ _ _ _ _ hq hc⟩
 rw [List.getD_eq_getElem?_getD,List.getElem?_map,List.getElem?_range hq];rfl
theorem RtI.to {w wr:World} {gi N:Nat} {f:ByteArray} {ta:Option Addr} {tc:Nat} {ts ts':Nat→TabN} {cs:List Value} {i:Nat} (h:RtI w wr gi N f ta tc ts cs i) (he:∀ j,j < i→ts' j=ts j):RtI w wr gi N f ta tc ts' cs i:=⟨h.fr,h.im,h.hgi,h.own,fun j hj=>by rw [he j hj];exact h.rows j hj⟩
theorem appTq {ops:Array Oper} {rest:List Oper} {o:Oper} {a:Act} {W:World} {Q:Exit→Act→World→Prop} (hgd:o.guard=none) (s x:Operand)
  (ho:o.op=.call { callee:=.builtin .append,args:=#[s,x],argTypes:=#[74,74] }) (B:Nat) (v:Value) (n:Nat) (xs:List Value) (hs:a.eval s=v) (hown:W.ownsRow B 47 259 v n xs) (g0:Nat) (cs:Array Value)
  (hx:a.eval x=.slice (some ⟨g0,0,none⟩) 1 1) (hc:W.heap[g0]?=some (.cells cs 47 (0,0))) (hsz:cs.size=259) (h1:cs.all (·.oneCell')=true) (hlen:n≤1000) (hB:B≤W.heap.size) (H:Nat) (hH:W.heap.size=H)
  (h:∀ g cap w',w'.ownsRow B 47 259 (.slice (some ⟨g,0,none⟩) (n+1) cap) (n+1) (xs++cs.toList)→W.grownBy w' v.ownBlock→(v.ownBlock=some g∨g=H)→g < w'.heap.size→wpList Tryz.prog ops Q rest (a.put o.dst (.slice (some ⟨g,0,none⟩) (n+1) cap)) w'):wpList Tryz.prog ops Q (o ::rest) a W:=by
 obtain ⟨i,i0,i1,i2,i3⟩:=info_of infoTb
 refine wpList_append_lies W hgd s x 74 ho B 47 i (.agg zcTb) 259 2104 Tryz.underlying74 i0 i1 i2 i3 zcTb_size (by decide) v n xs hs hown ⟨g0,0,none⟩ 1 1 cs.toList hx (by simp [hsz]) (World.news_of_block hc) (fun u hu=>?_) (by decide) (by unfold maxLen;omega) (by omega) hB H hH h
 rw [←Array.all_toList] at h1
 exact List.all_eq_true.1 h1 u hu
theorem bsTq {ops:Array Oper} {rest:List Oper} {o:Oper} {a:Act} {w:World} {Q:Exit→Act→World→Prop} (hgd:o.guard=none) (x:Operand) (ho:o.op=.buildSlice 74 1 #[(0,x)]) (cs:Array Value) (hx:a.eval x=.agg cs) (hs:cs.size=259)
  (h:wpList Tryz.prog ops Q rest (a.put o.dst (.slice (some ⟨w.heap.size,0,none⟩) 1 1)) (w.alloc (.cells cs 47))):wpList Tryz.prog ops Q (o ::rest) a w:=by
 obtain ⟨i,i0,i1,i2,i3⟩:=info_of infoTb
 refine wpList_buildSlice hgd 74 47 1 #[(0,x)] ho cs i _ Tryz.underlying74 i0 i1 (by rw [i2];decide) (by rw [i2];decide) ?_ h
 have:=Great.fill_whole (s:=259) (by decide) [.agg cs] ((Array.range (1 * i.size)).map (zcTb[· % zcTb.size]!)) (fun v hv=>by rw [List.mem_singleton.1 hv];exact hs) (by rw [Array.size_map,Array.size_range,i2];rfl)
 rw [i2] at this ⊢
 simp only [List.map_toArray,List.map_cons,List.map_nil,hx]
 simpa [Value.cells] using this
theorem res_row_tmp2 {P:Program} {fn:Func} {p u v:Tmp} {ty:TypeId} (h:fn.results=#[.cell p ty,.tmp u,.tmp v]) (tmps:Array Value) (w:World) (g:Nat) (t:TypeId) (cs:Array Value) (fr:Nat × Nat) (d:TypeDesc)
  (hp:tmps.getD p undef=.pointer (some ⟨g,0,none⟩)) (hg:w.heap[g]?=some (.cells cs t fr)) (hu:P.underlying ty=some d) (hd:(match d with | .struct _ | .array _ _=>true | _=>false)=true) (hi:(P.info? ty).map (·.size)=some cs.size)
  (x y:Value) (hx:tmps.getD u undef=x) (hy:tmps.getD v undef=y):(results fn tmps).run P w=.ok (.tuple #[.agg cs,x,y]) w:=by
 have e:(results fn tmps).run P w=((asAddr (tmps.getD p undef)).run P w).andThen fun a w₁=>((loadVar ty a).run P w₁).andThen fun z w₂=>.ok (.tuple #[z,tmps.getD u undef,tmps.getD v undef]) w₂:=by
  simp only [results,h]
  simp [Sem.run_bind,Result.andThen]
 rw [e,hp,hx,hy]
 simp [asAddr,run_loadVar_row w g t ty cs fr d hg hu hd hi]
def CpE (p:ByteArray) (n er at_:Int):Prop :=
 (284 < p.size∧er=1∧at_=0) ∨
 (p.size≤284∧¬(0≤n∧n≤16)∧er=4∧at_=0) ∨
 (p.size≤284∧(0≤n∧n≤16)∧¬(1≤(cutL p).length∧(cutL p).length≤4)∧er=5∧at_=0) ∨
 (p.size≤284∧(0≤n∧n≤16)∧(1≤(cutL p).length∧(cutL p).length≤4)∧∃ i:Nat,i < (cutL p).length∧(∀ j,j < i→∃ t,PatA ((cutL p).getD j ByteArray.empty) t 0∧t.size≤1000)∧er≠0∧PatA ((cutL p).getD i ByteArray.empty) ⟨#[]⟩ er∧at_=(i:Int)) ∨
 (p.size≤284∧(0≤n∧n≤16)∧(1≤(cutL p).length∧(cutL p).length≤4)∧(∀ j,j < (cutL p).length→∃ t,PatA ((cutL p).getD j ByteArray.empty) t 0∧t.size≤1000)∧(fcheck (cutL p).length (cutR p)).1=6∧er=6∧at_=((fcheck (cutL p).length (cutR p)).2:Int))
section
variable {p : ByteArray} {n : Int}
theorem CpE.long (h:284 < p.size):CpE p n 1 0:=.inl ⟨h,rfl,rfl⟩
theorem CpE.arg (h:p.size≤284) (hn:¬(0≤n∧n≤16)):CpE p n 4 0:=.inr (.inl ⟨h,hn,rfl,rfl⟩)
theorem CpE.rules (h:p.size≤284) (hn:0≤n∧n≤16) (hl:¬(1≤(cutL p).length∧(cutL p).length≤4)):CpE p n 5 0:=.inr (.inr (.inl ⟨h,hn,hl,rfl,rfl⟩))
theorem CpE.rule (h:p.size≤284) (hn:0≤n∧n≤16) (hl:1≤(cutL p).length∧(cutL p).length≤4) (i:Nat) (er:Int) (hi:i < (cutL p).length) (hb:∀ j,j < i→∃ t,PatA ((cutL p).getD j ByteArray.empty) t 0∧t.size≤1000) (he:er≠0) (hp:PatA ((cutL p).getD i ByteArray.empty) ⟨#[]⟩ er):CpE p n er i:=.inr (.inr (.inr (.inl ⟨h,hn,hl,i,hi,hb,he,hp,rfl⟩)))
theorem CpE.form (h:p.size≤284) (hn:0≤n∧n≤16) (hl:1≤(cutL p).length∧(cutL p).length≤4) (hb:∀ j,j < (cutL p).length→∃ t,PatA ((cutL p).getD j ByteArray.empty) t 0∧t.size≤1000) (hf:(fcheck (cutL p).length (cutR p)).1=6):CpE p n 6 ((fcheck (cutL p).length (cutR p)).2:Int):=.inr (.inr (.inr (.inr ⟨h,hn,hl,hb,hf,rfl,rfl⟩)))
end
theorem CpE.ne {p:ByteArray} {n er at_:Int} (h:CpE p n er at_):er≠0:=by
 rcases h with ⟨_,rfl,_⟩ | ⟨_,_,rfl,_⟩ | ⟨_,_,_,rfl,_⟩ | ⟨_,_,_,_,_,_,he,_⟩ | ⟨_,_,_,_,_,rfl,_⟩
 ·decide
 ·decide
 ·decide
 ·exact he
 ·decide
structure CpO (p:ByteArray) (n:Int) (N:Nat) (ts:Nat→TabN):Prop where
 sz:p.size≤284
 n_:n=(N:Int)
 n16:N≤16
 l1:1≤(cutL p).length
 l4:(cutL p).length≤4
 pat:∀ j,j < (cutL p).length→PatA ((cutL p).getD j ByteArray.empty) (tbS (ts j)) 0
 ok:∀ j,j < (cutL p).length→(ts j).Ok
 form:(fcheck (cutL p).length (cutR p)).1=0
def CmA (w':World) (p:ByteArray) (n:Int) (e:Ending):Prop :=
 (∃ er at_:Int,e=.returned (.tuple #[.agg zIm,.int .i64 er,.int .i64 at_])∧CpE p n er at_) ∨
 (∃ N ts g tc,e=.returned (.tuple #[.agg (imC N (cutR p) (some ⟨g,0,none⟩) (cutL p).length tc),.int .i64 0,.int .i64 0])∧CpO p n N ts∧Tbs w' w'.heap.size g (cutL p).length ts)
theorem tbS_size (t:TabN):(tbS t).size=258+t.S+t.S * t.C:=by
 unfold tbS layTab
 show (((_:List Nat).map UInt8.ofNat).toArray).size=_
 rw [List.size_toArray,List.length_map,List.length_append,List.length_append,List.length_append,flat_len]
 simp
theorem tbS_le {t:TabN} (h:t.Ok):(tbS t).size≤1000:=by
 rw [tbS_size]
 have:t.S * t.C≤24 * 24:=Nat.mul_le_mul h.s2 h.c2
 have:=h.s2
 omega
end Mc
end Go.Proofs.YtobfpgoepaeknaaGreat
