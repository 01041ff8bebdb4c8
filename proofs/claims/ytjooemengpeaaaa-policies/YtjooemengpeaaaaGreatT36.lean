/-
  The document's answer: does a set of terms let a string by?
  The document's answer: alike bytes.
  The document's answer: of each kind of alike bytes the least.
  The document's answer: of each kind of alike bytes the least: the walk.
-/
import Derived.Test.YtjooemengpeaaaaGreatT33
import Derived.Test.YtjooemengpeaaaaGreatT35
import Derived.Test.YtjooemengpeaaaaGreatT18
import Derived.Test.YtjooemengpeaaaaGreatT00
namespace Go.Proofs.YtjooemengpeaaaaGreat
open Go.RowKit
attribute [local go_sem ↓] Go.wp_at_zero Go.wp_at_succ
structure TrC (rs0:List Rn) (U:List (List Nm)):Prop where
 phi:phiR rs0≤121
 wf:WfT rs0
 cl:Closed rs0 U
 l13:U.length≤13
 uz:∀ u∈U,u.length≤200
section
variable {rs0 : List Rn} {U : List (List Nm)} {b c : Nat} {w wr w2 : World} {rs rs1 rs2 : List Rn} {v v' : Value} {X Y : List ByteArray} {A : Lang}
theorem on_j (h:TrC rs0 U) (hc:c < 256) (w:World) (rs:List Rn) (hb:RtS w b rs) (hg:GrowT rs0 rs) (B:Nat) (v:Value) (X:List ByteArray) (hr:SRow w B v X) (hX:VSet rs0 rs U X) :
  Calls Tryz.prog 91 #[.pointer (some ⟨b,0,none⟩),v,.int .i64 (c:Int)] w fun e w'=>∃ v' Y rs',e=.returned v'∧OnJ rs0 U b w rs w' v' Y rs' (derL c (stB rs X)) :=
 on_any h.phi h.cl h.l13 h.uz hc (fun _ _ w hb hg hn=>left_num h.phi h.wf hc w hb hg hn) w rs hb hg B v X hr hX
theorem on_c (h:TrC rs0 U) (hc:c < 256) (w:World) (rs:List Rn) (hb:RtS w b rs) (hg:GrowT rs0 rs) (B:Nat) (v:Value) (X:List ByteArray) (hr:SRow w B v X) (hX:VSet rs0 rs U X) :
  Calls Tryz.prog 91 #[.pointer (some ⟨b,0,none⟩),v,.int .i64 (c:Int)] w fun e w'=>∃ v' Y rs',e=.returned v'∧OnI rs0 U b w rs w' v' Y rs' (derL c (stB rs X)) :=
 (on_j h hc w rs hb hg B v X hr hX).mono fun e w1 h1=>by
  obtain ⟨v',Y,rs',h2,h3⟩:=h1
  exact ⟨v',Y,rs',h2,h3.toOnI⟩
theorem VSet.sz (hX:VSet rs0 rs U X) (h:TrC rs0 U):∀ s∈X,s.size≤200:=fun s hs=>by
 have:=h.uz _ (hX.inu s hs).2
 unfold nmS at this
 rwa [List.length_map,bytesN_len] at this
theorem GrowT.few (hg:GrowT rs0 rs) (h:TrC rs0 U):rs.length≤121:=by have:=hg.small;have:=h.phi;omega
theorem ends_c (h:TrC rs0 U) (w:World) (rs:List Rn) (hb:RtS w b rs) (hg:GrowT rs0 rs) (B:Nat) (v:Value) (X:List ByteArray) (hr:SRow w B v X) (hX:VSet rs0 rs U X) :
  Calls Tryz.prog 55 #[.pointer (some ⟨b,0,none⟩),v] w fun e w'=>(∃ y,e=.returned (.bool y)∧(y=true↔stB rs X []))∧Below w.heap.size w w' :=
 ends_any w b rs hb (by have:=hg.few h;omega) B v X hr (by have:=hX.len hg;have:=h.l13;omega) (fun s hs k hk=>(hX.num s hs k hk).nd hg) (fun s hs=>by have:=hX.sz h s hs;omega)
theorem OnI.trans {A':Lang} (h:OnI rs0 U b w rs wr v X rs1 A) (k:OnI rs0 U b wr rs1 w2 v' Y rs2 A'):OnI rs0 U b w rs w2 v' Y rs2 A':=⟨h.fy.trans k.fy,k.rt,k.gr,grow_trans h.ex k.ex,k.row,k.vs,k.eq⟩
theorem OnI.to {A':Lang} (h:OnI rs0 U b w rs wr v X rs1 A) (e:A=A'):OnI rs0 U b w rs wr v X rs1 A':=⟨h.fy,h.rt,h.gr,h.ex,h.row,h.vs,by rw [←e];exact h.eq⟩
theorem OnI.start (hb:RtS w b rs) (hg:GrowT rs0 rs) {B:Nat} (hr:SRow w B v X) (hX:VSet rs0 rs U X):OnI rs0 U b w rs w v X rs (stB rs X):=⟨Fy.refl _ _,hb,hg,⟨[],by simp⟩,hr.zero,hX,rfl⟩
end
structure TrK (rs0:List Rn) (b:Nat) (w:World) (rs:List Rn) (w':World) (rs':List Rn):Prop where
 fy:Fy b w w'
 rt:RtS w' b rs'
 gr:GrowT rs0 rs'
 ex:∃ x,rs'=rs++x
section
variable {rs0 : List Rn} {U : List (List Nm)} {b : Nat} {w wr w2 : World} {rs rs1 rs2 : List Rn} {v : Value} {X : List ByteArray} {A : Lang}
theorem TrK.refl (hb:RtS w b rs) (hg:GrowT rs0 rs):TrK rs0 b w rs w rs:=⟨Fy.refl _ _,hb,hg,⟨[],by simp⟩⟩
theorem TrK.trans (h:TrK rs0 b w rs wr rs1) (k:TrK rs0 b wr rs1 w2 rs2):TrK rs0 b w rs w2 rs2:=⟨h.fy.trans k.fy,k.rt,k.gr,grow_trans h.ex k.ex⟩
theorem TrK.below (h:TrK rs0 b w rs wr rs1) (k:Below wr.heap.size wr w2):TrK rs0 b w rs w2 rs1:=⟨h.fy.trans (Fy.ofBelow k (RtS_lt h.rt)),RtS_below h.rt k,h.gr,h.ex⟩
theorem OnI.trk (h:OnI rs0 U b w rs wr v X rs1 A):TrK rs0 b w rs wr rs1:=⟨h.fy,h.rt,h.gr,h.ex⟩
theorem TrK.set (k:TrK rs0 b w rs wr rs1) (hg:GrowT rs0 rs) (hX:VSet rs0 rs U X):VSet rs0 rs1 U X∧stB rs1 X=stB rs X:=by
 obtain ⟨x,hx⟩:=k.ex
 rw [hx]
 exact ⟨hX.grow x,stB_app hg hX x⟩
end
set_option maxRecDepth 20000 in
set_option maxHeartbeats 2000000 in
theorem lets_any {rs0:List Rn} {U:List (List Nm)} (hT:TrC rs0 U) {b:Nat} (w:World) (rs:List Rn) (hb:RtS w b rs) (hg:GrowT rs0 rs) (B:Nat) (v:Value) (X:List ByteArray) (hr:SRow w B v X) (hX:VSet rs0 rs U X) (s:ByteArray) (hs:s.size≤9223372036854775807) :
  Calls Tryz.prog 153 #[.pointer (some ⟨b,0,none⟩),v,.string s] w fun e w'=>∃ y rs',e=.returned (.bool y)∧(y=true↔derS (bytesN s) (stB rs X) [])∧TrK rs0 b w rs w' rs':=by
 obtain ⟨xa,xc,rfl⟩:=hr.form
 have hsI:(s.size:Int)≤9223372036854775807:=by omega
 have HT:=hide hT
 have H0:=hide (OnI.start hb hg hr hX)
 clear hT hb hg hr hX hs
 go_enter Tryz.func153,Tryz.ntmps153
 go_wp2_with fail
 go_loopw [1,7] (fun vx ix wr=>∃ (i:Nat) (va:Option Addr) (n vc:Nat) (Y:List ByteArray) (rs1:List Rn),vx=.slice va n vc∧ix=.int .i64 (i:Int)∧Hid (i≤s.size∧OnI rs0 U b w rs wr (.slice va n vc) Y rs1 (derS ((bytesN s).take i) (stB rs X)))) (fun _ ix _=>s.size - (intOf ix).toNat)
 case atStart=>exact ⟨0,xa,_,xc,X,rs,rfl,rfl,Nat.zero_le _,unhide H0⟩
 case round =>
  clear H0
  rename World=>wr
  obtain ⟨i,va,n,vc,Y,rs1,rfl,rfl,HH⟩:=hrel
  obtain ⟨hi,hI⟩:=unhide HH
  clear HH
  by_cases hlt:i < s.size
  ·have hltI:(i:Int) < (s.size:Int):=by omega
   have hi0:(0:Int)≤(i:Int):=by omega
   have hi1:((i:Int)).toNat=i:=by omega
   have hbI:(s[i].toNat:Int) < 256:=by have:=s[i].toNat_lt;omega
   have HON:=hide (on_c (b:=b) (unhide HT) (show s[i].toNat < 256 from s[i].toNat_lt) wr rs1 hI.rt hI.gr 0 _ Y hI.row hI.vs)
   have HDE:Hid (derL s[i].toNat (stB rs1 Y)=derS ((bytesN s).take (i+1)) (stB rs X)):=by show _=_;rw [hI.eq,bytesN_takeZ s hlt,derS_snoc]
   have HLT:=hide hlt
   have HI:=hide hI
   clear hi hI
   go_wp2_with fail
   refine (unhide HON).mono ?_
   rintro e w1 ⟨v1,Y1,rs2,rfl,h1⟩
   have HI1:=hide ((unhide HI).trans (h1.to (unhide HDE)))
   obtain ⟨va1,vc1,rfl⟩:=h1.row.form
   clear h1 HON HI
   go_wp2_with fail
   go_roundw
   case rel=>exact ⟨i+1,va1,_,vc1,Y1,rs2,rfl,by go_num,unhide HLT,unhide HI1⟩
   case measure=>have:=unhide HLT;simp [intOf];omega
  ·have hi2:i=s.size:=by omega
   subst hi2
   have HEN:=hide (ends_c (b:=b) (unhide HT) wr rs1 hI.rt hI.gr 0 _ Y hI.row hI.vs)
   have HI:=hide hI
   have HTA:Hid ((bytesN s).take s.size=bytesN s):=List.take_of_length_le (by rw [bytesN_len];exact Nat.le_refl _)
   clear hi hI hlt
   go_wp2_with fail
   refine (unhide HEN).mono ?_
   rintro e w1 ⟨⟨y,rfl,hy⟩,hb1⟩
   have HY:Hid (y=true↔derS (bytesN s) (stB rs X) []):=by show _↔_;rw [hy,(unhide HI).eq,unhide HTA]
   have HK:=hide ((unhide HI).trk.below hb1)
   clear hy hb1 HEN HI
   go_wp2_with fail
   go_ret
   exact ⟨y,rs1,rfl,unhide HY,unhide HK⟩
end Go.Proofs.YtjooemengpeaaaaGreat
namespace Go.Proofs.YtjooemengpeaaaaGreat
open Go.RowKit
attribute [local go_sem ↓] Go.wp_at_zero Go.wp_at_succ
theorem add_k (g o k:Nat):(⟨g,o,none⟩:Addr).add k=⟨g,o+k,none⟩:=by unfold Addr.add;split<;>simp_all
theorem rnA_0 (r:Rn):(rnA r).toList[0]?=some (.int .i64 r.kind):=by rw [Array.getElem?_toList];exact (rnA_fields r).1
theorem rnA_5 (r:Rn) {k:Nat} (h:k < 256):(rnA r).toList[5+k]?=some (.bool (r.f k)):=by rw [Array.getElem?_toList];exact get_rnA r k h
set_option maxRecDepth 20000 in
set_option maxHeartbeats 4000000 in
theorem alike_any (w:World) (b:Nat) (rs:List Rn) (hb:RtS w b rs) (hl:rs.length≤1000) (x y:Nat) (hx:x < 256) (hy:y < 256) :
  Calls Tryz.prog 90 #[.pointer (some ⟨b,0,none⟩),.int .i64 (x:Int),.int .i64 (y:Int)] w fun e w'=>(∃ z,e=.returned (.bool z)∧(z=true↔alkB rs x y))∧∃ n,w'=w.drewN n:=by
 have hlI:(rs.length:Int)≤1000:=by omega
 have hxI:(x:Int) < 256:=by omega
 have hyI:(y:Int) < 256:=by omega
 have hx0:(0:Int)≤(x:Int):=by omega
 have hy0:(0:Int)≤(y:Int):=by omega
 have hx1:((x:Int)).toNat=x:=by omega
 have hy1:((y:Int)).toNat=y:=by omega
 have HRT:=hide hb
 have HX:=hide hx
 have HY:=hide hy
 have hbl:=RtS_lt hb
 obtain ⟨vv,hv1,hv2⟩:=hb
 obtain ⟨va,vn,vc,rfl⟩:=own_slice hv2
 have hvn:vn=rs.length:=by
  rcases hv2.2 with ⟨e,h0⟩ | ⟨g,cap,cur,e,_⟩
  ·cases e;exact h0.symm
  ·simp only [Value.slice.injEq] at e;exact e.2.1
 subst hvn
 have c0:w.cell? ⟨b,0,none⟩=some (.slice va rs.length vc):=by rw [cell_of_row _ _ _ _ _ _ hv1];rfl
 clear hl hx hy hv1 hv2
 go_enter Tryz.func90,Tryz.ntmps90
 go_wp2_with fail
 go_loopw [7] (fun ix wr=>∃ i:Nat,ix=.int .i64 (i:Int)∧Hid (i≤rs.length∧(∃ n,wr=w.drewN n)∧∀ (k:Nat) r,k < i→rs[k]?=some r→r.kind=2→r.f x=r.f y)) (fun ix _=>rs.length - (intOf ix).toNat)
 case atStart=>exact ⟨0,rfl,Nat.zero_le _,⟨0,rfl⟩,fun k r hk=>by omega⟩
 case round =>
  rename World=>wr
  obtain ⟨i,rfl,HH⟩:=hrel
  obtain ⟨hi,⟨n,rfl⟩,hall⟩:=unhide HH
  clear HH
  by_cases hlt:i < rs.length
  ·have hiI:(i:Int) < (rs.length:Int):=by omega
   have hi0:(0:Int)≤(i:Int):=by omega
   have hi1:((i:Int)).toNat=i:=by omega
   obtain ⟨r,hr⟩:∃ r,rs[i]?=some r:=⟨_,List.getElem?_eq_getElem hlt⟩
   obtain ⟨g,cap,-,c0',hc⟩:=nd_begin (unhide HRT) hr
   rw [c0] at c0'
   simp only [Option.some.injEq,Value.slice.injEq,true_and] at c0'
   obtain ⟨rfl,rfl⟩:=c0'
   have k0:=hc 0 _ (rnA_0 r)
   have k1:=hc _ _ (rnA_5 r (unhide HX))
   have k2:=hc _ _ (rnA_5 r (unhide HY))
   rw [add_k] at k0 k1 k2
   rw [Nat.add_zero] at k0
   rw [←Nat.add_assoc] at k1 k2
   have hg:g < w.heap.size:=World.block_lt_of_cell? w ⟨g,i * 261,none⟩ k0
   have HLT:=hide hlt
   have HST:Hid ((r.kind=2→r.f x=r.f y)→∀ (k:Nat) r,k < i+1→rs[k]?=some r→r.kind=2→r.f x=r.f y):=fun h k r' hk hr'=>by
    by_cases e:k=i
    ·subst e;rw [hr] at hr';cases hr';exact h
    ·exact hall k r' (by omega) hr'
   have HNO:Hid (r.kind=2→r.f x≠r.f y→¬alkB rs x y):=fun h1 h2 h=>h2 (h r (List.mem_of_getElem? hr) h1)
   clear hi hall hlt hc hr
   by_cases hk:r.kind=2
   ·rw [hk] at k0
    by_cases he:r.f x=r.f y
    ·have HS:=hide (unhide HST (fun _=>he))
     rw [←he] at k2
     clear hk he HST HNO
     generalize r.f x=z at *
     go_wp2_with fail
     go_quiet (fail)
     go_wp2_with fail
     go_roundw
     case rel=>exact ⟨i+1,by go_num,unhide HLT,⟨n+nq,by first | rfl | simp⟩,unhide HS⟩
     case measure=>have:=unhide HLT;simp [intOf];omega
    ·have HF:=hide (unhide HNO hk he)
     obtain ⟨z,hz⟩:∃ z,r.f x=z:=⟨_,rfl⟩
     have hz2:r.f y=!z:=by rw [←hz];cases h1:r.f x<;>cases h2:r.f y<;>simp_all
     rw [hz] at k1
     rw [hz2] at k2
     clear hk he HST HNO hz hz2
     cases z
     all_goals
      go_wp2_with fail
      go_quiet (fail)
      go_wp2_with fail
      go_ret
      exact ⟨⟨false,rfl,by simp;exact unhide HF⟩,n+nq,by first | rfl | simp⟩
   ·have HS:=hide (unhide HST (fun h=>absurd h hk))
    clear HST HNO
    generalize r.kind=kk at *
    go_wp2_with fail
    go_quiet (fail)
    go_wp2_with fail
    go_roundw
    case rel=>exact ⟨i+1,by go_num,unhide HLT,⟨n+nq,by first | rfl | simp⟩,unhide HS⟩
    case measure=>have:=unhide HLT;simp [intOf];omega
  ·have hi2:i=rs.length:=by omega
   subst hi2
   have HA:Hid (alkB rs x y):=fun r hr hk=>by
    obtain ⟨k,hk'⟩:=List.getElem?_of_mem hr
    exact hall k r (List.getElem?_eq_some_iff.1 hk').1 hk' hk
   clear hi hall hlt
   go_wp2_with fail
   go_ret
   exact ⟨⟨true,rfl,by simp;exact unhide HA⟩,n,rfl⟩
end Go.Proofs.YtjooemengpeaaaaGreat
namespace Go.Proofs.YtjooemengpeaaaaGreat
namespace Mc
open Go.RowKit
def kdA (f:Nat→Nat):Array Value:=((List.range 256).map fun i=>Value.int .i64 ((f i:Nat):Int)).toArray
theorem kdA_size (f:Nat→Nat):(kdA f).size=256:=by unfold kdA;simp
theorem kdA_ne (f:Nat→Nat):kdA f≠#[]:=fun e=>by have:=kdA_size f;rw [e] at this;simp at this
theorem kdA_at (f:Nat→Nat) {b:Nat} (hb:b < 256):(kdA f)[b]?=some (.int .i64 ((f b:Nat):Int)):=by
 unfold kdA
 rw [List.getElem?_toArray,List.getElem?_map,List.getElem?_range hb];rfl
theorem kdA_set (f:Nat→Nat) (b x:Nat):(kdA f).setIfInBounds b (.int .i64 ((x:Nat):Int))=kdA (fun j=>if j=b then x else f j):=by
 apply Array.ext_getElem?
 intro i
 rw [Array.getElem?_setIfInBounds]
 by_cases hi:i < 256
 ·have h2:=kdA_at (fun j=>if j=b then x else f j) hi
  rw [h2]
  by_cases e:b=i
  ·subst e
   rw [if_pos rfl,if_pos (by rw [kdA_size];exact hi)]
   simp
  ·rw [if_neg e,kdA_at _ hi]
   have e2:¬i=b:=fun h=>e h.symm
   simp [e2]
 ·have h1:(kdA f)[i]?=none:=Array.getElem?_eq_none (by rw [kdA_size];omega)
  have h2:(kdA fun j=>if j=b then x else f j)[i]?=none:=Array.getElem?_eq_none (by rw [kdA_size];omega)
  rw [h2,h1]
  split
  ·rw [if_neg (by rw [kdA_size];omega)]
  ·rfl
theorem kdA_one (f:Nat→Nat):(kdA f).all (·.oneCell')=true:=by
 unfold kdA
 rw [List.all_toArray,List.all_map,List.all_eq_true]
 intro x _
 rfl
theorem zvKd (w:World):(zeroValue 62).run Tryz.prog w=.ok (.agg (kdA fun _=>0)) w:=by kernel_rfl
theorem infoKd:(Tryz.prog.info? 62).map (·.size)=some 256:=by kernel_rfl
theorem aggcellsT (cs:Array Value):(Value.agg cs).cells=cs:=rfl
def IsKd (w:World) (v:Value) (cs:Array Value):Prop:=∃ g,v=.pointer (some ⟨g,0,none⟩)∧w.heap[g]?=some (.cells cs 62 (0,0))∧cs.size=256
def HasKd (w:World) (v:Value):Prop:=∃ cs,IsKd w v cs
open Classical in
noncomputable def kdOf (w:World) (v:Value):Array Value:=if h:HasKd w v then h.choose else #[]
theorem IsKd.has {w:World} {v:Value} {cs:Array Value} (h:IsKd w v cs):HasKd w v:=⟨cs,h⟩
theorem IsKd.of {w:World} {v:Value} {cs:Array Value} (h:IsKd w v cs):kdOf w v=cs:=by
 have hh:HasKd w v:=⟨cs,h⟩
 unfold kdOf
 rw [dif_pos hh]
 obtain ⟨g,e,h1,-⟩:=hh.choose_spec
 obtain ⟨g',e',h2,-⟩:=h
 rw [e] at e'
 cases e'
 rw [h1] at h2
 simpa using h2
theorem wp_ldKd {d:Option Tmp} {x:Operand} {ty:TypeId} {p:String} {af:Array Edge} {gd:Option (Nat × Bool)} {a:Act} {w:World} {K:Act→World→Prop} {Q:Exit→Act→World→Prop} (h:HasKd w (a.eval x)) :
  Oper.wp Tryz.prog { dst:=d,op:=.load 62 x,type:=ty,pos:=p,after:=af,guard:=gd } a w K Q=K (a.put d (.agg (kdOf w (a.eval x)))) w:=by
 obtain ⟨cs,hcs⟩:=h
 rw [hcs.of]
 obtain ⟨g,hv,hg,hs⟩:=hcs
 unfold Oper.wp execOp
 simp only [hv,Instr.loadAt,Instr.sureAddr,Sem.run_bind,Sem.run_pure,Result.andThen_ok,run_loadVar_row w g _ _ cs _ _ hg Tryz.underlying62 rfl (by rw [hs];exact infoKd)]
 rfl
def blkV:Value→Nat
 | .pointer (some a)=>a.block
 | _=>0
def IsKv (v:Value):Prop:=∃ cs,v=.agg cs∧cs.size=256∧cs.all (·.oneCell')=true
theorem wp_stKd {x y:Operand} {ty:TypeId} {p:String} {af:Array Edge} {gd:Option (Nat × Bool)} {a:Act} {w:World} {K:Act→World→Prop} {Q:Exit→Act→World→Prop} (h:HasKd w (a.eval x)) (h2:IsKv (a.eval y)) :
  Oper.wp Tryz.prog { dst:=none,op:=.store 62 x y,type:=ty,pos:=p,after:=af,guard:=gd } a w K Q=K a (w.setRow (blkV (a.eval x)) (a.eval y).cells):=by
 obtain ⟨old,g,hv,hg,hs⟩:=h
 obtain ⟨cs,hy,hs2,ho⟩:=h2
 unfold Oper.wp execOp
 simp only [hv,hy,Instr.storeAt,Instr.sureAddr,Sem.run_bind,Sem.run_pure,Result.andThen_ok,run_storeVar_row w g _ 62 old cs hg (by rw [hs2];exact infoKd) (by rw [hs,hs2]) ho]
 rfl
structure BtI (w:World) (gk g3:Nat) (wr:World) (va:Option Addr) (vc:Nat) (l:List Nat) (f:Nat→Nat):Prop where
 below:Below w.heap.size w wr
 h3:w.heap.size≤g3
 hk:w.heap.size≤gk
 ne:g3≠gk
 kd:wr.heap[gk]?=some (.cells (kdA f) 62 (0,0))
 rs:wr.heap[g3]?=some (.cells (kdA fun _=>0) 62 (0,0))
 row:NR wr w.heap.size (.slice va l.length vc) l
section
variable {w wr w2 : World} {gk g3 : Nat} {va : Option Addr} {vc : Nat} {l : List Nat} {f : Nat → Nat}
theorem BtI.drewN (h:BtI w gk g3 wr va vc l f) (n:Nat):BtI w gk g3 (wr.drewN n) va vc l f:=⟨below_drewN h.below n,h.h3,h.hk,h.ne,h.kd,h.rs,h.row⟩
theorem BtI.alloc (h:BtI w gk g3 wr va vc l f) (o:Obj):BtI w gk g3 (wr.alloc o) va vc l f:=⟨h.below.alloc h.below.size _,h.h3,h.hk,h.ne,(Fr.ofAlloc wr o).at h.kd (by simp),(Fr.ofAlloc wr o).at h.rs (by simp),(Fr.ofAlloc wr o).own h.row (by simp)⟩
theorem BtI.put (h:BtI w gk g3 wr va vc l f) (b x:Nat):wr.frozen? ⟨gk,b,none⟩=false∧BtI w gk g3 (wr.setCell ⟨gk,b,none⟩ (.int .i64 ((x:Nat):Int))) va vc l (fun j=>if j=b then x else f j):=by
 refine ⟨frozen_of_row _ _ _ _ _ h.kd,h.below.setCell (p:=⟨gk,b,none⟩) h.hk _,h.h3,h.hk,h.ne,?_,(Fr.ofSet _ _ _ _).at h.rs (by simpa using h.ne),(Fr.ofSet _ _ _ _).own h.row (fun q hq=>by simpa using own_off h.row h.kd (by decide) q hq)⟩
 rw [heap_setCell_same _ _ _ _ _ _ h.kd,kdA_set]
theorem BtI.push (h:BtI w gk g3 wr va vc l f) {g cap y:Nat} (hgrow:wr.grownBy w2 (.slice va l.length vc:Value).ownBlock) (ho:w2.ownsRow w.heap.size 3 1 (.slice (some ⟨g,0,none⟩) (l.length+1) cap) (l.length+1) (ncs l++[.int .i64 (y:Int)])):BtI w gk g3 w2 (some ⟨g,0,none⟩) cap (l++[y]) f:=by
 have e1:=own_off h.row h.kd (by decide)
 have e2:=own_off h.row h.rs (by decide)
 refine ⟨h.below.grown hgrow h.below.size (fun q hq=>(World.ownsRow.lt h.row q hq).1),h.h3,h.hk,h.ne,(Fr.ofGrown hgrow).at h.kd (fun hm=>e1 _ (Option.mem_toList.1 hm) rfl),(Fr.ofGrown hgrow).at h.rs (fun hm=>e2 _ (Option.mem_toList.1 hm) rfl),?_⟩
 rw [List.length_append]
 exact NR.of ho
theorem BtI.lk (h:BtI w gk g3 wr va vc l f):gk < wr.heap.size:=(Array.getElem?_eq_some_iff.1 h.kd).1
end
end Mc
end Go.Proofs.YtjooemengpeaaaaGreat
namespace Go.Proofs.YtjooemengpeaaaaGreat
namespace Mc
open Go.RowKit
theorem res_tmp_row {P:Program} {fn:Func} {p u:Tmp} {ty:TypeId} (h:fn.results=#[.tmp u,.cell p ty]) (tmps:Array Value) (w:World) (g:Nat) (t:TypeId) (cs:Array Value) (fr:Nat × Nat) (d:TypeDesc)
  (hp:tmps.getD p undef=.pointer (some ⟨g,0,none⟩)) (hg:w.heap[g]?=some (.cells cs t fr)) (hu:P.underlying ty=some d) (hd:(match d with | .struct _ | .array _ _=>true | _=>false)=true) (hi:(P.info? ty).map (·.size)=some cs.size)
  (x:Value) (hx:tmps.getD u undef=x):(results fn tmps).run P w=.ok (.tuple #[x,.agg cs]) w:=by
 have hp':tmps[p]?.getD undef=.pointer (some ⟨g,0,none⟩):=by simpa using hp
 have hx':tmps[u]?.getD undef=x:=by simpa using hx
 unfold results
 rw [h]
 simp [hp',hx',asAddr,run_loadVar_row w g t ty cs fr d hg hu hd hi]
section
attribute [local go_sem ↓] Go.wp_at_zero Go.wp_at_succ zvKd wp_ldKd wp_stKd
attribute [local go_sem] kdA_size kdA_ne aggcellsT
set_option maxRecDepth 20000 in
set_option maxHeartbeats 4000000 in
theorem tbytes_any (w:World) (b:Nat) (rs:List Rn) (hb:RtS w b rs) (hl:rs.length≤1000) :
  Calls Tryz.prog 52 #[.pointer (some ⟨b,0,none⟩)] w fun e w'=>∃ va vc l f,e=.returned (.tuple #[.slice va l.length vc,.agg (kdA f)])∧Sorted 256 (alkB rs) l f∧Below w.heap.size w w'∧NR w' w.heap.size (.slice va l.length vc) l:=by
 have HRT:=hide hb
 have HL:=hide hl
 have hbl:=RtS_lt hb
 have HB0:Hid (BtI w (w.heap.size+1) w.heap.size ((w.alloc (.cells (kdA fun _=>0) 62)).alloc (.cells (kdA fun _=>0) 62)) none 0 [] (fun _=>0)):=⟨((Below.refl _ _).alloc (Nat.le_refl _) _).alloc (by simp) _,Nat.le_refl _,by omega,by omega,heap_alloc2_new _ _ _,heap_alloc2_old _ _ _,NR.nil _ _⟩
 clear hb hl
 go_enter Tryz.func52,Tryz.ntmps52
 go_wp2_with fail
 generalize ((w.alloc (.cells (kdA fun _=>0) 62)).alloc (.cells (kdA fun _=>0) 62))=w1 at *
 generalize hgk:w.heap.size+1=gk at *
 generalize hg3:w.heap.size=g3 at HB0 ⊢
 clear hgk
 have HG3:=hide hg3
 clear hg3
 go_loopw [4,6] (fun vx bx wr=>∃ (c:Nat) (va:Option Addr) (vc:Nat) (l:List Nat) (f:Nat→Nat),vx=.slice va l.length vc∧bx=.int .i64 (c:Int)∧Hid (c≤256∧l.length≤c∧Sorted c (alkB rs) l f∧BtI w gk g3 wr va vc l f)) (fun _ bx _=>256 - (intOf bx).toNat)
 case atStart=>exact ⟨0,none,0,[],fun _=>0,rfl,rfl,by show 0≤256;decide,Nat.le_refl _,Sorted.nil _ _,unhide HB0⟩
 case round =>
  clear HB0
  rename World=>wr
  obtain ⟨c,va,vc,l,f,rfl,rfl,HH⟩:=hrel
  obtain ⟨hc,hlc,hS,hI⟩:=unhide HH
  clear HH
  by_cases hlt:c < 256
  ·have hcI:(c:Int) < 256:=by omega
   have hc0:(0:Int)≤(c:Int):=by omega
   have hc1:((c:Int)).toNat=c:=by omega
   have hlI:(l.length:Int)≤256:=by omega
   have hgk:=hI.lk
   have k0:wr.cell? ⟨gk,c,none⟩=some (.int .i64 ((f c:Nat):Int)):=by rw [cell_of_row _ _ _ _ _ _ hI.kd];exact kdA_at f hlt
   obtain ⟨hz,hI1⟩:=hI.put c l.length
   have HI1:=hide hI1
   have HS:=hide hS
   have HLC:=hide hlc
   have HLT:=hide hlt
   clear hc hlc hS hI hI1 hlt
   generalize f c=f0 at *
   go_wp2_with fail
   generalize hf1:(fun j=>if j=c then l.length else f j)=f1 at *
   have HF1:Hid (f1 c=l.length∧∀ a,a < c→f1 a=f a):=by rw [←hf1];exact ⟨by simp,fun a ha=>by simp;omega⟩
   clear hf1 k0 hz hgk
   generalize wr.setCell ⟨gk,c,none⟩ (.int .i64 (l.length:Int))=w2 at *
   go_loopw [7] (fun ix wy=>∃ i:Nat,ix=.int .i64 (i:Int)∧Hid (i≤l.length∧BtI w gk g3 wy va vc l f1∧∀ j,j < i→¬alkB rs c (l.getD j 0))) (fun ix _=>l.length - (intOf ix).toNat)
   case atStart=>exact ⟨0,rfl,Nat.zero_le _,unhide HI1,fun j hj=>by omega⟩
   case round =>
    clear HI1
    rename World=>wy
    obtain ⟨i,rfl,HH⟩:=hrel
    obtain ⟨hi,hI,hno⟩:=unhide HH
    clear HH
    have hgk:=hI.lk
    by_cases hlti:i < l.length
    ·have hiI:(i:Int) < (l.length:Int):=by omega
     have hi0:(0:Int)≤(i:Int):=by omega
     have hi1:((i:Int)).toNat=i:=by omega
     obtain ⟨gl,cl,he,c1⟩:=hI.row.at hlti
     simp only [Value.slice.injEq,true_and] at he
     obtain ⟨rfl,rfl⟩:=he
     have hgl:gl < wy.heap.size:=(World.ownsRow.lt hI.row gl rfl).2
     have hh:=(unhide HS).head i hlti
     have hli:l.getD i 0 < 256:=by have:=unhide HLT;omega
     have HAL:=hide (alike_any wy b rs (RtS_below (unhide HRT) hI.below) (unhide HL) c (l.getD i 0) (unhide HLT) hli)
     have HI:=hide hI
     have HNO:=hide hno
     have HLI:=hide hlti
     have k0:wy.cell? ⟨gk,c,none⟩=some (.int .i64 ((f1 c:Nat):Int)):=by rw [cell_of_row _ _ _ _ _ _ hI.kd];exact kdA_at f1 (unhide HLT)
     have hz:=frozen_of_row wy gk c _ _ hI.kd
     clear hi hI hno hlti hh hli
     generalize hy:l.getD i 0=y at *
     have HY:=hide hy
     clear hy
     go_wp2_with fail
     refine (unhide HAL).mono ?_
     rintro e w3 ⟨⟨z,rfl,hzz⟩,n,rfl⟩
     clear HAL
     cases z
     ·have HNO2:Hid (∀ j,j < i+1→¬alkB rs c (l.getD j 0)):=fun j hj=>by
       by_cases e:j=i
       ·subst e
        rw [unhide HY]
        exact fun h=>by simpa using hzz.2 h
       ·exact unhide HNO j (by omega)
      clear hzz
      go_wp2_with fail
      go_roundw
      case rel=>exact ⟨i+1,by go_num,unhide HLI,(unhide HI).drewN n,unhide HNO2⟩
      case measure=>have:=unhide HLI;simp [intOf];omega
     ·have HALK:Hid (alkB rs c (l.getD i 0)):=by rw [unhide HY];exact hzz.1 rfl
      obtain ⟨hz3,hI3⟩:=((unhide HI).drewN n).put c i
      have HI3:=hide hI3
      have hne:¬(i:Int)=(l.length:Int):=by omega
      have k3:((wy.drewN n).setCell ⟨gk,c,none⟩ (.int .i64 ((i:Nat):Int))).cell? ⟨gk,c,none⟩=some (.int .i64 (i:Int)):=by rw [cell_of_row _ _ _ _ _ _ hI3.kd,kdA_at _ (unhide HLT)];simp
      have hgk3:=hI3.lk
      clear hzz hI3
      go_wp2_with fail
      go_roundw
      case rel=>exact ⟨c+1,_,_,l,(fun j=>if j=c then i else f1 j),rfl,by go_num,unhide HLT,by have:=unhide HLC;omega,(unhide HS).old (alk_eqv rs) (unhide HLI) (unhide HALK) (fun a ha=>by have:=(unhide HF1).2 a ha;show (if a=c then i else f1 a)=f a;rw [if_neg (by omega)];exact this) (if_pos rfl),unhide HI3⟩
      case measure=>have:=unhide HLT;simp [intOf];omega
    ·have hi2:i=l.length:=by omega
     subst hi2
     have hiI:¬(l.length:Int) < (l.length:Int):=by omega
     have k0:wy.cell? ⟨gk,c,none⟩=some (.int .i64 (l.length:Int)):=by rw [cell_of_row _ _ _ _ _ _ hI.kd,kdA_at f1 (unhide HLT),(unhide HF1).1]
     have HI:=hide hI
     have HNO:=hide hno
     have HXA:=hide (hI.alloc (Obj.cells #[.int .i64 (c:Int)] 3))
     have HSZ:Hid (w.heap.size≤wy.heap.size):=hI.below.size
     clear hi hI hno hlti
     go_wp2_with (at_builtin;refine app1 rfl (.tmp 40) (.tmp 42) rfl w.heap.size _ l rfl (unhide HXA).row wy.heap.size c rfl (new_cell rfl) (by have:=unhide HLC;have:=unhide HLT;omega) (by have:=unhide HSZ;simp;omega) (wy.heap.size+1) (by simp) ?_;intro g5 cap5 w8 ho hgrow hlies hlt5;have HP9:=hide ((unhide HXA).push hgrow ho);clear ho hgrow hlies)
     go_roundw
     case rel=>exact ⟨c+1,some ⟨g5,0,none⟩,cap5,l++[c],f1,by simp,by go_num,unhide HLT,by have:=unhide HLC;simp;omega,(unhide HS).new (alk_eqv rs) (unhide HNO) (unhide HF1).2 (unhide HF1).1,unhide HP9⟩
     case measure=>have:=unhide HLT;simp [intOf];omega
  ·have hc2:c=256:=by omega
   subst hc2
   have HS:=hide hS
   have HI:=hide hI
   have HK1:Hid (IsKd wr.drew (.pointer (some ⟨gk,0,none⟩)) (kdA f)):=⟨gk,rfl,hI.kd,kdA_size f⟩
   have HK2:Hid (IsKd wr.drew (.pointer (some ⟨g3,0,none⟩)) (kdA fun _=>0)):=⟨g3,rfl,hI.rs,kdA_size _⟩
   have hT1:=(unhide HK1).has
   have hT2:=(unhide HK1).of
   have hT3:=(unhide HK2).has
   have hT4:IsKv (.agg (kdA f)):=⟨_,rfl,kdA_size f,kdA_one f⟩
   have hb3:blkV (.pointer (some ⟨g3,0,none⟩))=g3:=rfl
   clear hc hlc hS hI hlt
   generalize hka:kdA f=ka at *
   have HKA:=hide hka
   clear hka
   go_wp2_with fail
   go_region
   all_goals
    go_wp2_with fail
    refine bodyPost_ret (res_tmp_row (p:=3) (u:=2) (ty:=62) rfl _ _ g3 62 ka (0,0) _ rfl (setRow_heap _ _ _ _ _ _ (by exact (unhide HI).rs)) Tryz.underlying62 rfl (by rw [←unhide HKA,kdA_size];exact infoKd) _ rfl) rfl ?_
    refine ⟨va,vc,l,f,by rw [unhide HKA];rfl,unhide HS,below_setRow (unhide HI).below.drew (unhide HI).h3 _,?_⟩
    exact (Fr.ofRow _ _ _).own (show NR wr.drew w.heap.size (.slice va l.length vc) l from (unhide HI).row) (fun q hq=>by simpa using own_off (unhide HI).row (unhide HI).rs (by decide) q hq)
end
end Mc
end Go.Proofs.YtjooemengpeaaaaGreat
