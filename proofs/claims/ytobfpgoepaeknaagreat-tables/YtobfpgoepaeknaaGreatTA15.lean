/-
  The document's answer: does a set of terms let a string by?
  The document's answer: alike bytes.
  What lies in memory: rows of numbers, rows of operations; what a call leaves as it was.
  The document's answer: of each kind of alike bytes the least.
-/
import Derived.Test.YtobfpgoepaeknaaGreatTA12
import Derived.Test.YtobfpgoepaeknaaGreatTA14
import Derived.Test.YtobfpgoepaeknaaGreatTA10
import Derived.Test.YtobfpgoepaeknaaGreatRows
import Derived.WalkKit
import Derived.WalkSpells
import Derived.WalkLawsBesides
import Derived.Laws.BitsAllLaws
import Derived.Deep.DrawnRows
import Derived.Deep.AppendLies
import Derived.Deep.OwnRows
import Derived.Deep.RegionWith
import Derived.Deep.RegionLaw
import Derived.Deep.RegionHeld3
import Derived.Deep.LoopGhost
import Derived.Deep.DeepCutAuto
import Derived.BigQuiet
import Derived.Deep.QuietTactic
namespace Go.Proofs.YtobfpgoepaeknaaGreat
open Go.RowKit
attribute [local go_sem ↓] Go.wp_at_zero Go.wp_at_succ
structure TrC (rs0:List Rn) (U:List (List Nm)):Prop where
 phi:phiR rs0≤121
 wf:WfT rs0
 cl:Closed rs0 U
 l13:U.length≤13
 uz:∀ u∈U,u.length≤200
section
variable {rs0 : List Rn} {U : List (List Nm)} {b c : Nat} {w wr w2 : World} {rs rs1 rs2 : List Rn} {v v' : Value} {X Y : List ByteArray} {A : Lang}
theorem on_j (h:TrC rs0 U) (hc:c < 256) (w:World) (rs:List Rn) (hb:RtS w b rs) (hg:GrowT rs0 rs) (B:Nat) (v:Value) (X:List ByteArray) (hr:SRow w B v X) (hX:VSet rs0 rs U X) :
  Calls Tryz.prog 44 #[.pointer (some ⟨b,0,none⟩),v,.int .i64 (c:Int)] w fun e w'=>∃ v' Y rs',e=.returned v'∧OnJ rs0 U b w rs w' v' Y rs' (derL c (stB rs X)) :=
 on_any h.phi h.cl h.l13 h.uz hc (fun _ _ w hb hg hn=>left_num h.phi h.wf hc w hb hg hn) w rs hb hg B v X hr hX
theorem on_c (h:TrC rs0 U) (hc:c < 256) (w:World) (rs:List Rn) (hb:RtS w b rs) (hg:GrowT rs0 rs) (B:Nat) (v:Value) (X:List ByteArray) (hr:SRow w B v X) (hX:VSet rs0 rs U X) :
  Calls Tryz.prog 44 #[.pointer (some ⟨b,0,none⟩),v,.int .i64 (c:Int)] w fun e w'=>∃ v' Y rs',e=.returned v'∧OnI rs0 U b w rs w' v' Y rs' (derL c (stB rs X)) :=
 (on_j h hc w rs hb hg B v X hr hX).mono fun e w1 h1=>by
  obtain ⟨v',Y,rs',h2,h3⟩:=h1
  exact ⟨v',Y,rs',h2,h3.toOnI⟩
theorem VSet.sz (hX:VSet rs0 rs U X) (h:TrC rs0 U):∀ s∈X,s.size≤200:=fun s hs=>by
 have:=h.uz _ (hX.inu s hs).2
 unfold nmS at this
 rwa [List.length_map,bytesN_len] at this
theorem GrowT.few (hg:GrowT rs0 rs) (h:TrC rs0 U):rs.length≤121:=by have:=hg.small;have:=h.phi;omega
theorem ends_c (h:TrC rs0 U) (w:World) (rs:List Rn) (hb:RtS w b rs) (hg:GrowT rs0 rs) (B:Nat) (v:Value) (X:List ByteArray) (hr:SRow w B v X) (hX:VSet rs0 rs U X) :
  Calls Tryz.prog 26 #[.pointer (some ⟨b,0,none⟩),v] w fun e w'=>(∃ y,e=.returned (.bool y)∧(y=true↔stB rs X []))∧Below w.heap.size w w' :=
 ends_any w b rs hb (by have:=hg.few h;omega) B v X hr (by have:=hX.len hg;have:=h.l13;omega) (fun s hs k hk=>(hX.num s hs k hk).nd hg) (fun s hs=>by have:=hX.sz h s hs;omega)
theorem OnI.trans {A':Lang} (h:OnI rs0 U b w rs wr v X rs1 A) (k:OnI rs0 U b wr rs1 w2 v' Y rs2 A'):OnI rs0 U b w rs w2 v' Y rs2 A':=⟨h.fy.trans k.fy,k.rt,k.gr,grow_trans h.ex k.ex,k.row,k.vs,k.eq⟩
theorem OnI.to {A':Lang} (h:OnI rs0 U b w rs wr v X rs1 A) (e:A=A'):OnI rs0 U b w rs wr v X rs1 A':=⟨h.fy,h.rt,h.gr,h.ex,h.row,h.vs,by rw [←e];exact h.eq⟩
theorem OnI.start (hb:RtS w b rs) (hg:GrowT rs0 rs) {B:Nat} (hr:SRow w B v X) (hX:VSet rs0 rs U X):OnI rs0 U b w rs w v X rs (stB rs X):=⟨Fy.refl _ _,hb,hg,⟨[],by simp⟩,hr.zero,hX,rfl⟩
end
structure TrK (rs0:List Rn) (b:Nat) (w:World) (rs:List Rn) (w':World) (rs':List Rn):Prop where
 fy:Fy b w w'
 rt:RtS w' b rs'
 gr:GrowT rs0 rs'
 ex:∃ x,rs'=rs++x
section
variable {rs0 : List Rn} {U : List (List Nm)} {b : Nat} {w wr w2 : World} {rs rs1 rs2 : List Rn} {v : Value} {X : List ByteArray} {A : Lang}
theorem TrK.refl (hb:RtS w b rs) (hg:GrowT rs0 rs):TrK rs0 b w rs w rs:=⟨Fy.refl _ _,hb,hg,⟨[],by simp⟩⟩
theorem TrK.trans (h:TrK rs0 b w rs wr rs1) (k:TrK rs0 b wr rs1 w2 rs2):TrK rs0 b w rs w2 rs2:=⟨h.fy.trans k.fy,k.rt,k.gr,grow_trans h.ex k.ex⟩
theorem TrK.below (h:TrK rs0 b w rs wr rs1) (k:Below wr.heap.size wr w2):TrK rs0 b w rs w2 rs1:=⟨h.fy.trans (Fy.ofBelow k (RtS_lt h.rt)),RtS_below h.rt k,h.gr,h.ex⟩
theorem OnI.trk (h:OnI rs0 U b w rs wr v X rs1 A):TrK rs0 b w rs wr rs1:=⟨h.fy,h.rt,h.gr,h.ex⟩
theorem TrK.set (k:TrK rs0 b w rs wr rs1) (hg:GrowT rs0 rs) (hX:VSet rs0 rs U X):VSet rs0 rs1 U X∧stB rs1 X=stB rs X:=by
 obtain ⟨x,hx⟩:=k.ex
 rw [hx]
 exact ⟨hX.grow x,stB_app hg hX x⟩
end
set_option maxRecDepth 20000 in
set_option maxHeartbeats 2000000 in
theorem lets_any {rs0:List Rn} {U:List (List Nm)} (hT:TrC rs0 U) {b:Nat} (w:World) (rs:List Rn) (hb:RtS w b rs) (hg:GrowT rs0 rs) (B:Nat) (v:Value) (X:List ByteArray) (hr:SRow w B v X) (hX:VSet rs0 rs U X) (s:ByteArray) (hs:s.size≤9223372036854775807) :
  Calls Tryz.prog 126 #[.pointer (some ⟨b,0,none⟩),v,.string s] w fun e w'=>∃ y rs',e=.returned (.bool y)∧(y=true↔derS (bytesN s) (stB rs X) [])∧TrK rs0 b w rs w' rs':=by
 obtain ⟨xa,xc,rfl⟩:=hr.form
 have hsI:(s.size:Int)≤9223372036854775807:=by omega
 have HT:=hide hT
 have H0:=hide (OnI.start hb hg hr hX)
 clear hT hb hg hr hX hs
 go_enter Tryz.func126,Tryz.ntmps126
 go_wp2_with fail
 go_loopw [1,7] (fun vx ix wr=>∃ (i:Nat) (va:Option Addr) (n vc:Nat) (Y:List ByteArray) (rs1:List Rn),vx=.slice va n vc∧ix=.int .i64 (i:Int)∧Hid (i≤s.size∧OnI rs0 U b w rs wr (.slice va n vc) Y rs1 (derS ((bytesN s).take i) (stB rs X)))) (fun _ ix _=>s.size - (intOf ix).toNat)
 case atStart=>exact ⟨0,xa,_,xc,X,rs,rfl,rfl,Nat.zero_le _,unhide H0⟩
 case round =>
  clear H0
  rename World=>wr
  obtain ⟨i,va,n,vc,Y,rs1,rfl,rfl,HH⟩:=hrel
  obtain ⟨hi,hI⟩:=unhide HH
  clear HH
  by_cases hlt:i < s.size
  ·have hltI:(i:Int) < (s.size:Int):=by omega
   have hi0:(0:Int)≤(i:Int):=by omega
   have hi1:((i:Int)).toNat=i:=by omega
   have hbI:(s[i].toNat:Int) < 256:=by have:=s[i].toNat_lt;omega
   have HON:=hide (on_c (b:=b) (unhide HT) (show s[i].toNat < 256 from s[i].toNat_lt) wr rs1 hI.rt hI.gr 0 _ Y hI.row hI.vs)
   have HDE:Hid (derL s[i].toNat (stB rs1 Y)=derS ((bytesN s).take (i+1)) (stB rs X)):=by show _=_;rw [hI.eq,bytesN_takeZ s hlt,derS_snoc]
   have HLT:=hide hlt
   have HI:=hide hI
   clear hi hI
   go_wp2_with fail
   refine (unhide HON).mono ?_
   rintro e w1 ⟨v1,Y1,rs2,rfl,h1⟩
   have HI1:=hide ((unhide HI).trans (h1.to (unhide HDE)))
   obtain ⟨va1,vc1,rfl⟩:=h1.row.form
   clear h1 HON HI
   go_wp2_with fail
   go_roundw
   case rel=>exact ⟨i+1,va1,_,vc1,Y1,rs2,rfl,by go_num,unhide HLT,unhide HI1⟩
   case measure=>have:=unhide HLT;simp [intOf];omega
  ·have hi2:i=s.size:=by omega
   subst hi2
   have HEN:=hide (ends_c (b:=b) (unhide HT) wr rs1 hI.rt hI.gr 0 _ Y hI.row hI.vs)
   have HI:=hide hI
   have HTA:Hid ((bytesN s).take s.size=bytesN s):=List.take_of_length_le (by rw [bytesN_len];exact Nat.le_refl _)
   clear hi hI hlt
   go_wp2_with fail
   refine (unhide HEN).mono ?_
   rintro e w1 ⟨⟨y,rfl,hy⟩,hb1⟩
   have HY:Hid (y=true↔derS (bytesN s) (stB rs X) []):=by show _↔_;rw [hy,(unhide HI).eq,unhide HTA]
   have HK:=hide ((unhide HI).trk.below hb1)
   clear hy hb1 HEN HI
   go_wp2_with fail
   go_ret
   exact ⟨y,rs1,rfl,unhide HY,unhide HK⟩
end Go.Proofs.YtobfpgoepaeknaaGreat
namespace Go.Proofs.YtobfpgoepaeknaaGreat
open Go.RowKit
attribute [local go_sem ↓] Go.wp_at_zero Go.wp_at_succ
theorem add_k (g o k:Nat):(⟨g,o,none⟩:Addr).add k=⟨g,o+k,none⟩:=by unfold Addr.add;split<;>simp_all
theorem rnA_0 (r:Rn):(rnA r).toList[0]?=some (.int .i64 r.kind):=by rw [Array.getElem?_toList];exact (rnA_fields r).1
theorem rnA_5 (r:Rn) {k:Nat} (h:k < 256):(rnA r).toList[5+k]?=some (.bool (r.f k)):=by rw [Array.getElem?_toList];exact get_rnA r k h
set_option maxRecDepth 20000 in
set_option maxHeartbeats 4000000 in
theorem alike_any (w:World) (b:Nat) (rs:List Rn) (hb:RtS w b rs) (hl:rs.length≤1000) (x y:Nat) (hx:x < 256) (hy:y < 256) :
  Calls Tryz.prog 43 #[.pointer (some ⟨b,0,none⟩),.int .i64 (x:Int),.int .i64 (y:Int)] w fun e w'=>(∃ z,e=.returned (.bool z)∧(z=true↔alkB rs x y))∧∃ n,w'=w.drewN n:=by
 have hlI:(rs.length:Int)≤1000:=by omega
 have hxI:(x:Int) < 256:=by omega
 have hyI:(y:Int) < 256:=by omega
 have hx0:(0:Int)≤(x:Int):=by omega
 have hy0:(0:Int)≤(y:Int):=by omega
 have hx1:((x:Int)).toNat=x:=by omega
 have hy1:((y:Int)).toNat=y:=by omega
 have HRT:=hide hb
 have HX:=hide hx
 have HY:=hide hy
 have hbl:=RtS_lt hb
 obtain ⟨vv,hv1,hv2⟩:=hb
 obtain ⟨va,vn,vc,rfl⟩:=own_slice hv2
 have hvn:vn=rs.length:=by
  rcases hv2.2 with ⟨e,h0⟩ | ⟨g,cap,cur,e,_⟩
  ·cases e;exact h0.symm
  ·simp only [Value.slice.injEq] at e;exact e.2.1
 subst hvn
 have c0:w.cell? ⟨b,0,none⟩=some (.slice va rs.length vc):=by rw [cell_of_row _ _ _ _ _ _ hv1];rfl
 clear hl hx hy hv1 hv2
 go_enter Tryz.func43,Tryz.ntmps43
 go_wp2_with fail
 go_loopw [7] (fun ix wr=>∃ i:Nat,ix=.int .i64 (i:Int)∧Hid (i≤rs.length∧(∃ n,wr=w.drewN n)∧∀ (k:Nat) r,k < i→rs[k]?=some r→r.kind=2→r.f x=r.f y)) (fun ix _=>rs.length - (intOf ix).toNat)
 case atStart=>exact ⟨0,rfl,Nat.zero_le _,⟨0,rfl⟩,fun k r hk=>by omega⟩
 case round =>
  rename World=>wr
  obtain ⟨i,rfl,HH⟩:=hrel
  obtain ⟨hi,⟨n,rfl⟩,hall⟩:=unhide HH
  clear HH
  by_cases hlt:i < rs.length
  ·have hiI:(i:Int) < (rs.length:Int):=by omega
   have hi0:(0:Int)≤(i:Int):=by omega
   have hi1:((i:Int)).toNat=i:=by omega
   obtain ⟨r,hr⟩:∃ r,rs[i]?=some r:=⟨_,List.getElem?_eq_getElem hlt⟩
   obtain ⟨g,cap,-,c0',hc⟩:=nd_begin (unhide HRT) hr
   rw [c0] at c0'
   simp only [Option.some.injEq,Value.slice.injEq,true_and] at c0'
   obtain ⟨rfl,rfl⟩:=c0'
   have k0:=hc 0 _ (rnA_0 r)
   have k1:=hc _ _ (rnA_5 r (unhide HX))
   have k2:=hc _ _ (rnA_5 r (unhide HY))
   rw [add_k] at k0 k1 k2
   rw [Nat.add_zero] at k0
   rw [←Nat.add_assoc] at k1 k2
   have hg:g < w.heap.size:=World.block_lt_of_cell? w ⟨g,i * 261,none⟩ k0
   have HLT:=hide hlt
   have HST:Hid ((r.kind=2→r.f x=r.f y)→∀ (k:Nat) r,k < i+1→rs[k]?=some r→r.kind=2→r.f x=r.f y):=fun h k r' hk hr'=>by
    by_cases e:k=i
    ·subst e;rw [hr] at hr';cases hr';exact h
    ·exact hall k r' (by omega) hr'
   have HNO:Hid (r.kind=2→r.f x≠r.f y→¬alkB rs x y):=fun h1 h2 h=>h2 (h r (List.mem_of_getElem? hr) h1)
   clear hi hall hlt hc hr
   by_cases hk:r.kind=2
   ·rw [hk] at k0
    by_cases he:r.f x=r.f y
    ·have HS:=hide (unhide HST (fun _=>he))
     rw [←he] at k2
     clear hk he HST HNO
     generalize r.f x=z at *
     go_wp2_with fail
     go_quiet (fail)
     go_wp2_with fail
     go_roundw
     case rel=>exact ⟨i+1,by go_num,unhide HLT,⟨n+nq,by first | rfl | simp⟩,unhide HS⟩
     case measure=>have:=unhide HLT;simp [intOf];omega
    ·have HF:=hide (unhide HNO hk he)
     obtain ⟨z,hz⟩:∃ z,r.f x=z:=⟨_,rfl⟩
     have hz2:r.f y=!z:=by rw [←hz];cases h1:r.f x<;>cases h2:r.f y<;>simp_all
     rw [hz] at k1
     rw [hz2] at k2
     clear hk he HST HNO hz hz2
     cases z
     all_goals
      go_wp2_with fail
      go_quiet (fail)
      go_wp2_with fail
      go_ret
      exact ⟨⟨false,rfl,by simp;exact unhide HF⟩,n+nq,by first | rfl | simp⟩
   ·have HS:=hide (unhide HST (fun h=>absurd h hk))
    clear HST HNO
    generalize r.kind=kk at *
    go_wp2_with fail
    go_quiet (fail)
    go_wp2_with fail
    go_roundw
    case rel=>exact ⟨i+1,by go_num,unhide HLT,⟨n+nq,by first | rfl | simp⟩,unhide HS⟩
    case measure=>have:=unhide HLT;simp [intOf];omega
  ·have hi2:i=rs.length:=by omega
   subst hi2
   have HA:Hid (alkB rs x y):=fun r hr hk=>by
    obtain ⟨k,hk'⟩:=List.getElem?_of_mem hr
    exact hall k r (List.getElem?_eq_some_iff.1 hk').1 hk' hk
   clear hi hall hlt
   go_wp2_with fail
   go_ret
   exact ⟨⟨true,rfl,by simp;exact unhide HA⟩,n,rfl⟩
end Go.Proofs.YtobfpgoepaeknaaGreat
namespace Go.Proofs.YtobfpgoepaeknaaGreat
namespace Mc
open Go.RowKit
theorem hide {p:Prop} (h:p):Hid p:=h
theorem unhide {p:Prop} (h:Hid p):p:=h
theorem info_of {P:Program} {t:TypeId} {z:Value} {n m:Nat} (h:(P.info? t).map (fun i=>(i.zero,i.size,i.bytes))=some (some z,n,m)) :
  ∃ i,P.info? t=some i∧i.zero=some z∧i.size=n∧i.bytes=m:=by
 cases hi:P.info? t with
 | none=>rw [hi] at h;cases h
 | some i =>
  rw [hi] at h
  simp only [Option.map_some,Option.some.injEq,Prod.mk.injEq] at h
  exact ⟨i,rfl,h.1,h.2.1,h.2.2⟩
theorem infoI:(Tryz.prog.info? 3).map (fun i=>(i.zero,i.size,i.bytes))=some (some (.int .i64 0),1,8):=by kernel_rfl
theorem add0 (g k:Nat):(⟨g,0,none⟩:Addr).add k=⟨g,k,none⟩:=by unfold Addr.add;split<;>simp_all
structure Fr (S:List Nat) (w w':World):Prop where
 os:w'.os=w.os
 tape:w'.tape=w.tape
 output:w'.output=w.output
 size:w.heap.size≤w'.heap.size
 block:∀ k,k < w.heap.size→k∉S→w'.heap[k]?=w.heap[k]?
theorem Fr.ofBelow {w w':World} (h:Below w.heap.size w w'):Fr [] w w':=⟨h.os,h.tape,h.output,h.size,fun k hk _=>h.block k hk⟩
theorem Fr.ofGrown {w w':World} {row:Option Nat} (h:w.grownBy w' row):Fr row.toList w w':=⟨h.os,h.tape,h.output,h.size,fun k hk hn=>h.block k hk (fun e=>hn (by rw [←e];simp))⟩
theorem Fr.ofAlloc (w:World) (o:Obj):Fr [] w (w.alloc o):=Fr.ofBelow ((Below.refl _ _).alloc (Nat.le_refl _) _)
theorem Fr.ofSet (w:World) (b o:Nat) (u:Value):Fr [b] w (w.setCell ⟨b,o,none⟩ u):=⟨rfl,rfl,rfl,by simp [World.setCell],fun k _ hn=>Below.heap_setCell _ _ _ _ (by simpa using hn)⟩
theorem Fr.ofRow (w:World) (b:Nat) (cs:Array Value):Fr [b] w (w.setRow b cs):=⟨rfl,rfl,rfl,by simp,fun k _ hn=>setRow_other _ _ _ _ (by simpa using hn)⟩
theorem Fr.at {S:List Nat} {w w':World} (h:Fr S w w') {b:Nat} {o:Obj} (hb:w.heap[b]?=some o) (hn:b∉S):w'.heap[b]?=some o:=by
 rw [h.block b (Array.getElem?_eq_some_iff.1 hb).1 hn];exact hb
theorem Fr.own {S:List Nat} {w w':World} (h:Fr S w w') {B e z:Nat} {v:Value} {n:Nat} {xs:List Value} (ho:w.ownsRow B e z v n xs) (hn:∀ q,v.ownBlock=some q→q∉S):w'.ownsRow B e z v n xs:=by
 refine ⟨ho.1,?_⟩
 rcases ho.2 with hl | ⟨g,cap,cur,rfl,h1,hg,rest⟩
 ·exact .inl hl
 ·exact .inr ⟨g,cap,cur,rfl,h1,h.at hg (hn g rfl),rest⟩
def ncs (xs:List Nat):List Value:=xs.map fun (n:Nat)=>.int .i64 (n:Int)
def NR (w:World) (B:Nat) (v:Value) (xs:List Nat):Prop:=w.ownsRow B 3 1 v xs.length (ncs xs)
theorem NR.form {w:World} {B:Nat} {v:Value} {xs:List Nat} (h:NR w B v xs):(∃ a c,v=.slice a xs.length c):=by
 rcases h.2 with ⟨rfl,h0⟩ | ⟨g,cap,cur,rfl,_⟩
 ·exact ⟨none,0,by rw [h0]⟩
 ·exact ⟨_,_,rfl⟩
theorem NR.nil (w:World) (B:Nat):NR w B (.slice none 0 0) []:=World.ownsRow_nil w B _ _
theorem own_form {w:World} {B e z:Nat} {v:Value} {n:Nat} {xs:List Value} (h:w.ownsRow B e z v n xs) (hn:0 < n):∃ g cap,v=.slice (some ⟨g,0,none⟩) n cap:=by
 rcases h.2 with ⟨_,h0⟩ | ⟨g,cap,cur,hv,_⟩
 ·omega
 ·exact ⟨g,cap,hv⟩
theorem NR.at {w:World} {B:Nat} {v:Value} {xs:List Nat} (h:NR w B v xs) {k:Nat} (hk:k < xs.length):∃ g cap,v=.slice (some ⟨g,0,none⟩) xs.length cap∧w.cell? ⟨g,k,none⟩=some (.int .i64 ((xs.getD k 0:Nat):Int)):=by
 have h':w.ownsRow B 3 1 v xs.length (ncs xs):=h
 obtain ⟨g,cap,rfl⟩:=own_form h' (by omega)
 refine ⟨g,cap,rfl,?_⟩
 have:=h'.cells (g:=g) rfl k (.int .i64 ((xs.getD k 0:Nat):Int)) (by simp [ncs,hk])
 rwa [add0] at this
theorem NR.of {w:World} {B:Nat} {v:Value} {xs:List Nat} {y:Nat} (h:w.ownsRow B 3 1 v (xs.length+1) (ncs xs++[.int .i64 (y:Int)])):NR w B v (xs++[y]):=by
 unfold NR ncs
 rw [List.length_append,List.map_append];exact h
theorem NR.less {w:World} {B B':Nat} {v:Value} {xs:List Nat} (h:NR w B v xs) (hB:B'≤B):NR w B' v xs:=by
 refine ⟨h.1,?_⟩
 rcases h.2 with h2 | ⟨g,cap,cur,hv,hg,r⟩
 ·exact Or.inl h2
 ·exact Or.inr ⟨g,cap,cur,hv,Nat.le_trans hB hg,r⟩
theorem one_cells {W:World} {g:Nat} {x:Value} (h:W.cell? ⟨g,0,none⟩=some x):∀ j u,[x][j]?=some u→W.cell? ((⟨g,0,none⟩:Addr).add j)=some u:=by
 intro j u hj
 match j,hj with
 | 0,hj =>
  simp at hj
  subst hj
  rw [add0];exact h
 | j+1,hj=>simp at hj
theorem new_cell {W:World} {g:Nat} {x:Value} {t:TypeId} (h:W.heap.size=g):(W.alloc (.cells #[x] t)).cell? ⟨g,0,none⟩=some x:=by
 subst h;rw [cell_of_row _ _ _ _ _ _ (heap_alloc_new W _)];rfl
theorem app1 {ops:Array Oper} {rest:List Oper} {o:Oper} {a:Act} {W:World} {Q:Exit→Act→World→Prop} (hgd:o.guard=none) (s x:Operand)
  (ho:o.op=.call { callee:=.builtin .append,args:=#[s,x],argTypes:=#[37,37] }) (B:Nat) (v:Value) (xs:List Nat) (hs:a.eval s=v) (hown:NR W B v xs) (g0 y:Nat)
  (hx:a.eval x=.slice (some ⟨g0,0,none⟩) 1 1) (hc:W.cell? ⟨g0,0,none⟩=some (.int .i64 (y:Int))) (hlen:xs.length≤3000000) (hB:B≤W.heap.size) (H:Nat) (hH:W.heap.size=H)
  (h:∀ g cap w',w'.ownsRow B 3 1 (.slice (some ⟨g,0,none⟩) (xs.length+1) cap) (xs.length+1) (ncs xs++[.int .i64 (y:Int)])→W.grownBy w' v.ownBlock→(v.ownBlock=some g∨g=H)→g < w'.heap.size→wpList Tryz.prog ops Q rest (a.put o.dst (.slice (some ⟨g,0,none⟩) (xs.length+1) cap)) w'):wpList Tryz.prog ops Q (o ::rest) a W:=by
 obtain ⟨i,i0,i1,i2,i3⟩:=info_of infoI
 exact wpList_append_lies W hgd s x 37 ho B 3 i (.int .i64 0) 1 8 Tryz.underlying37 i0 i1 i2 i3 rfl (by decide) v xs.length (ncs xs) hs hown ⟨g0,0,none⟩ 1 1 [.int .i64 (y:Int)] hx rfl (one_cells hc) (by intro u hu;simp at hu;subst hu;rfl) (by decide) (by unfold maxLen;omega) (by omega) hB H hH h
theorem own_off {w:World} {B e z:Nat} {v:Value} {n:Nat} {xs:List Value} (h:w.ownsRow B e z v n xs) {b:Nat} {cs:Array Value} {ty:TypeId} {fr:Nat × Nat} (hb:w.heap[b]?=some (.cells cs ty fr)) (hne:e≠ty):∀ q,v.ownBlock=some q→q≠b:=fun q hq e=>by
 subst e
 rcases h.2 with ⟨rfl,_⟩ | ⟨g,cap,cur,rfl,_,hg,_⟩
 ·cases hq
 ·have:g=q:=by simpa [Value.ownBlock] using hq
  subst this
  rw [hg] at hb
  simp at hb
  exact hne hb.2.1
theorem below_cell {w w':World} (h:Below w.heap.size w w') {a:Addr} {v:Value} (hb:w.cell? a=some v):w'.cell? a=some v :=
 (World.cell?_of_block (h.block a.block (World.block_lt_of_cell? w a hb))).trans hb
end Mc
end Go.Proofs.YtobfpgoepaeknaaGreat
namespace Go.Proofs.YtobfpgoepaeknaaGreat
namespace Mc
open Go.RowKit
def kdA (f:Nat→Nat):Array Value:=((List.range 256).map fun i=>Value.int .i64 ((f i:Nat):Int)).toArray
theorem kdA_size (f:Nat→Nat):(kdA f).size=256:=by unfold kdA;simp
theorem kdA_ne (f:Nat→Nat):kdA f≠#[]:=fun e=>by have:=kdA_size f;rw [e] at this;simp at this
theorem kdA_at (f:Nat→Nat) {b:Nat} (hb:b < 256):(kdA f)[b]?=some (.int .i64 ((f b:Nat):Int)):=by
 unfold kdA
 rw [List.getElem?_toArray,List.getElem?_map,List.getElem?_range hb];rfl
theorem kdA_set (f:Nat→Nat) (b x:Nat):(kdA f).setIfInBounds b (.int .i64 ((x:Nat):Int))=kdA (fun j=>if j=b then x else f j):=by
 apply Array.ext_getElem?
 intro i
 rw [Array.getElem?_setIfInBounds]
 by_cases hi:i < 256
 ·have h2:=kdA_at (fun j=>if j=b then x else f j) hi
  rw [h2]
  by_cases e:b=i
  ·subst e
   rw [if_pos rfl,if_pos (by rw [kdA_size];exact hi)]
   simp
  ·rw [if_neg e,kdA_at _ hi]
   have e2:¬i=b:=fun h=>e h.symm
   simp [e2]
 ·have h1:(kdA f)[i]?=none:=Array.getElem?_eq_none (by rw [kdA_size];omega)
  have h2:(kdA fun j=>if j=b then x else f j)[i]?=none:=Array.getElem?_eq_none (by rw [kdA_size];omega)
  rw [h2,h1]
  split
  ·rw [if_neg (by rw [kdA_size];omega)]
  ·rfl
theorem kdA_one (f:Nat→Nat):(kdA f).all (·.oneCell')=true:=by
 unfold kdA
 rw [List.all_toArray,List.all_map,List.all_eq_true]
 intro x _
 rfl
theorem zvKd (w:World):(zeroValue 44).run Tryz.prog w=.ok (.agg (kdA fun _=>0)) w:=by kernel_rfl
theorem infoKd:(Tryz.prog.info? 44).map (·.size)=some 256:=by kernel_rfl
theorem aggcellsT (cs:Array Value):(Value.agg cs).cells=cs:=rfl
def IsKd (w:World) (v:Value) (cs:Array Value):Prop:=∃ g,v=.pointer (some ⟨g,0,none⟩)∧w.heap[g]?=some (.cells cs 44 (0,0))∧cs.size=256
def HasKd (w:World) (v:Value):Prop:=∃ cs,IsKd w v cs
def kdOf (w:World) (v:Value):Array Value:=match v with
 | .pointer (some a)=>match w.heap[a.block]? with
  | some (.cells cs _ _)=>cs
  | _=>#[]
 | _=>#[]
theorem IsKd.has {w:World} {v:Value} {cs:Array Value} (h:IsKd w v cs):HasKd w v:=⟨cs,h⟩
theorem IsKd.of {w:World} {v:Value} {cs:Array Value} (h:IsKd w v cs):kdOf w v=cs:=by
 obtain ⟨g,rfl,h1,-⟩:=h
 simp only [kdOf,h1]
theorem wp_ldKd {d:Option Tmp} {x:Operand} {ty:TypeId} {p:String} {af:Array Edge} {gd:Option (Nat × Bool)} {a:Act} {w:World} {K:Act→World→Prop} {Q:Exit→Act→World→Prop} (h:HasKd w (a.eval x)) :
  Oper.wp Tryz.prog { dst:=d,op:=.load 44 x,type:=ty,pos:=p,after:=af,guard:=gd } a w K Q=K (a.put d (.agg (kdOf w (a.eval x)))) w:=by
 obtain ⟨cs,hcs⟩:=h
 rw [hcs.of]
 obtain ⟨g,hv,hg,hs⟩:=hcs
 unfold Oper.wp execOp
 simp only [hv,Instr.loadAt,Instr.sureAddr,Sem.run_bind,Sem.run_pure,Result.andThen_ok,run_loadVar_row w g _ _ cs _ _ hg Tryz.underlying44 rfl (by rw [hs];exact infoKd)]
 rfl
def blkV:Value→Nat
 | .pointer (some a)=>a.block
 | _=>0
def IsKv (v:Value):Prop:=∃ cs,v=.agg cs∧cs.size=256∧cs.all (·.oneCell')=true
theorem wp_stKd {x y:Operand} {ty:TypeId} {p:String} {af:Array Edge} {gd:Option (Nat × Bool)} {a:Act} {w:World} {K:Act→World→Prop} {Q:Exit→Act→World→Prop} (h:HasKd w (a.eval x)) (h2:IsKv (a.eval y)) :
  Oper.wp Tryz.prog { dst:=none,op:=.store 44 x y,type:=ty,pos:=p,after:=af,guard:=gd } a w K Q=K a (w.setRow (blkV (a.eval x)) (a.eval y).cells):=by
 obtain ⟨old,g,hv,hg,hs⟩:=h
 obtain ⟨cs,hy,hs2,ho⟩:=h2
 unfold Oper.wp execOp
 simp only [hv,hy,Instr.storeAt,Instr.sureAddr,Sem.run_bind,Sem.run_pure,Result.andThen_ok,run_storeVar_row w g _ 44 old cs hg (by rw [hs2];exact infoKd) (by rw [hs,hs2]) ho]
 rfl
structure BtI (w:World) (gk g3:Nat) (wr:World) (va:Option Addr) (vc:Nat) (l:List Nat) (f:Nat→Nat):Prop where
 below:Below w.heap.size w wr
 h3:w.heap.size≤g3
 hk:w.heap.size≤gk
 ne:g3≠gk
 kd:wr.heap[gk]?=some (.cells (kdA f) 44 (0,0))
 rs:wr.heap[g3]?=some (.cells (kdA fun _=>0) 44 (0,0))
 row:NR wr w.heap.size (.slice va l.length vc) l
section
variable {w wr w2 : World} {gk g3 : Nat} {va : Option Addr} {vc : Nat} {l : List Nat} {f : Nat → Nat}
theorem BtI.drewN (h:BtI w gk g3 wr va vc l f) (n:Nat):BtI w gk g3 (wr.drewN n) va vc l f:=⟨below_drewN h.below n,h.h3,h.hk,h.ne,h.kd,h.rs,h.row⟩
theorem BtI.alloc (h:BtI w gk g3 wr va vc l f) (o:Obj):BtI w gk g3 (wr.alloc o) va vc l f:=⟨h.below.alloc h.below.size _,h.h3,h.hk,h.ne,(Fr.ofAlloc wr o).at h.kd (by simp),(Fr.ofAlloc wr o).at h.rs (by simp),(Fr.ofAlloc wr o).own h.row (by simp)⟩
theorem BtI.put (h:BtI w gk g3 wr va vc l f) (b x:Nat):wr.frozen? ⟨gk,b,none⟩=false∧BtI w gk g3 (wr.setCell ⟨gk,b,none⟩ (.int .i64 ((x:Nat):Int))) va vc l (fun j=>if j=b then x else f j):=by
 refine ⟨frozen_of_row _ _ _ _ _ h.kd,h.below.setCell (p:=⟨gk,b,none⟩) h.hk _,h.h3,h.hk,h.ne,?_,(Fr.ofSet _ _ _ _).at h.rs (by simpa using h.ne),(Fr.ofSet _ _ _ _).own h.row (fun q hq=>by simpa using own_off h.row h.kd (by decide) q hq)⟩
 rw [heap_setCell_same _ _ _ _ _ _ h.kd,kdA_set]
theorem BtI.push (h:BtI w gk g3 wr va vc l f) {g cap y:Nat} (hgrow:wr.grownBy w2 (.slice va l.length vc:Value).ownBlock) (ho:w2.ownsRow w.heap.size 3 1 (.slice (some ⟨g,0,none⟩) (l.length+1) cap) (l.length+1) (ncs l++[.int .i64 (y:Int)])):BtI w gk g3 w2 (some ⟨g,0,none⟩) cap (l++[y]) f:=by
 have e1:=own_off h.row h.kd (by decide)
 have e2:=own_off h.row h.rs (by decide)
 refine ⟨h.below.grown hgrow h.below.size (fun q hq=>(World.ownsRow.lt h.row q hq).1),h.h3,h.hk,h.ne,(Fr.ofGrown hgrow).at h.kd (fun hm=>e1 _ (Option.mem_toList.1 hm) rfl),(Fr.ofGrown hgrow).at h.rs (fun hm=>e2 _ (Option.mem_toList.1 hm) rfl),?_⟩
 rw [List.length_append]
 exact NR.of ho
theorem BtI.lk (h:BtI w gk g3 wr va vc l f):gk < wr.heap.size:=(Array.getElem?_eq_some_iff.1 h.kd).1
end
end Mc
end Go.Proofs.YtobfpgoepaeknaaGreat
