/-
  The document's answer: of each kind of alike bytes the least: the walk.
  The document's answer: pairs of sets in memory; does a pair stand in the list?
  The document's answer: two sets that no string tells apart. (Mathematics.)
  The document's answer: a string that tells two sets apart: what the walk keeps.
-/
import Derived.Test.YtobfpgoepaeknaaGreatTA15
namespace Go.Proofs.YtobfpgoepaeknaaGreat
namespace Mc
open Go.RowKit
theorem res_tmp_row {P:Program} {fn:Func} {p u:Tmp} {ty:TypeId} (h:fn.results=#[.tmp u,.cell p ty]) (tmps:Array Value) (w:World) (g:Nat) (t:TypeId) (cs:Array Value) (fr:Nat × Nat) (d:TypeDesc)
  (hp:tmps.getD p undef=.pointer (some ⟨g,0,none⟩)) (hg:w.heap[g]?=some (.cells cs t fr)) (hu:P.underlying ty=some d) (hd:(match d with | .struct _ | .array _ _=>true | _=>false)=true) (hi:(P.info? ty).map (·.size)=some cs.size)
  (x:Value) (hx:tmps.getD u undef=x):(results fn tmps).run P w=.ok (.tuple #[x,.agg cs]) w:=by
 have hp':tmps[p]?.getD undef=.pointer (some ⟨g,0,none⟩):=by simpa using hp
 have hx':tmps[u]?.getD undef=x:=by simpa using hx
 unfold results
 rw [h]
 simp [hp',hx',asAddr,run_loadVar_row w g t ty cs fr d hg hu hd hi]
section
attribute [local go_sem ↓] Go.wp_at_zero Go.wp_at_succ zvKd wp_ldKd wp_stKd
attribute [local go_sem] kdA_size kdA_ne aggcellsT
set_option maxRecDepth 20000 in
set_option maxHeartbeats 4000000 in
theorem tbytes_any (w:World) (b:Nat) (rs:List Rn) (hb:RtS w b rs) (hl:rs.length≤1000) :
  Calls Tryz.prog 23 #[.pointer (some ⟨b,0,none⟩)] w fun e w'=>∃ va vc l f,e=.returned (.tuple #[.slice va l.length vc,.agg (kdA f)])∧Sorted 256 (alkB rs) l f∧Below w.heap.size w w'∧NR w' w.heap.size (.slice va l.length vc) l:=by
 have HRT:=hide hb
 have HL:=hide hl
 have hbl:=RtS_lt hb
 have HB0:Hid (BtI w (w.heap.size+1) w.heap.size ((w.alloc (.cells (kdA fun _=>0) 44)).alloc (.cells (kdA fun _=>0) 44)) none 0 [] (fun _=>0)):=⟨((Below.refl _ _).alloc (Nat.le_refl _) _).alloc (by simp) _,Nat.le_refl _,by omega,by omega,heap_alloc2_new _ _ _,heap_alloc2_old _ _ _,NR.nil _ _⟩
 clear hb hl
 go_enter Tryz.func23,Tryz.ntmps23
 go_wp2_with fail
 generalize ((w.alloc (.cells (kdA fun _=>0) 44)).alloc (.cells (kdA fun _=>0) 44))=w1 at *
 generalize hgk:w.heap.size+1=gk at *
 generalize hg3:w.heap.size=g3 at HB0 ⊢
 clear hgk
 have HG3:=hide hg3
 clear hg3
 go_loopw [4,6] (fun vx bx wr=>∃ (c:Nat) (va:Option Addr) (vc:Nat) (l:List Nat) (f:Nat→Nat),vx=.slice va l.length vc∧bx=.int .i64 (c:Int)∧Hid (c≤256∧l.length≤c∧Sorted c (alkB rs) l f∧BtI w gk g3 wr va vc l f)) (fun _ bx _=>256 - (intOf bx).toNat)
 case atStart=>exact ⟨0,none,0,[],fun _=>0,rfl,rfl,by show 0≤256;decide,Nat.le_refl _,Sorted.nil _ _,unhide HB0⟩
 case round =>
  clear HB0
  rename World=>wr
  obtain ⟨c,va,vc,l,f,rfl,rfl,HH⟩:=hrel
  obtain ⟨hc,hlc,hS,hI⟩:=unhide HH
  clear HH
  by_cases hlt:c < 256
  ·have hcI:(c:Int) < 256:=by omega
   have hc0:(0:Int)≤(c:Int):=by omega
   have hc1:((c:Int)).toNat=c:=by omega
   have hlI:(l.length:Int)≤256:=by omega
   have hgk:=hI.lk
   have k0:wr.cell? ⟨gk,c,none⟩=some (.int .i64 ((f c:Nat):Int)):=by rw [cell_of_row _ _ _ _ _ _ hI.kd];exact kdA_at f hlt
   obtain ⟨hz,hI1⟩:=hI.put c l.length
   have HI1:=hide hI1
   have HS:=hide hS
   have HLC:=hide hlc
   have HLT:=hide hlt
   clear hc hlc hS hI hI1 hlt
   generalize f c=f0 at *
   go_wp2_with fail
   generalize hf1:(fun j=>if j=c then l.length else f j)=f1 at *
   have HF1:Hid (f1 c=l.length∧∀ a,a < c→f1 a=f a):=by rw [←hf1];exact ⟨by simp,fun a ha=>by simp;omega⟩
   clear hf1 k0 hz hgk
   generalize wr.setCell ⟨gk,c,none⟩ (.int .i64 (l.length:Int))=w2 at *
   go_loopw [7] (fun ix wy=>∃ i:Nat,ix=.int .i64 (i:Int)∧Hid (i≤l.length∧BtI w gk g3 wy va vc l f1∧∀ j,j < i→¬alkB rs c (l.getD j 0))) (fun ix _=>l.length - (intOf ix).toNat)
   case atStart=>exact ⟨0,rfl,Nat.zero_le _,unhide HI1,fun j hj=>by omega⟩
   case round =>
    clear HI1
    rename World=>wy
    obtain ⟨i,rfl,HH⟩:=hrel
    obtain ⟨hi,hI,hno⟩:=unhide HH
    clear HH
    have hgk:=hI.lk
    by_cases hlti:i < l.length
    ·have hiI:(i:Int) < (l.length:Int):=by omega
     have hi0:(0:Int)≤(i:Int):=by omega
     have hi1:((i:Int)).toNat=i:=by omega
     obtain ⟨gl,cl,he,c1⟩:=hI.row.at hlti
     simp only [Value.slice.injEq,true_and] at he
     obtain ⟨rfl,rfl⟩:=he
     have hgl:gl < wy.heap.size:=(World.ownsRow.lt hI.row gl rfl).2
     have hh:=(unhide HS).head i hlti
     have hli:l.getD i 0 < 256:=by have:=unhide HLT;omega
     have HAL:=hide (alike_any wy b rs (RtS_below (unhide HRT) hI.below) (unhide HL) c (l.getD i 0) (unhide HLT) hli)
     have HI:=hide hI
     have HNO:=hide hno
     have HLI:=hide hlti
     have k0:wy.cell? ⟨gk,c,none⟩=some (.int .i64 ((f1 c:Nat):Int)):=by rw [cell_of_row _ _ _ _ _ _ hI.kd];exact kdA_at f1 (unhide HLT)
     have hz:=frozen_of_row wy gk c _ _ hI.kd
     clear hi hI hno hlti hh hli
     generalize hy:l.getD i 0=y at *
     have HY:=hide hy
     clear hy
     go_wp2_with fail
     refine (unhide HAL).mono ?_
     rintro e w3 ⟨⟨z,rfl,hzz⟩,n,rfl⟩
     clear HAL
     cases z
     ·have HNO2:Hid (∀ j,j < i+1→¬alkB rs c (l.getD j 0)):=fun j hj=>by
       by_cases e:j=i
       ·subst e
        rw [unhide HY]
        exact fun h=>by simpa using hzz.2 h
       ·exact unhide HNO j (by omega)
      clear hzz
      go_wp2_with fail
      go_roundw
      case rel=>exact ⟨i+1,by go_num,unhide HLI,(unhide HI).drewN n,unhide HNO2⟩
      case measure=>have:=unhide HLI;simp [intOf];omega
     ·have HALK:Hid (alkB rs c (l.getD i 0)):=by rw [unhide HY];exact hzz.1 rfl
      obtain ⟨hz3,hI3⟩:=((unhide HI).drewN n).put c i
      have HI3:=hide hI3
      have hne:¬(i:Int)=(l.length:Int):=by omega
      have k3:((wy.drewN n).setCell ⟨gk,c,none⟩ (.int .i64 ((i:Nat):Int))).cell? ⟨gk,c,none⟩=some (.int .i64 (i:Int)):=by rw [cell_of_row _ _ _ _ _ _ hI3.kd,kdA_at _ (unhide HLT)];simp
      have hgk3:=hI3.lk
      clear hzz hI3
      go_wp2_with fail
      go_roundw
      case rel=>exact ⟨c+1,_,_,l,(fun j=>if j=c then i else f1 j),rfl,by go_num,unhide HLT,by have:=unhide HLC;omega,(unhide HS).old (alk_eqv rs) (unhide HLI) (unhide HALK) (fun a ha=>by have:=(unhide HF1).2 a ha;show (if a=c then i else f1 a)=f a;rw [if_neg (by omega)];exact this) (if_pos rfl),unhide HI3⟩
      case measure=>have:=unhide HLT;simp [intOf];omega
    ·have hi2:i=l.length:=by omega
     subst hi2
     have hiI:¬(l.length:Int) < (l.length:Int):=by omega
     have k0:wy.cell? ⟨gk,c,none⟩=some (.int .i64 (l.length:Int)):=by rw [cell_of_row _ _ _ _ _ _ hI.kd,kdA_at f1 (unhide HLT),(unhide HF1).1]
     have HI:=hide hI
     have HNO:=hide hno
     have HXA:=hide (hI.alloc (Obj.cells #[.int .i64 (c:Int)] 3))
     have HSZ:Hid (w.heap.size≤wy.heap.size):=hI.below.size
     clear hi hI hno hlti
     go_wp2_with (at_builtin;refine app1 rfl (.tmp 40) (.tmp 42) rfl w.heap.size _ l rfl (unhide HXA).row wy.heap.size c rfl (new_cell rfl) (by have:=unhide HLC;have:=unhide HLT;omega) (by have:=unhide HSZ;simp;omega) (wy.heap.size+1) (by simp) ?_;intro g5 cap5 w8 ho hgrow hlies hlt5;have HP9:=hide ((unhide HXA).push hgrow ho);clear ho hgrow hlies)
     go_roundw
     case rel=>exact ⟨c+1,some ⟨g5,0,none⟩,cap5,l++[c],f1,by simp,by go_num,unhide HLT,by have:=unhide HLC;simp;omega,(unhide HS).new (alk_eqv rs) (unhide HNO) (unhide HF1).2 (unhide HF1).1,unhide HP9⟩
     case measure=>have:=unhide HLT;simp [intOf];omega
  ·have hc2:c=256:=by omega
   subst hc2
   have HS:=hide hS
   have HI:=hide hI
   have HK1:Hid (IsKd wr.drew (.pointer (some ⟨gk,0,none⟩)) (kdA f)):=⟨gk,rfl,hI.kd,kdA_size f⟩
   have HK2:Hid (IsKd wr.drew (.pointer (some ⟨g3,0,none⟩)) (kdA fun _=>0)):=⟨g3,rfl,hI.rs,kdA_size _⟩
   have hT1:=(unhide HK1).has
   have hT2:=(unhide HK1).of
   have hT3:=(unhide HK2).has
   have hT4:IsKv (.agg (kdA f)):=⟨_,rfl,kdA_size f,kdA_one f⟩
   have hb3:blkV (.pointer (some ⟨g3,0,none⟩))=g3:=rfl
   clear hc hlc hS hI hlt
   generalize hka:kdA f=ka at *
   have HKA:=hide hka
   clear hka
   go_wp2_with fail
   go_region
   all_goals
    go_wp2_with fail
    refine bodyPost_ret (res_tmp_row (p:=3) (u:=2) (ty:=44) rfl _ _ g3 44 ka (0,0) _ rfl (setRow_heap _ _ _ _ _ _ (by exact (unhide HI).rs)) Tryz.underlying44 rfl (by rw [←unhide HKA,kdA_size];exact infoKd) _ rfl) rfl ?_
    refine ⟨va,vc,l,f,by rw [unhide HKA];rfl,unhide HS,below_setRow (unhide HI).below.drew (unhide HI).h3 _,?_⟩
    exact (Fr.ofRow _ _ _).own (show NR wr.drew w.heap.size (.slice va l.length vc) l from (unhide HI).row) (fun q hq=>by simpa using own_off (unhide HI).row (unhide HI).rs (by decide) q hq)
end
end Mc
end Go.Proofs.YtobfpgoepaeknaaGreat
namespace Go.Proofs.YtobfpgoepaeknaaGreat
namespace Mc
open Go.RowKit
attribute [local go_sem ↓] Go.wp_at_zero Go.wp_at_succ
structure Pr where
 av:Value
 A:List ByteArray
 bv:Value
 B:List ByteArray
 S:ByteArray
def prC (z:Pr):List Value:=[z.av,z.bv,.string z.S]
theorem flat3:∀ (L:List Pr) (k j:Nat) (z:Pr),L[k]?=some z→j < 3→(L.flatMap prC)[k * 3+j]?=(prC z)[j]?
 | [],k,j,a,h,_=>by simp at h
 | x ::L,0,j,a,h,hj=>by
  simp only [List.getElem?_cons_zero,Option.some.injEq] at h
  subst h
  rw [List.flatMap_cons,Nat.zero_mul,Nat.zero_add,List.getElem?_append_left (by exact hj)]
 | x ::L,k+1,j,a,h,hj=>by
  rw [List.getElem?_cons_succ] at h
  have h3:(prC x).length=3:=rfl
  rw [List.flatMap_cons,List.getElem?_append_right (by rw [h3];omega),h3,show (k+1) * 3+j - 3=k * 3+j by omega]
  exact flat3 L k j a h hj
theorem own_tyT {w:World} {B e z:Nat} {v:Value} {n:Nat} {xs:List Value} (h:w.ownsRow B e z v n xs) {q:Nat} (hq:v.ownBlock=some q):∃ cs,w.heap[q]?=some (.cells cs e (0,0)):=by
 rcases h.2 with ⟨rfl,_⟩ | ⟨g,cap,cur,rfl,_,hg,_⟩
 ·simp [Value.ownBlock] at hq
 ·have:g=q:=by simpa [Value.ownBlock] using hq
  subst this
  exact ⟨_,hg⟩
structure PrR (w:World) (Bd:Nat) (va:Option Addr) (vc:Nat) (Z:List Pr):Prop where
 own:w.ownsRow Bd 199 3 (.slice va Z.length vc) Z.length (Z.flatMap prC)
 rows:∀ z∈Z,SRow w 0 z.av z.A∧SRow w 0 z.bv z.B
section
variable {w w' : World} {Bd : Nat} {va : Option Addr} {vc : Nat} {Z : List Pr}
theorem PrR.below (h:PrR w Bd va vc Z) (hb:Below w.heap.size w w'):PrR w' Bd va vc Z:=⟨own_belowZ h.own hb,fun z hz=>⟨(h.rows z hz).1.below hb,(h.rows z hz).2.below hb⟩⟩
theorem PrR.fy (h:PrR w Bd va vc Z) {b:Nat} {rs:List Rn} (hf:Fy b w w') (ht:RtS w b rs):PrR w' Bd va vc Z:=⟨hf.own ht h.own (by decide) (by decide),fun z hz=>⟨(h.rows z hz).1.fy hf ht,(h.rows z hz).2.fy hf ht⟩⟩
theorem PrR.at (h:PrR w Bd va vc Z) {k:Nat} {z:Pr} (hk:Z[k]?=some z):∃ g,va=some ⟨g,0,none⟩∧g < w.heap.size∧w.cell? ⟨g,k * 3,none⟩=some z.av∧w.cell? ⟨g,k * 3+1,none⟩=some z.bv∧w.cell? ⟨g,k * 3+2,none⟩=some (.string z.S)∧SRow w 0 z.av z.A∧SRow w 0 z.bv z.B:=by
 have hl:=(List.getElem?_eq_some_iff.1 hk).1
 obtain ⟨g,cap,he⟩:=own_form h.own (by omega)
 simp only [Value.slice.injEq,true_and] at he
 obtain ⟨rfl,rfl⟩:=he
 have hc:∀ j,j < 3→∀ u,(prC z)[j]?=some u→w.cell? ⟨g,k * 3+j,none⟩=some u:=fun j hj u hu=>by
  have:=h.own.cells (g:=g) rfl (k * 3+j) u (by rw [flat3 Z k j z hk hj];exact hu)
  rwa [add0] at this
 obtain ⟨r1,r2⟩:=h.rows z (List.mem_of_getElem? hk)
 exact ⟨g,rfl,(h.own.lt g rfl).2,hc 0 (by decide) _ rfl,hc 1 (by decide) _ rfl,hc 2 (by decide) _ rfl,r1,r2⟩
end
set_option maxRecDepth 20000 in
set_option maxHeartbeats 2000000 in
theorem seen_any (w:World) (Bd:Nat) (va:Option Addr) (vc:Nat) (Z:List Pr) (h:PrR w Bd va vc Z) (hZ:Z.length≤100000000) (hl:∀ z∈Z,z.A.length≤13∧z.B.length≤13) (B1 B2:Nat) (u v:Value) (A B:List ByteArray) (hu:SRow w B1 u A) (hv:SRow w B2 v B) (hA:A.length≤13) (hB:B.length≤13) :
  Calls Tryz.prog 127 #[.slice va Z.length vc,u,v] w fun e w'=>(∃ y,e=.returned (.bool y)∧(y=true↔∃ z∈Z,z.A=A∧z.B=B))∧Below w.heap.size w w':=by
 obtain ⟨ua,uc,rfl⟩:=hu.form
 obtain ⟨xa,xc,rfl⟩:=hv.form
 have hzI:(Z.length:Int)≤100000000:=by omega
 have HP:=hide h
 have HL:=hide hl
 have HU:=hide hu
 have HV:=hide hv
 have HA:=hide hA
 have HB:=hide hB
 clear h hl hu hv hA hB hZ
 go_enter Tryz.func127,Tryz.ntmps127
 go_wp2_with fail
 go_loopw [7] (fun ix wr=>∃ i:Nat,ix=.int .i64 (i:Int)∧Hid (i≤Z.length∧Below w.heap.size w wr∧∀ (k:Nat) z,k < i→Z[k]?=some z→¬(z.A=A∧z.B=B))) (fun ix _=>Z.length - (intOf ix).toNat)
 case atStart=>exact ⟨0,rfl,Nat.zero_le _,Below.refl _ _,fun k z hk=>by omega⟩
 case round =>
  rename World=>wr
  obtain ⟨i,rfl,HH⟩:=hrel
  obtain ⟨hi,hBw,hno⟩:=unhide HH
  clear HH
  by_cases hlt:i < Z.length
  ·have hiI:(i:Int) < (Z.length:Int):=by omega
   have hi0:(0:Int)≤(i:Int):=by omega
   have hi1:((i:Int)).toNat=i:=by omega
   obtain ⟨z,hz⟩:∃ z,Z[i]?=some z:=⟨_,List.getElem?_eq_getElem hlt⟩
   obtain ⟨g,rfl,hg,c0,c1,c2,r1,r2⟩:=((unhide HP).below hBw).at hz
   have hzl:=unhide HL z (List.mem_of_getElem? hz)
   have HS1:=hide (sameTerms_any wr 0 B1 z.av _ z.A A r1 ((unhide HU).below hBw) (by omega) (by have:=unhide HA;omega))
   have HS2:=hide (fun W (hW:Below w.heap.size w W) (hr:SRow W 0 z.bv z.B)=>sameTerms_any W 0 B2 z.bv _ z.B B hr ((unhide HV).below hW) (by omega) (by have:=unhide HB;omega))
   obtain ⟨pa,pc,hpa⟩:=r1.form
   obtain ⟨qa,qc,hqa⟩:=r2.form
   have HBW:=hide hBw
   have HLT:=hide hlt
   have HZ:=hide hz
   have HNO:=hide hno
   have HYES:Hid (z.A=A→z.B=B→∃ z∈Z,z.A=A∧z.B=B):=fun h1 h2=>⟨z,List.mem_of_getElem? hz,h1,h2⟩
   have HST:Hid (¬(z.A=A∧z.B=B)→∀ (k:Nat) z,k < i+1→Z[k]?=some z→¬(z.A=A∧z.B=B)):=fun h k z' hk hz'=>by
    by_cases e:k=i
    ·subst e;rw [hz] at hz';cases hz';exact h
    ·exact hno k z' (by omega) hz'
   have HR2:=hide r2
   rw [hpa] at c0 HS1
   rw [hqa] at c1
   have HC1:=hide c1
   have HQ:=hide hqa
   clear hi hBw hno hlt hz r1 r2 hzl hpa hqa c1 c2
   go_wp2_with fail
   refine (unhide HS1).mono ?_
   rintro e w1 ⟨⟨y1,rfl,hy1⟩,hb1⟩
   have HB1:Hid (Below w.heap.size w w1):=(unhide HBW).trans (hb1.mono (unhide HBW).size)
   have c1:=Mc.below_cell hb1 (unhide HC1)
   have hg1:g < w1.heap.size:=World.block_lt_of_cell? w1 ⟨g,i * 3+1,none⟩ c1
   have HR3:=hide ((unhide HR2).below hb1)
   clear hb1 HS1 c0 hg
   cases y1
   ·have HS:=hide (unhide HST (fun h=>by have:=hy1.2 h.1;simp at this))
    clear hy1
    go_wp2_with fail
    go_roundw
    case rel=>exact ⟨i+1,by go_num,unhide HLT,unhide HB1,unhide HS⟩
    case measure=>have:=unhide HLT;simp [intOf];omega
   ·have hA':=hy1.1 rfl
    have HEA:=hide hA'
    have HS2':=hide (unhide HS2 w1 (unhide HB1) (unhide HR3))
    rw [unhide HQ] at HS2'
    clear hy1 hA'
    go_wp2_with fail
    refine (unhide HS2').mono ?_
    rintro e w2 ⟨⟨y2,rfl,hy2⟩,hb2⟩
    have HB2:Hid (Below w.heap.size w w2):=(unhide HB1).trans (hb2.mono (unhide HB1).size)
    clear hb2
    cases y2
    ·have HS:=hide (unhide HST (fun h=>by have:=hy2.2 h.2;simp at this))
     clear hy2
     go_wp2_with fail
     go_roundw
     case rel=>exact ⟨i+1,by go_num,unhide HLT,unhide HB2,unhide HS⟩
     case measure=>have:=unhide HLT;simp [intOf];omega
    ·have HYY:=hide (unhide HYES (unhide HEA) (hy2.1 rfl))
     clear hy2
     go_wp2_with fail
     go_ret
     exact ⟨⟨true,rfl,by simpa using unhide HYY⟩,unhide HB2⟩
  ·have hi2:i=Z.length:=by omega
   subst hi2
   have HF:Hid (¬∃ z∈Z,z.A=A∧z.B=B):=fun ⟨z,hz,h⟩=>by
    obtain ⟨k,hk⟩:=List.getElem?_of_mem hz
    exact hno k z (List.getElem?_eq_some_iff.1 hk).1 hk h
   have HBW:=hide hBw
   clear hi hBw hno hlt
   go_wp2_with fail
   go_ret
   exact ⟨⟨false,rfl,⟨fun h=>(by cases h),fun h=>absurd h (unhide HF)⟩⟩,unhide HBW⟩
end Mc
end Go.Proofs.YtobfpgoepaeknaaGreat
namespace Go.Proofs.YtobfpgoepaeknaaGreat
theorem apart_same {hb:List Nat} {n:Nat} {Pf Qf:Nat→Lang} (hend:∀ k,k < n→(Pf k []↔Qf k [])) (hcl:∀ k,k < n→∀ j,j < hb.length→(∀ w,derL (hb.getD j 0) (Pf k) w↔derL (hb.getD j 0) (Qf k) w)∨∃ k',k' < n∧Pf k'=derL (hb.getD j 0) (Pf k)∧Qf k'=derL (hb.getD j 0) (Qf k)):∀ (w:List Nat) (k:Nat),k < n→(∀ x∈w,x∈hb)→(Pf k w↔Qf k w)
 | [],k,hk,_=>hend k hk
 | c ::w,k,hk,hw=>by
  obtain ⟨j,hj,hc⟩:=List.getElem_of_mem (hw c (by simp))
  have hcj:hb.getD j 0=c:=by rw [List.getD_eq_getElem?_getD,List.getElem?_eq_getElem hj];exact hc
  rcases hcl k hk j hj with h | ⟨k',hk',h1,h2⟩
  ·rw [hcj] at h;exact h w
  ·rw [hcj] at h1 h2
   have ih:=apart_same hend hcl w k' hk' (fun x hx=>hw x (by simp [hx]))
   rw [h1,h2] at ih
   exact ih
theorem alk_rep {rs:List Rn} {hb:List Nat} {kd:Nat→Nat} (hs:Sorted 256 (alkB rs) hb kd):∀ (w:List Nat),bytesOk w→Alk2 rs w (w.map fun c=>hb.getD (kd c) 0)∧(∀ x∈w.map fun c=>hb.getD (kd c) 0,x∈hb)∧bytesOk (w.map fun c=>hb.getD (kd c) 0)
 | [],_=>⟨trivial,fun x hx=>by simp at hx,bytesOk_nil⟩
 | c ::w,hw=>by
  obtain ⟨hc,hw'⟩:=bytesOk_tail hw
  obtain ⟨h1,h2,h3⟩:=alk_rep hs w hw'
  have hk:=hs.lt c hc
  have hh:=hs.head _ hk
  have he:alkB rs c (hb.getD (kd c) 0):=(hs.iff c _ hc hh.1).1 hh.2.symm
  refine ⟨⟨he,h1⟩,fun x hx=>?_,bytesOk_cons hh.1 h3⟩
  rw [List.map_cons] at hx
  rcases List.mem_cons.1 hx with rfl | hx
  ·rw [List.getD_eq_getElem?_getD,List.getElem?_eq_getElem hk];exact List.getElem_mem _
  ·exact h2 x hx
theorem eqb_reps {rs:List Rn} {hb:List Nat} {kd:Nat→Nat} (hs:Sorted 256 (alkB rs) hb kd) {L:Lang} (hL:SameA rs L) {A B:Lang} {u v:List Nat} (hA:EqB A (derS u L)) (hB:EqB B (derS v L)) (h:∀ w,(∀ x∈w,x∈hb)→(A w↔B w)):EqB A B:=fun w hw=>by
 obtain ⟨h1,h2,h3⟩:=alk_rep hs w hw
 have key:∀ {C:Lang} {u:List Nat},EqB C (derS u L)→(C w↔C (w.map fun c=>hb.getD (kd c) 0)):=fun {C u} hC=>by
  rw [hC w hw,hC _ h3]
  exact ⟨hL _ _ (alk_app u h1),hL _ _ (alk_app u h1.symm)⟩
 rw [key hA,key hB]
 exact h _ h2
theorem pigeonX (n:Nat):∀ (f:Nat→Nat),(∀ i,i≤n→f i < n)→∃ i j,i < j∧j≤n∧f i=f j:=by
 induction n with
 | zero=>intro f h;have:=h 0 (Nat.le_refl _);omega
 | succ n ih =>
  intro f h
  by_cases hx:∃ i,i≤n∧f i=f (n+1)
  ·obtain ⟨i,hi,e⟩:=hx
   exact ⟨i,n+1,by omega,Nat.le_refl _,e⟩
  ·have hn:∀ i,i≤n→f i≠f (n+1):=fun i hi e=>hx ⟨i,hi,e⟩
   have hl:=h (n+1) (Nat.le_refl _)
   obtain ⟨i,j,hij,hj,e⟩:=ih (fun i=>if f i < f (n+1) then f i else f i - 1) fun i hi=>by
    have:=hn i hi;have:=h i (by omega)
    split<;>omega
   refine ⟨i,j,hij,by omega,?_⟩
   have:=hn i (by omega);have:=hn j hj
   split at e<;>split at e<;>omega
theorem pairs_few {rs0 rs:List Rn} {U:List (List Nm)} (hg:GrowT rs0 rs) (hU:U.length≤13) {n:Nat} {Af Bf:Nat→List ByteArray} (hA:∀ i,i < n→VSet rs0 rs U (Af i)) (hB:∀ i,i < n→VSet rs0 rs U (Bf i)) (hne:∀ i j,i < j→j < n→¬(Af i=Af j∧Bf i=Bf j)):n≤67108864:=by
 refine Nat.le_of_not_lt fun hlt=>?_
 have hm:∀ f:List Nm→Bool,maskU f U < 8192:=fun f=>Nat.lt_of_lt_of_le (maskU_lt f U) (by
  have:=Nat.pow_le_pow_right (show 0 < 2 by decide) hU
  simpa using this)
 obtain ⟨i,j,hij,hj,e⟩:=pigeonX 67108864 (fun i=>maskU (memU rs0 rs (Af i)) U * 8192+maskU (memU rs0 rs (Bf i)) U) (fun i _=>by
  have h1:=hm (memU rs0 rs (Af i))
  have h2:=hm (memU rs0 rs (Bf i))
  show _ < _
  omega)
 have a1:=hm (memU rs0 rs (Bf i))
 have a2:=hm (memU rs0 rs (Bf j))
 have e':maskU (memU rs0 rs (Af i)) U * 8192+maskU (memU rs0 rs (Bf i)) U=maskU (memU rs0 rs (Af j)) U * 8192+maskU (memU rs0 rs (Bf j)) U:=e
 refine hne i j hij (by omega) ⟨mask_inj hg.gr (hA i (by omega)).inu (hA j (by omega)).inu (hA i (by omega)).srt (hA j (by omega)).srt (by omega),mask_inj hg.gr (hB i (by omega)).inu (hB j (by omega)).inu (hB i (by omega)).srt (hB j (by omega)).srt (by omega)⟩
end Go.Proofs.YtobfpgoepaeknaaGreat
namespace Go.Proofs.YtobfpgoepaeknaaGreat
namespace Mc
open Go.RowKit
theorem infoPr:(Tryz.prog.info? 199).map (fun i=>(i.zero,i.size,i.bytes))=some (some (.agg #[.slice none 0 0,.slice none 0 0,.string ⟨#[]⟩]),3,64):=by kernel_rfl
theorem appPr {ops:Array Oper} {o:Oper} {a:Act} {W:World} {K:Act→World→Prop} {Q:Exit→Act→World→Prop} {E:Prop} (hgd:o.guard=none) (s x:Operand)
  (ho:o.op=.call { callee:=.builtin .append,args:=#[s,x],argTypes:=#[200,200] }) (B:Nat) (v:Value) (n:Nat) (xs:List Value) (hs:a.eval s=v) (hown:W.ownsRow B 199 3 v n xs) (g0:Nat) (z:Pr) (h1:z.av.oneCell'=true) (h2:z.bv.oneCell'=true)
  (hx:a.eval x=.slice (some ⟨g0,0,none⟩) 1 1) (hc:W.heap[g0]?=some (.cells #[z.av,z.bv,.string z.S] 199 (0,0))) (hlen:n≤100000000) (hB:B≤W.heap.size) (H:Nat) (hH:W.heap.size=H)
  (h:∀ g cap w',w'.ownsRow B 199 3 (.slice (some ⟨g,0,none⟩) (n+1) cap) (n+1) (xs++prC z)→W.grownBy w' v.ownBlock→(v.ownBlock=some g∨g=H)→g < w'.heap.size→K (a.put o.dst (.slice (some ⟨g,0,none⟩) (n+1) cap)) w') :
  if Region.wanted o (yielded ops a.tmps)=true then Oper.wp Tryz.prog o a W K Q else E:=by
 obtain ⟨i,i0,i1,i2,i3⟩:=info_of infoPr
 refine step_append_lies W hgd s x 200 ho B 199 i _ 3 64 Tryz.underlying200 i0 i1 i2 i3 rfl (by decide) v n xs hs hown ⟨g0,0,none⟩ 1 1 (prC z) hx rfl (World.news_of_block hc) (fun u hu=>?_) (by decide) (by unfold maxLen;omega) (by omega) hB H hH h
 simp only [prC,List.mem_cons,List.not_mem_nil,or_false] at hu
 rcases hu with rfl | rfl | rfl
 ·exact h1
 ·exact h2
 ·rfl
section
variable {w W w2 : World} {Bd : Nat} {va : Option Addr} {vc : Nat} {Z : List Pr}
theorem srow_grow {e z n:Nat} {v:Value} {xs:List Value} {B B':Nat} (h:W.ownsRow B' e z v n xs) (he:e≠9) {u:Value} {X:List ByteArray} (hu:SRow W B u X) (hgrow:W.grownBy w2 v.ownBlock):SRow w2 B u X :=
 (Fr.ofGrown hgrow).own hu (fun q hq hm=>by
  obtain ⟨cs,hc⟩:=own_tyT hu hq
  obtain ⟨cs',hc'⟩:=own_tyT h (Option.mem_toList.1 hm)
  rw [hc] at hc'
  simp at hc'
  exact he hc'.2.symm)
theorem PrR.push (h:PrR W Bd va vc Z) {g cap:Nat} {z:Pr} (hgrow:W.grownBy w2 (.slice va Z.length vc:Value).ownBlock) (ho:w2.ownsRow Bd 199 3 (.slice (some ⟨g,0,none⟩) (Z.length+1) cap) (Z.length+1) (Z.flatMap prC++prC z)) (h1:SRow W 0 z.av z.A) (h2:SRow W 0 z.bv z.B):PrR w2 Bd (some ⟨g,0,none⟩) cap (Z++[z]):=by
 refine ⟨?_,fun z' hz'=>?_⟩
 ·rw [List.length_append,List.flatMap_append]
  simpa using ho
 ·rcases List.mem_append.1 hz' with hz | hz
  ·exact ⟨srow_grow h.own (by decide) (h.rows z' hz).1 hgrow,srow_grow h.own (by decide) (h.rows z' hz).2 hgrow⟩
  ·rw [List.mem_singleton.1 hz]
   exact ⟨srow_grow h.own (by decide) h1 hgrow,srow_grow h.own (by decide) h2 hgrow⟩
theorem trk_grow {rs0:List Rn} {b:Nat} {rs rs1:List Rn} (h:TrK rs0 b w rs W rs1) (hb:b < w.heap.size) {v:Value} {n:Nat} {xs:List Value} (ho:W.ownsRow w.heap.size 199 3 v n xs) (hgrow:W.grownBy w2 v.ownBlock):TrK rs0 b w rs w2 rs1:=by
 have hlt:∀ q,v.ownBlock=some q→w.heap.size≤q:=fun q hq=>(ho.lt q hq).1
 have hbk:∀ k,k < w.heap.size→w2.heap[k]?=W.heap[k]?:=fun k hk=>hgrow.block k (Nat.lt_of_lt_of_le hk h.fy.below.size) (fun e=>by have:=hlt k e.symm;omega)
 refine ⟨⟨h.fy.below.grown hgrow (Nat.le_trans (Nat.le_of_lt hb) h.fy.below.size) (fun k hk=>by have:=hlt k hk;omega),fun k hk hkb hr=>(hbk k hk).trans (h.fy.keep k hk hkb hr),fun k hk=>?_⟩,?_,h.gr,h.ex⟩
 ·obtain ⟨v',fr,g1,g2⟩:=hk
  rw [hbk b hb] at g1
  exact h.fy.row k ⟨v',fr,g1,g2⟩
 ·obtain ⟨tv,h1,h2⟩:=h.rt
  refine ⟨tv,(hbk b hb).trans h1,(Fr.ofGrown hgrow).own h2 (fun q hq hm=>?_)⟩
  obtain ⟨cs,hc⟩:=own_tyT h2 hq
  obtain ⟨cs',hc'⟩:=own_tyT ho (Option.mem_toList.1 hm)
  rw [hc] at hc'
  simp at hc'
end
def PL (L:Lang) (z:Pr):Lang:=derS (bytesN z.S) L
structure ApM (LA LB:Lang) (hb:List Nat) (Z:List Pr) (i j:Nat):Prop where
 len:∀ (k:Nat) z,Z[k]?=some z→z.S.size≤k
 nodup:∀ (k k':Nat) z z',k < k'→Z[k]?=some z→Z[k']?=some z'→¬(z.A=z'.A∧z.B=z'.B)
 ends:∀ (k:Nat) z,k < i→Z[k]?=some z→(PL LA z []↔PL LB z [])
 cl:∀ (k q:Nat) z,((k < i∧q < hb.length)∨(k=i∧q < j))→Z[k]?=some z→(∀ w,derL (hb.getD q 0) (PL LA z) w↔derL (hb.getD q 0) (PL LB z) w)∨∃ (k':Nat) (z':Pr),Z[k']?=some z'∧PL LA z'=derL (hb.getD q 0) (PL LA z)∧PL LB z'=derL (hb.getD q 0) (PL LB z)
 first:∃ z,Z[0]?=some z∧z.S=⟨#[]⟩
section
variable {LA LB : Lang} {hb : List Nat} {Z : List Pr} {i j : Nat}
theorem prget_snoc {z x:Pr} {k:Nat} (h:(Z++[x])[k]?=some z):Z[k]?=some z∨(k=Z.length∧z=x):=get_snoc h
theorem ApM.start (z:Pr) (hz:z.S=⟨#[]⟩):ApM LA LB hb [z] 0 0:=by
 refine ⟨fun k z' h=>?_,fun k k' z1 z2 hk h1 h2=>?_,fun k z' hk=>by omega,fun k q z' hk=>?_,⟨z,rfl,hz⟩⟩
 ·have:=get_lt h
  simp at this
  subst this
  simp at h
  rw [←h,hz];exact Nat.le_refl _
 ·have:=get_lt h2;simp at this;omega
 ·rcases hk with hk | hk<;>omega
theorem ApM.keep (h:ApM LA LB hb Z i j) {z:Pr} (hi:Z[i]?=some z) (hc:(∀ w,derL (hb.getD j 0) (PL LA z) w↔derL (hb.getD j 0) (PL LB z) w)∨∃ (k':Nat) (z':Pr),Z[k']?=some z'∧PL LA z'=derL (hb.getD j 0) (PL LA z)∧PL LB z'=derL (hb.getD j 0) (PL LB z)):ApM LA LB hb Z i (j+1):=by
 refine ⟨h.len,h.nodup,h.ends,fun k q z' hk hz=>?_,h.first⟩
 rcases hk with hk | ⟨rfl,hq⟩
 ·exact h.cl k q z' (.inl hk) hz
 ·by_cases e:q=j
  ·subst e
   rw [hi] at hz
   cases hz
   exact hc
  ·exact h.cl k q z' (.inr ⟨rfl,by omega⟩) hz
theorem ApM.new (h:ApM LA LB hb Z i j) {z x:Pr} (hi:Z[i]?=some z) (hx:bytesN x.S=bytesN z.S++[hb.getD j 0]) (hno:∀ z∈Z,¬(z.A=x.A∧z.B=x.B)):ApM LA LB hb (Z++[x]) i (j+1):=by
 have hil:=get_lt hi
 have hz:=h.len i z hi
 have hxs:x.S.size=z.S.size+1:=by rw [←bytesN_len,hx,List.length_append,bytesN_len];rfl
 have hpl:∀ L,PL L x=derL (hb.getD j 0) (PL L z):=fun L=>by unfold PL;rw [hx,derS_snoc]
 refine ⟨fun k z' hk=>?_,fun k k' z1 z2 hkk h1 h2=>?_,fun k z' hk hz'=>?_,fun k q z' hk hz'=>?_,?_⟩
 ·rcases prget_snoc hk with hk | ⟨rfl,rfl⟩
  ·exact h.len k z' hk
  ·omega
 ·rcases prget_snoc h2 with h2 | ⟨rfl,rfl⟩
  ·rcases prget_snoc h1 with h1 | ⟨rfl,-⟩
   ·exact h.nodup k k' z1 z2 hkk h1 h2
   ·have:=get_lt h2;omega
  ·rcases prget_snoc h1 with h1 | ⟨rfl,-⟩
   ·exact hno z1 (List.mem_of_getElem? h1)
   ·omega
 ·rcases prget_snoc hz' with hz' | ⟨rfl,-⟩
  ·exact h.ends k z' hk hz'
  ·omega
 ·have hz2:Z[k]?=some z':=by
   rcases prget_snoc hz' with hz' | ⟨rfl,-⟩
   ·exact hz'
   ·rcases hk with hk | hk<;>omega
  have up:((∀ w,derL (hb.getD q 0) (PL LA z') w↔derL (hb.getD q 0) (PL LB z') w)∨∃ (k':Nat) (y:Pr),Z[k']?=some y∧PL LA y=derL (hb.getD q 0) (PL LA z')∧PL LB y=derL (hb.getD q 0) (PL LB z'))→((∀ w,derL (hb.getD q 0) (PL LA z') w↔derL (hb.getD q 0) (PL LB z') w)∨∃ (k':Nat) (y:Pr),(Z++[x])[k']?=some y∧PL LA y=derL (hb.getD q 0) (PL LA z')∧PL LB y=derL (hb.getD q 0) (PL LB z')):=fun hh=>hh.elim .inl (fun ⟨k',y,g1,g2⟩=>.inr ⟨k',y,get_snoc_old g1,g2⟩)
  rcases hk with hk | ⟨rfl,hq⟩
  ·exact up (h.cl k q z' (.inl hk) hz2)
  ·by_cases e:q=j
   ·subst e
    rw [hi] at hz2
    cases hz2
    exact .inr ⟨Z.length,x,by simp,hpl LA,hpl LB⟩
   ·exact up (h.cl k q z' (.inr ⟨rfl,by omega⟩) hz2)
 ·obtain ⟨z0,g1,g2⟩:=h.first
  exact ⟨z0,get_snoc_old g1,g2⟩
theorem ApM.row (h:ApM LA LB hb Z i hb.length) {z:Pr} (hi:Z[i]?=some z) (he:PL LA z []↔PL LB z []):ApM LA LB hb Z (i+1) 0:=by
 refine ⟨h.len,h.nodup,fun k z' hk hz=>?_,fun k q z' hk hz=>?_,h.first⟩
 ·by_cases e:k=i
  ·subst e;rw [hi] at hz;cases hz;exact he
  ·exact h.ends k z' (by omega) hz
 ·rcases hk with ⟨hk,hq⟩ | ⟨-,hq⟩
  ·by_cases e:k=i
   ·exact h.cl k q z' (.inr ⟨e,hq⟩) hz
   ·exact h.cl k q z' (.inl ⟨by omega,hq⟩) hz
  ·omega
theorem ApM.same (h:ApM LA LB hb Z Z.length 0):∀ w,(∀ x∈w,x∈hb)→(LA w↔LB w):=fun w hw=>by
 obtain ⟨z0,g1,g2⟩:=h.first
 have key:=apart_same (hb:=hb) (n:=Z.length) (Pf:=fun k=>PL LA (Z.getD k z0)) (Qf:=fun k=>PL LB (Z.getD k z0))
  (fun k hk=>h.ends k _ hk (by rw [List.getD_eq_getElem?_getD,List.getElem?_eq_getElem hk];rfl))
  (fun k hk q hq=>by
   rcases h.cl k q (Z.getD k z0) (.inl ⟨hk,hq⟩) (by rw [List.getD_eq_getElem?_getD,List.getElem?_eq_getElem hk];rfl) with e | ⟨k',z',q1,q2,q3⟩
   ·exact .inl e
   ·have e':Z.getD k' z0=z':=by rw [List.getD_eq_getElem?_getD,q1];rfl
    exact .inr ⟨k',get_lt q1,by simp only [e'];exact q2,by simp only [e'];exact q3⟩) w 0 (get_lt g1) hw
 have e0:Z.getD 0 z0=z0:=by rw [List.getD_eq_getElem?_getD,g1];rfl
 simp only [e0] at key
 unfold PL at key
 rw [g2] at key
 exact key
end
end Mc
end Go.Proofs.YtobfpgoepaeknaaGreat
