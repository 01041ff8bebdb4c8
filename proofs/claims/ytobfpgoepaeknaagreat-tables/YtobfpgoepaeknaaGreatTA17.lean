/-
  The document's answer: a string that tells two sets apart: the walk.
  The document's answer: does a test tell two sets apart?
  The document's answer: the finder of states in memory.
  The document's answer: the number of a state.
-/
import Derived.Test.YtobfpgoepaeknaaGreatTA16
namespace Go.Proofs.YtobfpgoepaeknaaGreat
namespace Mc
open Go.RowKit
attribute [local go_sem ↓] Go.wp_at_zero Go.wp_at_succ
theorem bytesOk_bytesN (s:ByteArray):bytesOk (bytesN s):=fun x hx=>by
 unfold bytesN at hx
 obtain ⟨u,-,rfl⟩:=List.mem_map.1 hx
 exact u.toNat_lt
structure ApI (rs0:List Rn) (U:List (List Nm)) (b:Nat) (w:World) (rs:List Rn) (LA LB:Lang) (wr:World) (va:Option Addr) (vc:Nat) (Z:List Pr) (rs1:List Rn):Prop where
 trk:TrK rs0 b w rs wr rs1
 pr:PrR wr w.heap.size va vc Z
 set:∀ z∈Z,VSet rs0 rs1 U z.A∧VSet rs0 rs1 U z.B
 lang:∀ z∈Z,stB rs1 z.A=PL LA z∧stB rs1 z.B=PL LB z
section
variable {rs0 : List Rn} {U : List (List Nm)} {b : Nat} {w wr w2 : World} {rs rs1 rs2 : List Rn} {LA LB : Lang} {va : Option Addr} {vc : Nat} {Z : List Pr}
theorem ApI.below (h:ApI rs0 U b w rs LA LB wr va vc Z rs1) (hb:Below wr.heap.size wr w2):ApI rs0 U b w rs LA LB w2 va vc Z rs1:=⟨h.trk.below hb,h.pr.below hb,h.set,h.lang⟩
theorem ApI.next (h:ApI rs0 U b w rs LA LB wr va vc Z rs1) (k:TrK rs0 b wr rs1 w2 rs2):ApI rs0 U b w rs LA LB w2 va vc Z rs2:=by
 refine ⟨h.trk.trans k,h.pr.fy k.fy h.trk.rt,fun z hz=>?_,fun z hz=>?_⟩
 ·exact ⟨(k.set h.trk.gr (h.set z hz).1).1,(k.set h.trk.gr (h.set z hz).2).1⟩
 ·rw [(k.set h.trk.gr (h.set z hz).1).2,(k.set h.trk.gr (h.set z hz).2).2]
  exact h.lang z hz
theorem on_base {v:Value} {Y:List ByteArray} {Ln:Lang} {n:Nat} (h:OnI rs0 U b (wr.drewN n) rs1 w2 v Y rs2 Ln):OnI rs0 U b wr rs1 w2 v Y rs2 Ln:=⟨⟨⟨h.fy.below.os,h.fy.below.tape,h.fy.below.output,h.fy.below.size,h.fy.below.block⟩,h.fy.keep,h.fy.row⟩,h.rt,h.gr,h.ex,h.row,h.vs,h.eq⟩
theorem ApI.push (h:ApI rs0 U b w rs LA LB wr va vc Z rs1) (hbw:b < w.heap.size) {g cap:Nat} {x:Pr} (hgrow:wr.grownBy w2 (.slice va Z.length vc:Value).ownBlock) (ho:w2.ownsRow w.heap.size 199 3 (.slice (some ⟨g,0,none⟩) (Z.length+1) cap) (Z.length+1) (Z.flatMap prC++prC x)) (h1:SRow wr 0 x.av x.A) (h2:SRow wr 0 x.bv x.B) (hs:VSet rs0 rs1 U x.A∧VSet rs0 rs1 U x.B) (hl:stB rs1 x.A=PL LA x∧stB rs1 x.B=PL LB x):ApI rs0 U b w rs LA LB w2 (some ⟨g,0,none⟩) cap (Z++[x]) rs1:=by
 refine ⟨trk_grow h.trk hbw h.pr.own hgrow,h.pr.push hgrow ho h1 h2,fun z hz=>?_,fun z hz=>?_⟩
 ·rcases List.mem_append.1 hz with hz | hz
  ·exact h.set z hz
  ·rw [List.mem_singleton.1 hz];exact hs
 ·rcases List.mem_append.1 hz with hz | hz
  ·exact h.lang z hz
  ·rw [List.mem_singleton.1 hz];exact hl
theorem ApI.few (h:ApI rs0 U b w rs LA LB wr va vc Z rs1) (hT:TrC rs0 U) {hb:List Nat} {i j:Nat} (hM:ApM LA LB hb Z i j):Z.length≤67108864:=by
 by_cases h0:Z=[]
 ·rw [h0];simp
 ·obtain ⟨z0,g1,-⟩:=hM.first
  have hg:∀ k,k < Z.length→Z[k]?=some (Z.getD k z0):=fun k hk=>by rw [List.getD_eq_getElem?_getD,List.getElem?_eq_getElem hk];rfl
  exact pairs_few h.trk.gr hT.l13 (Af:=fun k=>(Z.getD k z0).A) (Bf:=fun k=>(Z.getD k z0).B) (fun k hk=>(h.set _ (List.mem_of_getElem? (hg k hk))).1) (fun k hk=>(h.set _ (List.mem_of_getElem? (hg k hk))).2) (fun k k' hkk hk'=>hM.nodup k k' _ _ hkk (hg k (by omega)) (hg k' hk'))
theorem ApI.short (h:ApI rs0 U b w rs LA LB wr va vc Z rs1) (hT:TrC rs0 U):∀ z∈Z,z.A.length≤13∧z.B.length≤13:=fun z hz=>by
 have h1:=(h.set z hz).1.len h.trk.gr
 have h2:=(h.set z hz).2.len h.trk.gr
 have:=hT.l13
 omega
end
set_option maxRecDepth 20000 in
set_option maxHeartbeats 4000000 in
theorem apart_any {rs0:List Rn} {U:List (List Nm)} (hT:TrC rs0 U) {b:Nat} (w:World) (rs:List Rn) (hb:RtS w b rs) (hg:GrowT rs0 rs) (B1 B2:Nat) (u v:Value) (A B:List ByteArray) (hu:SRow w B1 u A) (hv:SRow w B2 v B) (hA:VSet rs0 rs U A) (hB:VSet rs0 rs U B) (B3:Nat) (hv3:Value) (hbs:List Nat) (hn:NR w B3 hv3 hbs) (hb256:∀ x∈hbs,x < 256) (hbl:hbs.length≤256) :
  Calls Tryz.prog 83 #[.pointer (some ⟨b,0,none⟩),u,v,hv3] w fun e w'=>∃ rs',TrK rs0 b w rs w' rs'∧((∃ s,e=.returned (.tuple #[.string s,.bool true])∧s.size≤67108864∧bytesOk (bytesN s)∧¬(derS (bytesN s) (stB rs A) []↔derS (bytesN s) (stB rs B) []))∨(e=.returned (.tuple #[.string ⟨#[]⟩,.bool false])∧∀ x,(∀ c∈x,c∈hbs)→(stB rs A x↔stB rs B x))):=by
 obtain ⟨ua,uc,rfl⟩:=hu.form
 obtain ⟨xa,xc,rfl⟩:=hv.form
 obtain ⟨ha,hc,rfl⟩:=hn.form
 have hlI:(hbs.length:Int)≤256:=by omega
 have HT:=hide hT
 have HN:=hide hn
 have H256:=hide hb256
 have HBW:=hide (RtS_lt hb)
 have HRT:=hide hb
 have HI0:Hid (ApI rs0 U b w rs (stB rs A) (stB rs B) (w.alloc (.cells #[.slice ua A.length uc,.slice xa B.length xc,.string ⟨#[]⟩] 199)) (some ⟨w.heap.size,0,none⟩) 1 [⟨.slice ua A.length uc,A,.slice xa B.length xc,B,⟨#[]⟩⟩] rs):=by
  have hbe:Below w.heap.size w (w.alloc (.cells #[.slice ua A.length uc,.slice xa B.length xc,.string ⟨#[]⟩] 199)):=(Below.refl _ _).alloc (Nat.le_refl _) _
  refine ⟨(TrK.refl hb hg).below hbe,⟨⟨rfl,.inr ⟨_,1,_,rfl,Nat.le_refl _,heap_alloc_new _ _,Nat.le_refl _,by unfold maxLen;omega,rfl,rfl⟩⟩,fun z hz=>?_⟩,fun z hz=>?_,fun z hz=>?_⟩
  ·rw [List.mem_singleton.1 hz];exact ⟨hu.zero.below hbe,hv.zero.below hbe⟩
  ·rw [List.mem_singleton.1 hz];exact ⟨hA,hB⟩
  ·rw [List.mem_singleton.1 hz];exact ⟨rfl,rfl⟩
 clear hT hb hg hu hv hA hB hn hb256 hbl
 generalize stB rs A=LA at *
 generalize stB rs B=LB at *
 go_enter Tryz.func83,Tryz.ntmps83
 go_wp2_with fail
 go_loopw [10,11] (fun vx ix wr=>∃ (i:Nat) (va:Option Addr) (vc:Nat) (Z:List Pr) (rs1:List Rn),vx=.slice va Z.length vc∧ix=.int .i64 (i:Int)∧Hid (i≤Z.length∧ApM LA LB hbs Z i 0∧ApI rs0 U b w rs LA LB wr va vc Z rs1)) (fun _ ix _=>67108864 - (intOf ix).toNat)
 case atStart=>exact ⟨0,_,_,_,rs,rfl,rfl,Nat.zero_le _,ApM.start _ rfl,unhide HI0⟩
 case round =>
  clear HI0
  rename World=>wr
  obtain ⟨i,va,vc,Z,rs1,rfl,rfl,HH⟩:=hrel
  obtain ⟨hi,hM,hI⟩:=unhide HH
  clear HH
  have hfew:=hI.few (unhide HT) hM
  have hZI:(Z.length:Int)≤67108864:=by omega
  by_cases hlt:i < Z.length
  ·have hiI:(i:Int) < (Z.length:Int):=by omega
   have hi0:(0:Int)≤(i:Int):=by omega
   have hi1:((i:Int)).toNat=i:=by omega
   obtain ⟨z,hz⟩:∃ z,Z[i]?=some z:=⟨_,List.getElem?_eq_getElem hlt⟩
   obtain ⟨g,rfl,hgl,c0,c1,c2,r1,r2⟩:=hI.pr.at hz
   have hm:=List.mem_of_getElem? hz
   obtain ⟨s1,s2⟩:=hI.set z hm
   obtain ⟨l1,l2⟩:=hI.lang z hm
   have HB1:Hid (Below wr.heap.size wr (wr.alloc (.cells #[z.av,z.bv,.string z.S] 199))):=(Below.refl _ _).alloc (Nat.le_refl _) _
   have HI1:=hide (hI.below (unhide HB1))
   have HE1:=hide (ends_c (b:=b) (unhide HT) _ rs1 (unhide HI1).trk.rt (unhide HI1).trk.gr 0 _ z.A (r1.below (unhide HB1)) s1)
   have HE2:=hide (fun W (k:Below (wr.alloc (.cells #[z.av,z.bv,.string z.S] 199)).heap.size (wr.alloc (.cells #[z.av,z.bv,.string z.S] 199)) W)=>ends_c (b:=b) (unhide HT) W rs1 ((unhide HI1).below k).trk.rt ((unhide HI1).below k).trk.gr 0 _ z.B ((r2.below (unhide HB1)).below k) s2)
   have HGP:Hid ((wr.alloc (.cells #[z.av,z.bv,.string z.S] 199)).heap[wr.heap.size]?=some (.cells #[z.av,z.bv,.string z.S] 199 (0,0))):=heap_alloc_new _ _
   obtain ⟨pa,pc,hpa⟩:=r1.form
   obtain ⟨qa,qc,hqa⟩:=r2.form
   have HM:=hide hM
   have HZ:=hide hz
   have HLT:=hide hlt
   have HFEW:=hide hfew
   have HS12:=hide (And.intro s1 s2)
   have HL12:=hide (And.intro l1 l2)
   rw [hpa] at c0
   rw [hqa] at c1
   rw [hpa,hqa] at HB1 HI1 HGP HE1
   rw [hpa,hqa] at HE2
   have HPA:=hide hpa
   have HQA:=hide hqa
   generalize hzS:z.S=S at *
   have HZS:=hide hzS
   clear hi hM hI hlt hz hm s1 s2 l1 l2 r1 r2 hfew hpa hqa hzS
   go_wp2_with fail
   have HGG:Hid ((Value.slice (some ⟨g,0,none⟩) Z.length vc).ownBlock≠some wr.heap.size):=by show _≠_;simp [Value.ownBlock];omega
   generalize wr.alloc (.cells #[.slice pa z.A.length pc,.slice qa z.B.length qc,.string S] 199)=wp at *
   generalize wr.heap.size=gp at *
   refine (unhide HE1).mono ?_
   rintro e w1 ⟨⟨y1,rfl,hy1⟩,hb1⟩
   have hp1:w1.heap[gp]?=_:=(Fr.ofBelow hb1).at (unhide HGP) (by simp)
   have a1:w1.cell? ⟨gp,1,none⟩=some (.slice qa z.B.length qc):=by rw [cell_of_row _ _ _ _ _ _ hp1];rfl
   have hg1:gp < w1.heap.size:=(Array.getElem?_eq_some_iff.1 hp1).1
   have HE3:=hide (unhide HE2 w1 hb1)
   have HI2:=hide ((unhide HI1).below hb1)
   have HP1:=hide hp1
   have HY1:=hide hy1
   clear hb1 hp1 hy1 HE1 HE2 HI1 HB1 HGP c0 c1 c2 hgl
   go_wp2_with fail
   refine (unhide HE3).mono ?_
   rintro e w2 ⟨⟨y2,rfl,hy2⟩,hb2⟩
   have hp2:w2.heap[gp]?=_:=(Fr.ofBelow hb2).at (unhide HP1) (by simp)
   have a2:w2.cell? ⟨gp,2,none⟩=some (.string S):=by rw [cell_of_row _ _ _ _ _ _ hp2];rfl
   have hg2:gp < w2.heap.size:=(Array.getElem?_eq_some_iff.1 hp2).1
   have HI3:=hide ((unhide HI2).below hb2)
   have HP2:=hide hp2
   have HY2:=hide hy2
   clear hb2 hp2 hy2 HE3 HI2 HP1 a1 hg1
   by_cases hyy:y1=y2
   ·subst hyy
    have HEE:Hid (PL LA z []↔PL LB z []):=by rw [←(unhide HL12).1,←(unhide HL12).2,←unhide HY1,←unhide HY2];exact Iff.rfl
    have HS0:Hid (ApM LA LB hbs Z i 0):=unhide HM
    clear HY1 HY2 a2
    go_wp2_with fail
    go_loopw [10,15] (fun vx jx wy=>∃ (j:Nat) (va:Option Addr) (vc:Nat) (Z:List Pr) (rs1:List Rn),vx=.slice va Z.length vc∧jx=.int .i64 (j:Int)∧Hid (j≤hbs.length∧ApM LA LB hbs Z i j∧ApI rs0 U b w rs LA LB wy va vc Z rs1∧Z[i]?=some z∧wy.heap[gp]?=some (.cells #[.slice pa z.A.length pc,.slice qa z.B.length qc,.string S] 199 (0,0))∧(Value.slice va Z.length vc).ownBlock≠some gp)) (fun _ jx _=>hbs.length - (intOf jx).toNat)
    case atStart=>exact ⟨0,_,_,Z,rs1,rfl,rfl,Nat.zero_le _,unhide HS0,unhide HI3,unhide HZ,unhide HP2,unhide HGG⟩
    case round =>
     clear HS0 HI3 HZ HP2 HM HS12 HL12 HFEW hZI hg2
     rename World=>wy
     obtain ⟨j,va,vc,Z,rs1,rfl,rfl,HH⟩:=hrel
     obtain ⟨hj,hM,hI,hz,hgp,hog⟩:=unhide HH
     clear HH HGG
     have HOG:=hide hog
     clear hog
     by_cases hlt:j < hbs.length
     ·have hjI:(j:Int) < (hbs.length:Int):=by omega
      have hj0:(0:Int)≤(j:Int):=by omega
      have hj1:((j:Int)).toNat=j:=by omega
      have hzm:=List.mem_of_getElem? hz
      have hN2:NR wy B3 (.slice ha hbs.length hc) hbs:=hI.trk.fy.own (unhide HRT) (unhide HN) (by decide) (by decide)
      obtain ⟨gn,cn,he,ch⟩:=hN2.at hlt
      simp only [Value.slice.injEq,true_and] at he
      obtain ⟨rfl,rfl⟩:=he
      have hgn:gn < wy.heap.size:=(World.ownsRow.lt hN2 gn rfl).2
      have hc256:hbs.getD j 0 < 256:=unhide H256 _ (by rw [List.getD_eq_getElem?_getD,List.getElem?_eq_getElem hlt];exact List.getElem_mem _)
      have p0:wy.cell? ⟨gp,0,none⟩=some (.slice pa z.A.length pc):=by rw [cell_of_row _ _ _ _ _ _ hgp];rfl
      have hgpl:gp < wy.heap.size:=(Array.getElem?_eq_some_iff.1 hgp).1
      have HON:=hide (fun n=>on_c (b:=b) (c:=hbs.getD j 0) (unhide HT) hc256 (wy.drewN n) rs1 (RtS_below hI.trk.rt (below_drewN (Below.refl _ _) n)) hI.trk.gr 0 (.slice pa z.A.length pc) z.A (by have:=(hI.pr.rows z hzm).1;rw [unhide HPA] at this;exact this) (hI.set z hzm).1)
      have HLT:=hide hlt
      have HM:=hide hM
      have HI:=hide hI
      have HZ:=hide hz
      have HGP:=hide hgp
      have HZM:=hide hzm
      clear hj hM hI hz hgp hlt hzm hN2
      generalize hcc:hbs.getD j 0=c at *
      have HCC:=hide hcc
      clear hcc
      go_upto_region 13 with fail
      go_cut [16] from 47 to 97 (fun cx wx=>∃ (ca:Option Addr) (cn cc:Nat) (C:List ByteArray) (rs2:List Rn),cx=.slice ca cn cc∧Hid (OnI rs0 U b wy rs1 wx (.slice ca cn cc) C rs2 (derL c (stB rs1 z.A))))
      case first =>
       go_region_with (go_at_call 44;refine (unhide HON _).mono ?_;rintro e w3 ⟨v3,C,rs2,rfl,h3⟩;have h4:=on_base h3;obtain ⟨ca,cc,rfl⟩:=h4.row.form;have HC4:=hide h4;clear h3 h4)
       all_goals
        go_wp2_with fail
        go_meet
        exact ⟨ca,_,cc,C,rs2,rfl,unhide HC4⟩
      case rest =>
       rename World=>w3
       obtain ⟨ca,cn,cc,C,rs2,rfl,HC3⟩:=hcut
       have HI3:=hide ((unhide HI).next (unhide HC3).trk)
       have hgp3:w3.heap[gp]?=_:=(unhide HC3).fy.at (unhide HI).trk.rt (unhide HGP) (by decide) (by decide)
       have HGP3:=hide hgp3
       have p1:w3.cell? ⟨gp,1,none⟩=some (.slice qa z.B.length qc):=by rw [cell_of_row _ _ _ _ _ _ hgp3];rfl
       have hgpl3:gp < w3.heap.size:=(Array.getElem?_eq_some_iff.1 hgp3).1
       have hN3:NR w3 B3 (.slice (some ⟨gn,0,none⟩) hbs.length hc) hbs:=(unhide HI3).trk.fy.own (unhide HRT) (unhide HN) (by decide) (by decide)
       obtain ⟨gn',cn',he,ch3⟩:=hN3.at (unhide HLT)
       simp only [Value.slice.injEq,true_and,Option.some.injEq,Addr.mk.injEq,and_true] at he
       obtain ⟨rfl,rfl⟩:=he
       rw [unhide HCC] at ch3
       have hgn3:gn < w3.heap.size:=(World.ownsRow.lt hN3 gn rfl).2
       have HON3:=hide (fun n=>on_c (b:=b) (c:=c) (unhide HT) hc256 (w3.drewN n) rs2 (RtS_below (unhide HI3).trk.rt (below_drewN (Below.refl _ _) n)) (unhide HI3).trk.gr 0 (.slice qa z.B.length qc) z.B (by have:=((unhide HI3).pr.rows z (unhide HZM)).2;rw [unhide HQA] at this;exact this) ((unhide HI3).set z (unhide HZM)).2)
       clear HON hgp3 hN3 p0 hgpl ch hgn
       go_upto_region 14 with fail
       go_cut [17] from 47 to 97 (fun dx wx=>∃ (da:Option Addr) (dn dc:Nat) (D:List ByteArray) (rs3:List Rn),dx=.slice da dn dc∧Hid (OnI rs0 U b w3 rs2 wx (.slice da dn dc) D rs3 (derL c (stB rs2 z.B))))
       case first =>
        go_region_with (go_at_call 44;refine (unhide HON3 _).mono ?_;rintro e w4 ⟨v4,D,rs3,rfl,h4⟩;have h5:=on_base h4;obtain ⟨da,dc,rfl⟩:=h5.row.form;have HC5:=hide h5;clear h4 h5)
        all_goals
         go_wp2_with fail
         go_meet
         exact ⟨da,_,dc,D,rs3,rfl,unhide HC5⟩
       case rest =>
        rename World=>w4
        obtain ⟨da,dn,dc,D,rs3,rfl,HC4⟩:=hcut
        have HI4:=hide ((unhide HI3).next (unhide HC4).trk)
        have hgp4:w4.heap[gp]?=_:=(unhide HC4).fy.at (unhide HI3).trk.rt (unhide HGP3) (by decide) (by decide)
        have HGP4:=hide hgp4
        have HRC:Hid (SRow w4 0 (.slice ca cn cc) C):=(unhide HC3).row.fy (unhide HC4).fy (unhide HI3).trk.rt
        have HRD:=hide (unhide HC4).row
        have hVC:=(unhide HC4).trk.set (unhide HC3).gr (unhide HC3).vs
        have HVC:=hide hVC.1
        have HVD:=hide (unhide HC4).vs
        have hLz:=(unhide HI).lang z (unhide HZM)
        have hLz3:=(unhide HI3).lang z (unhide HZM)
        have HEC:Hid (stB rs3 C=derL c (PL LA z)):=by show _=_;rw [hVC.2,(unhide HC3).eq,hLz.1]
        have HED:Hid (stB rs3 D=derL c (PL LB z)):=by show _=_;rw [(unhide HC4).eq,hLz3.2]
        have hlC:C.length≤13:=by have:=(unhide HVC).len (unhide HC4).gr;have:=(unhide HT).l13;omega
        have hlD:D.length≤13:=by have:=(unhide HVD).len (unhide HC4).gr;have:=(unhide HT).l13;omega
        have HLC:=hide (And.intro hlC hlD)
        have HSM:=hide (sameTerms_any w4 0 0 _ _ C D (unhide HRC) (unhide HRD) (by omega) (by omega))
        have HSN:=hide (fun W (k:Below w4.heap.size w4 W)=>seen_any W w.heap.size va vc Z ((unhide HI4).below k).pr (by have:=(unhide HI4).few (unhide HT) (unhide HM);omega) ((unhide HI4).short (unhide HT)) 0 0 _ _ C D ((unhide HRC).below k) ((unhide HRD).below k) hlC hlD)
        clear HON3 hgp4 p1 hgpl3 ch3 hgn3 hVC hLz hLz3 hlC hlD HC3 HC4 HI HI3 HGP HGP3
        go_wp2_with fail
        refine (unhide HSM).mono ?_
        rintro e w5 ⟨⟨y3,rfl,hy3⟩,hb5⟩
        have HSN5:=hide (unhide HSN w5 hb5)
        have HI5:=hide ((unhide HI4).below hb5)
        have HGP5:Hid (w5.heap[gp]?=some (.cells #[.slice pa z.A.length pc,.slice qa z.B.length qc,.string S] 199 (0,0))):=(Fr.ofBelow hb5).at (unhide HGP4) (by simp)
        have HRC5:=hide ((unhide HRC).below hb5)
        have HRD5:=hide ((unhide HRD).below hb5)
        have HY3:=hide hy3
        clear hb5 hy3 HSM HSN HI4 HGP4 HRC HRD
        go_wp2_with fail
        refine (unhide HSN5).mono ?_
        rintro e w6 ⟨⟨y4,rfl,hy4⟩,hb6⟩
        have HI6:=hide ((unhide HI5).below hb6)
        have HGP6:Hid (w6.heap[gp]?=some (.cells #[.slice pa z.A.length pc,.slice qa z.B.length qc,.string S] 199 (0,0))):=(Fr.ofBelow hb6).at (unhide HGP5) (by simp)
        have HRC6:=hide ((unhide HRC5).below hb6)
        have HRD6:=hide ((unhide HRD5).below hb6)
        have HY4:=hide hy4
        clear hb6 hy4 HSN5 HI5 HGP5 HRC5 HRD5
        cases y3
        ·cases y4
         ·have HNO:Hid (∀ z∈Z,¬(z.A=C∧z.B=D)):=fun z' hz' h=>by have:=(unhide HY4).2 ⟨z',hz',h⟩;simp at this
          have hob:(oneB c).size=1:=rfl
          have hbx:bytesN (S++oneB c)=bytesN S++[c]:=by rw [bytesN_appZ,bytesN_oneB hc256]
          have HK:Hid (ApM LA LB hbs (Z++[⟨.slice ca cn cc,C,.slice da dn dc,D,S++oneB c⟩]) i (j+1)):=(unhide HM).new (unhide HZ) (by show bytesN (S++oneB c)=_;rw [hbx,unhide HZS,unhide HCC]) (unhide HNO)
          have HLX:Hid (stB rs3 C=PL LA ⟨.slice ca cn cc,C,.slice da dn dc,D,S++oneB c⟩∧stB rs3 D=PL LB ⟨.slice ca cn cc,C,.slice da dn dc,D,S++oneB c⟩):=by
           unfold PL
           show _=derS (bytesN (S++oneB c)) LA∧_=derS (bytesN (S++oneB c)) LB
           rw [hbx,derS_snoc,derS_snoc,unhide HEC,unhide HED]
           unfold PL
           rw [unhide HZS]
           exact ⟨rfl,rfl⟩
          have HBX:Hid (Below w6.heap.size w6 ((w6.alloc (.cells #[.int .u8 (c:Int)] 5)).alloc (.cells #[.slice ca cn cc,.slice da dn dc,.string (S++oneB c)] 199)).drew):=(((Below.refl _ _).alloc (Nat.le_refl _) _).alloc (by simp) _).drew
          have HXI:=hide ((unhide HI6).below (unhide HBX))
          have HXC:=hide ((unhide HRC6).below (unhide HBX))
          have HXD:=hide ((unhide HRD6).below (unhide HBX))
          have HXG:Hid (((w6.alloc (.cells #[.int .u8 (c:Int)] 5)).alloc (.cells #[.slice ca cn cc,.slice da dn dc,.string (S++oneB c)] 199)).drew.heap[gp]?=some (.cells #[.slice pa z.A.length pc,.slice qa z.B.length qc,.string S] 199 (0,0))):=(Fr.ofBelow (unhide HBX)).at (unhide HGP6) (by simp)
          have HXN:Hid (((w6.alloc (.cells #[.int .u8 (c:Int)] 5)).alloc (.cells #[.slice ca cn cc,.slice da dn dc,.string (S++oneB c)] 199)).drew.heap[w6.heap.size+1]?=some (.cells #[.slice ca cn cc,.slice da dn dc,.string (S++oneB c)] 199 (0,0))):=heap_alloc2_new _ _ _
          have hcv:=conv_cell (w6.alloc (.cells #[.int .u8 (c:Int)] 5)) w6.heap.size c hc256 (new_cell rfl)
          have hcv':=conv_cell (w6.alloc (.cells #[.int .u8 (c:Int)] 5)).drew w6.heap.size c hc256 (new_cell rfl)
          have hwr:IntKind.u8.wrap (c:Int)=(c:Int):=by unfold IntKind.wrap;simp [IntKind.bits,IntKind.signed];omega
          have hcI:(c:Int) < 256:=by omega
          have HSS:Hid (S.size≤67108864):=by have h1:=(unhide HM).len i z (unhide HZ);rw [unhide HZS] at h1;have h2:=get_lt (unhide HZ);have h3:=(unhide HI6).few (unhide HT) (unhide HM);show _≤_;omega
          have hsz2:¬9223372036854775807 < S.size+1:=by have:=unhide HSS;omega
          have hsz:¬S.size+(oneB c).size > 9223372036854775807:=by rw [hob];have:=unhide HSS;omega
          have p2:w6.cell? ⟨gp,2,none⟩=some (.string S):=by rw [cell_of_row _ _ _ _ _ _ (unhide HGP6)];rfl
          have hgp6:gp < w6.heap.size:=(Array.getElem?_eq_some_iff.1 (unhide HGP6)).1
          have hN6:NR w6 B3 (.slice (some ⟨gn,0,none⟩) hbs.length hc) hbs:=(unhide HI6).trk.fy.own (unhide HRT) (unhide HN) (by decide) (by decide)
          obtain ⟨gn',cn',he,ch6⟩:=hN6.at (unhide HLT)
          simp only [Value.slice.injEq,true_and,Option.some.injEq,Addr.mk.injEq,and_true] at he
          obtain ⟨rfl,rfl⟩:=he
          rw [unhide HCC] at ch6
          have hgn6:gn < w6.heap.size:=(World.ownsRow.lt hN6 gn rfl).2
          have HZ8:Hid (Z.length≤100000000):=by have h3:=(unhide HI6).few (unhide HT) (unhide HM);show _≤_;omega
          have HSZ6:Hid (w.heap.size≤w6.heap.size):=(unhide HI6).trk.fy.below.size
          clear HY3 HY4 hbx hN6
          generalize oneB c=ob at *
          go_wp2_with fail
          go_region_law (refine appPr (by rfl) _ _ (by rfl) w.heap.size _ Z.length (Z.flatMap prC) (by rfl) (by exact (unhide HXI).pr.own) (w6.heap.size+1) ⟨.slice ca cn cc,C,.slice da dn dc,D,S++ob⟩ rfl rfl (by rfl) (by exact unhide HXN) (unhide HZ8) (by have:=unhide HSZ6;simp;omega) (w6.heap.size+2) (by simp) ?_;intro g5 cap5 w8 ho hgrow hlies hlt5;have HP9:=hide ((unhide HXI).push (unhide HBW) hgrow ho (unhide HXC) (unhide HXD) ⟨unhide HVC,unhide HVD⟩ (unhide HLX));have HG9:Hid (w8.heap[gp]?=some (.cells #[.slice pa z.A.length pc,.slice qa z.B.length qc,.string S] 199 (0,0))):=(Fr.ofGrown hgrow).at (unhide HXG) (fun hm=>unhide HOG (Option.mem_toList.1 hm));have HO9:Hid ((Value.slice (some ⟨g5,0,none⟩) (Z.length+1) cap5).ownBlock≠some gp):=(fun h=>hlies.elim (fun e=>unhide HOG ((by simpa [Value.ownBlock] using h:g5=gp) ▸ e)) (fun e=>absurd (by simpa [Value.ownBlock] using h:g5=gp) (by omega)));clear ho hgrow hlies)
          all_goals
           go_wp2_with fail
           go_roundw
           case rel=>exact ⟨j+1,some ⟨g5,0,none⟩,cap5,_,rs3,by simp,by go_num,unhide HLT,unhide HK,unhide HP9,get_snoc_old (unhide HZ),unhide HG9,by simpa using unhide HO9⟩
           case measure=>have:=unhide HLT;simp [intOf];omega
         ·have HK:Hid (ApM LA LB hbs Z i (j+1)):=(unhide HM).keep (unhide HZ) (.inr (by
           obtain ⟨z',hz',e1,e2⟩:=(unhide HY4).1 rfl
           obtain ⟨k',hk'⟩:=List.getElem?_of_mem hz'
           have hl':=(unhide HI6).lang z' hz'
           rw [e1,e2] at hl'
           exact ⟨k',z',hk',by rw [←hl'.1,unhide HEC,unhide HCC],by rw [←hl'.2,unhide HED,unhide HCC]⟩))
          clear HY3 HY4
          go_wp2_with fail
          go_roundw
          case rel=>exact ⟨j+1,_,_,Z,rs3,rfl,by go_num,unhide HLT,unhide HK,unhide HI6,unhide HZ,unhide HGP6,unhide HOG⟩
          case measure=>have:=unhide HLT;simp [intOf];omega
        ·have HK:Hid (ApM LA LB hbs Z i (j+1)):=(unhide HM).keep (unhide HZ) (.inl (fun x=>by
          have e:=(unhide HY3).1 rfl
          have h1:=unhide HEC
          rw [e,unhide HED] at h1
          rw [unhide HCC,h1]))
         clear HY3 HY4
         cases y4
         all_goals
          go_wp2_with fail
          go_roundw
          case rel=>exact ⟨j+1,_,_,Z,rs3,rfl,by go_num,unhide HLT,unhide HK,unhide HI6,unhide HZ,unhide HGP6,unhide HOG⟩
          case measure=>have:=unhide HLT;simp [intOf];omega
     ·have hj2:j=hbs.length:=by omega
      subst hj2
      have hjI:¬(hbs.length:Int) < (hbs.length:Int):=by omega
      have HK:=hide (hM.row hz (unhide HEE))
      have HI:=hide hI
      have HZL:Hid (i+1≤Z.length):=get_lt hz
      have hZI:(Z.length:Int)≤67108864:=by have:=hI.few (unhide HT) hM;omega
      have hiI2:(i:Int) < 67108864:=by have:=unhide HZL;omega
      clear hj hM hI hz hgp hlt
      go_wp2_with fail
      go_roundw
      case rel=>exact ⟨i+1,va,vc,Z,rs1,rfl,by go_num,unhide HZL,unhide HK,unhide HI⟩
      case measure=>have:=unhide HZL;simp [intOf];omega
   ·have HNE:Hid (¬(derS (bytesN S) LA []↔derS (bytesN S) LB [])):=by
     have e1:=(unhide HL12).1
     have e2:=(unhide HL12).2
     unfold PL at e1 e2
     rw [unhide HZS] at e1 e2
     rw [←e1,←e2,←unhide HY1,←unhide HY2]
     intro h
     apply hyy
     cases y1<;>cases y2<;>simp_all
    have HSZ:Hid (S.size≤67108864):=by have:=(unhide HM).len i z (unhide HZ);rw [unhide HZS] at this;have:=unhide HLT;have:=unhide HFEW;show _≤_;omega
    clear HY1 HY2
    cases y1<;>cases y2
    all_goals first
     | exact absurd rfl hyy
     | (clear hyy
        go_wp2_with fail
        refine bodyPost_ret (v:=.tuple #[.string S,.bool true]) (by simp [results,Tryz.results83,go_sem]) rfl ?_
        exact ⟨rs1,(unhide HI3).trk,.inl ⟨S,rfl,unhide HSZ,bytesOk_bytesN S,unhide HNE⟩⟩)
  ·have hi2:i=Z.length:=by omega
   subst hi2
   have hiI:¬(Z.length:Int) < (Z.length:Int):=by omega
   have HSM:=hide hM.same
   have HTK:=hide hI.trk
   clear hi hM hI hlt hfew
   go_wp2_with fail
   refine bodyPost_ret (v:=.tuple #[.string ⟨#[]⟩,.bool false]) (by simp [results,Tryz.results83,go_sem]) rfl ?_
   first | exact ⟨rs1,unhide HTK,.inr ⟨rfl,unhide HSM⟩⟩ | exact ⟨⟨rs1,unhide HTK⟩,.inr ⟨rfl,unhide HSM⟩⟩
end Mc
end Go.Proofs.YtobfpgoepaeknaaGreat
namespace Go.Proofs.YtobfpgoepaeknaaGreat
namespace Mc
open Go.RowKit
attribute [local go_sem ↓] Go.wp_at_zero Go.wp_at_succ
theorem trk_base {rs0:List Rn} {b n:Nat} {wr w2:World} {rs1 rs2:List Rn} (h:TrK rs0 b (wr.drewN n) rs1 w2 rs2):TrK rs0 b wr rs1 w2 rs2:=⟨⟨⟨h.fy.below.os,h.fy.below.tape,h.fy.below.output,h.fy.below.size,h.fy.below.block⟩,h.fy.keep,h.fy.row⟩,h.rt,h.gr,h.ex⟩
def Tells (s:ByteArray) (A B:Lang):Prop:=¬(derS (bytesN s) A []↔derS (bytesN s) B [])
def TstA (rs0:List Rn) (b:Nat) (w:World) (rs:List Rn) (w':World) (T:List ByteArray) (A B:Lang) (e:Ending):Prop:=∃ (y:Bool) (rs':List Rn),e=.returned (.bool y)∧TrK rs0 b w rs w' rs'∧(y=true→∃ s∈T,Tells s A B)
theorem bool_tells {y1 y2:Bool} {p q:Prop} (h1:y1=true↔p) (h2:y2=true↔q) (h:y1≠y2):¬(p↔q):=fun e=>by
 apply h
 cases y1<;>cases y2<;>simp_all
set_option maxRecDepth 20000 in
set_option maxHeartbeats 2000000 in
theorem tested_any {rs0:List Rn} {U:List (List Nm)} (hT:TrC rs0 U) {b:Nat} (w:World) (rs:List Rn) (hb:RtS w b rs) (hg:GrowT rs0 rs) (gf:Nat) (bv sv:Value) (ta:Option Addr) (tc:Nat) (T:List ByteArray) (hf:w.heap[gf]?=some (.cells #[.pointer (some ⟨b,0,none⟩),bv,sv,.slice ta T.length tc] 62 (0,0))) (B0:Nat) (hR:SRow w B0 (.slice ta T.length tc) T) (hTz:∀ s∈T,s.size≤67108864) (hTl:T.length≤1000000)
  (B1 B2:Nat) (u v:Value) (X Y:List ByteArray) (hu:SRow w B1 u X) (hv:SRow w B2 v Y) (hX:VSet rs0 rs U X) (hY:VSet rs0 rs U Y) :
  Calls Tryz.prog 82 #[.pointer (some ⟨gf,0,none⟩),u,v] w fun e w'=>TstA rs0 b w rs w' T (stB rs X) (stB rs Y) e:=by
 obtain ⟨ua,uc,rfl⟩:=hu.form
 obtain ⟨xa,xc,rfl⟩:=hv.form
 have hTI:(T.length:Int)≤1000000:=by omega
 have HT:=hide hT
 have HRT:=hide hb
 have HG:=hide hg
 have HF:=hide hf
 have HR:=hide hR
 have HTZ:=hide hTz
 have HU:=hide hu
 have HV:=hide hv
 have HX:=hide hX
 have HY:=hide hY
 have HK0:=hide (TrK.refl hb hg)
 clear hT hb hg hf hR hTz hTl hu hv hX hY
 go_enter Tryz.func82,Tryz.ntmps82
 go_wp2_with fail
 go_loopw [7] (fun ix wr=>∃ (i:Nat) (rs1:List Rn),ix=.int .i64 (i:Int)∧Hid (i≤T.length∧TrK rs0 b w rs wr rs1)) (fun ix _=>T.length - (intOf ix).toNat)
 case atStart=>exact ⟨0,rs,rfl,Nat.zero_le _,unhide HK0⟩
 case round =>
  clear HK0
  rename World=>wr
  obtain ⟨i,rs1,rfl,HH⟩:=hrel
  obtain ⟨hi,hK⟩:=unhide HH
  clear HH
  have hf1:wr.heap[gf]?=_:=hK.fy.at (unhide HRT) (unhide HF) (by decide) (by decide)
  have f0:wr.cell? ⟨gf,0,none⟩=some (.pointer (some ⟨b,0,none⟩)):=by rw [cell_of_row _ _ _ _ _ _ hf1];rfl
  have f3:wr.cell? ⟨gf,3,none⟩=some (.slice ta T.length tc):=by rw [cell_of_row _ _ _ _ _ _ hf1];rfl
  have hgf:gf < wr.heap.size:=(Array.getElem?_eq_some_iff.1 hf1).1
  by_cases hlt:i < T.length
  ·have hiI:(i:Int) < (T.length:Int):=by omega
   have hi0:(0:Int)≤(i:Int):=by omega
   have hi1:((i:Int)).toNat=i:=by omega
   obtain ⟨g,cap,he,ct⟩:=((unhide HR).fy hK.fy (unhide HRT)).at hlt
   simp only [Value.slice.injEq,true_and] at he
   obtain ⟨rfl,rfl⟩:=he
   have hgt:g < wr.heap.size:=World.block_lt_of_cell? wr ⟨g,i,none⟩ ct
   have hmem:T.getD i ByteArray.empty∈T:=by rw [List.getD_eq_getElem?_getD,List.getElem?_eq_getElem hlt];exact List.getElem_mem _
   have hsz:=unhide HTZ _ hmem
   have hX1:=hK.set (unhide HG) (unhide HX)
   have HL1:=hide (fun n=>lets_any (b:=b) (unhide HT) (wr.drewN n) rs1 (RtS_below hK.rt (below_drewN (Below.refl _ _) n)) hK.gr B1 (.slice ua X.length uc) X (show SRow wr B1 (.slice ua X.length uc) X from (unhide HU).fy hK.fy (unhide HRT)) hX1.1 (T.getD i ByteArray.empty) (by omega))
   have HE1:=hide hX1.2
   have HK:=hide hK
   have HLT:=hide hlt
   have HMEM:=hide hmem
   have HSZ:=hide hsz
   clear hi hK hlt hf1 hmem hsz hX1
   generalize hsi:T.getD i ByteArray.empty=s at *
   have HSI:=hide hsi
   clear hsi
   go_upto_region 4 with fail
   go_cut [8] from 10 to 47 (fun yx wx=>∃ (y:Bool) (rs2:List Rn),yx=.bool y∧Hid ((y=true↔derS (bytesN s) (stB rs1 X) [])∧TrK rs0 b wr rs1 wx rs2))
   case first =>
    go_region_with (go_at_call 126;refine (unhide HL1 _).mono ?_;rintro e w3 ⟨y,rs2,rfl,hy,hk⟩;have HK3:=hide (And.intro hy (trk_base hk));clear hy hk)
    all_goals
     go_wp2_with fail
     go_meet
     exact ⟨y,rs2,rfl,unhide HK3⟩
   case rest =>
    rename World=>w3
    obtain ⟨y1,rs2,rfl,HC⟩:=hcut
    have hK3:=(unhide HK).trans (unhide HC).2
    have hf3:w3.heap[gf]?=_:=hK3.fy.at (unhide HRT) (unhide HF) (by decide) (by decide)
    have e0:w3.cell? ⟨gf,0,none⟩=some (.pointer (some ⟨b,0,none⟩)):=by rw [cell_of_row _ _ _ _ _ _ hf3];rfl
    have e3:w3.cell? ⟨gf,3,none⟩=some (.slice (some ⟨g,0,none⟩) T.length tc):=by rw [cell_of_row _ _ _ _ _ _ hf3];rfl
    have hgf3:gf < w3.heap.size:=(Array.getElem?_eq_some_iff.1 hf3).1
    obtain ⟨g',cap',he,ct3⟩:=((unhide HR).fy hK3.fy (unhide HRT)).at (unhide HLT)
    simp only [Value.slice.injEq,true_and,Option.some.injEq,Addr.mk.injEq,and_true] at he
    obtain ⟨rfl,rfl⟩:=he
    have hgt3:g < w3.heap.size:=World.block_lt_of_cell? w3 ⟨g,i,none⟩ ct3
    rw [unhide HSI] at ct3
    have hY1:=hK3.set (unhide HG) (unhide HY)
    have HL2:=hide (fun n=>lets_any (b:=b) (unhide HT) (w3.drewN n) rs2 (RtS_below hK3.rt (below_drewN (Below.refl _ _) n)) hK3.gr B2 (.slice xa Y.length xc) Y (show SRow w3 B2 (.slice xa Y.length xc) Y from (unhide HV).fy hK3.fy (unhide HRT)) hY1.1 s (by have:=unhide HSZ;omega))
    have HE2:=hide hY1.2
    have HK3:=hide hK3
    clear hK3 hf3 hY1 f0 f3 hgf ct hgt HL1
    go_upto_region 5 with fail
    go_cut [9] from 10 to 47 (fun yx wx=>∃ (y:Bool) (rs3:List Rn),yx=.bool y∧Hid ((y=true↔derS (bytesN s) (stB rs2 Y) [])∧TrK rs0 b w3 rs2 wx rs3))
    case first =>
     go_region_with (go_at_call 126;refine (unhide HL2 _).mono ?_;rintro e w4 ⟨y,rs3,rfl,hy,hk⟩;have HK4:=hide (And.intro hy (trk_base hk));clear hy hk)
     all_goals
      go_wp2_with fail
      go_meet
      exact ⟨y,rs3,rfl,unhide HK4⟩
    case rest =>
     rename World=>w4
     obtain ⟨y2,rs3,rfl,HD⟩:=hcut
     have HK4:=hide ((unhide HK3).trans (unhide HD).2)
     clear e0 e3 hgf3 ct3 hgt3 HL2
     by_cases hyy:y1=y2
     ·subst hyy
      go_wp2_with fail
      go_roundw
      case rel=>exact ⟨i+1,rs3,by go_num,unhide HLT,unhide HK4⟩
      case measure=>have:=unhide HLT;simp [intOf];omega
     ·have HTL:Hid (∃ s∈T,Tells s (stB rs X) (stB rs Y)):=⟨s,unhide HMEM,bool_tells (by have:=(unhide HC).1;rw [unhide HE1] at this;exact this) (by have:=(unhide HD).1;rw [unhide HE2] at this;exact this) hyy⟩
      cases y1<;>cases y2
      all_goals first
       | exact absurd rfl hyy
       | (clear hyy
          go_wp2_with fail
          go_ret
          exact ⟨true,rs3,rfl,unhide HK4,fun _=>unhide HTL⟩)
  ·have hi2:i=T.length:=by omega
   subst hi2
   have hiI:¬(T.length:Int) < (T.length:Int):=by omega
   have HK:=hide hK
   clear hi hK hlt hf1
   go_wp2_with fail
   go_ret
   exact ⟨false,rs1,rfl,unhide HK,fun h=>by cases h⟩
end Mc
end Go.Proofs.YtobfpgoepaeknaaGreat
namespace Go.Proofs.YtobfpgoepaeknaaGreat
namespace Mc
open Go.RowKit
structure Fv (b gf:Nat) (w w':World):Prop where
 os:w'.os=w.os
 tape:w'.tape=w.tape
 output:w'.output=w.output
 size:w.heap.size≤w'.heap.size
 keep:∀ k,k < w.heap.size→k≠b→k≠gf→¬RowAt w b k→w'.heap[k]?=w.heap[k]?
 row:∀ k,RowAt w' b k→RowAt w b k∨w.heap.size≤k
theorem Fv.refl (b gf:Nat) (w:World):Fv b gf w w:=⟨rfl,rfl,rfl,Nat.le_refl _,fun _ _ _ _ _=>rfl,fun _ h=>.inl h⟩
theorem Fv.fy {b gf:Nat} {w w1 w2:World} (h:Fv b gf w w1) (k:Fy b w1 w2):Fv b gf w w2:=by
 refine ⟨k.below.os.trans h.os,k.below.tape.trans h.tape,k.below.output.trans h.output,Nat.le_trans h.size k.below.size,fun i hi hb hg hr=>?_,fun i hi=>?_⟩
 ·rw [k.keep i (Nat.lt_of_lt_of_le hi h.size) hb (fun hr'=>?_)]
  ·exact h.keep i hi hb hg hr
  ·rcases h.row i hr' with g | g
   ·exact hr g
   ·omega
 ·rcases k.row i hi with g | g
  ·exact h.row i g
  ·exact .inr (Nat.le_trans h.size g)
theorem Fv.fr {b gf:Nat} {w w1 w2:World} (h:Fv b gf w w1) {S:List Nat} (f:Fr S w1 w2) (hS:∀ x∈S,x=gf∨w.heap.size≤x) (hb:b < w.heap.size) (hne:b≠gf):Fv b gf w w2:=by
 have hbk:∀ k,k < w.heap.size→k≠gf→w2.heap[k]?=w1.heap[k]?:=fun k hk hg=>f.block k (Nat.lt_of_lt_of_le hk h.size) (fun hm=>by rcases hS k hm with e | e<;>omega)
 refine ⟨f.os.trans h.os,f.tape.trans h.tape,f.output.trans h.output,Nat.le_trans h.size f.size,fun i hi hb' hg hr=>(hbk i hi hg).trans (h.keep i hi hb' hg hr),fun i hi=>?_⟩
 obtain ⟨v,fr,g1,g2⟩:=hi
 rw [hbk b hb hne] at g1
 exact h.row i ⟨v,fr,g1,g2⟩
theorem rts_fr {b:Nat} {w1 w2:World} {rs:List Rn} (h:RtS w1 b rs) {S:List Nat} (f:Fr S w1 w2) (hS:∀ q∈S,∀ cs ty fr,w1.heap[q]?=some (.cells cs ty fr)→ty≠151∧ty≠102):RtS w2 b rs:=by
 obtain ⟨v,h1,h2⟩:=h
 refine ⟨v,f.at h1 (fun hm=>(hS b hm _ _ _ h1).2 rfl),f.own h2 (fun q hq hm=>?_)⟩
 obtain ⟨cs,hc⟩:=own_tyT h2 hq
 exact (hS q hm _ _ _ hc).1 rfl
structure Sws (w:World) (us:List Value) (St:List (List ByteArray)):Prop where
 len:us.length=St.length
 row:∀ (k:Nat) u X,us[k]?=some u→St[k]?=some X→SRow w 0 u X
section
variable {w w' : World} {us : List Value} {St : List (List ByteArray)}
theorem Sws.nil:Sws w [] []:=⟨rfl,fun k u X h=>by simp at h⟩
theorem Sws.at (h:Sws w us St) {k:Nat} {X:List ByteArray} (hk:St[k]?=some X):∃ u,us[k]?=some u∧SRow w 0 u X:=by
 have hl:=get_lt hk
 have hu:=List.getElem?_eq_getElem (show k < us.length by rw [h.len];exact hl)
 exact ⟨_,hu,h.row k _ X hu hk⟩
theorem Sws.mem (h:Sws w us St) {u:Value} (hu:u∈us):∃ X,SRow w 0 u X:=by
 obtain ⟨k,hk⟩:=List.getElem?_of_mem hu
 have hl:=get_lt hk
 have hr:=List.getElem?_eq_getElem (show k < St.length by rw [←h.len];exact hl)
 exact ⟨_,h.row k u _ hk hr⟩
theorem Sws.fy (h:Sws w us St) {b:Nat} {rs:List Rn} (f:Fy b w w') (ht:RtS w b rs):Sws w' us St:=⟨h.len,fun k u X hu hX=>(h.row k u X hu hX).fy f ht⟩
theorem Sws.keep (h:Sws w us St) {S:List Nat} (f:Fr S w w') (hs:∀ u∈us,∀ q,u.ownBlock=some q→q∉S):Sws w' us St:=⟨h.len,fun k u X hu hX=>f.own (h.row k u X hu hX) (hs u (List.mem_of_getElem? hu))⟩
theorem Sws.snoc (h:Sws w us St) {u:Value} {X:List ByteArray} (hu:SRow w 0 u X):Sws w (us++[u]) (St++[X]):=by
 refine ⟨by simp [h.len],fun k u' X' hu' hX'=>?_⟩
 rcases get_snoc hu' with h1 | ⟨rfl,rfl⟩
 ·rcases get_snoc hX' with h2 | ⟨rfl,rfl⟩
  ·exact h.row k u' X' h1 h2
  ·have:=get_lt h1;have:=h.len;omega
 ·rcases get_snoc hX' with h2 | ⟨-,rfl⟩
  ·have:=get_lt h2;have:=h.len;omega
  ·exact hu
end
def SepS (v:Value) (us:List Value):Prop:=∀ u∈us,∀ q,u.ownBlock=some q→v.ownBlock≠some q
structure FnI (rs0:List Rn) (U:List (List Nm)) (b gf:Nat) (w:World) (rs:List Rn) (wr:World) (bv:Value) (sa:Option Addr) (sc:Nat) (St:List (List ByteArray)) (us:List Value) (ta:Option Addr) (tc:Nat) (T:List ByteArray) (rs1:List Rn):Prop where
 fv:Fv b gf w wr
 rt:RtS wr b rs1
 gr:GrowT rs0 rs1
 ex:∃ x,rs1=rs++x
 hb:b < w.heap.size
 hg:gf < w.heap.size
 im:wr.heap[gf]?=some (.cells #[.pointer (some ⟨b,0,none⟩),bv,.slice sa St.length sc,.slice ta T.length tc] 62 (0,0))
 so:wr.ownsRow w.heap.size 60 1 (.slice sa St.length sc) St.length us
 sr:Sws wr us St
 tr:SRow wr w.heap.size (.slice ta T.length tc) T
 sep:SepS (.slice ta T.length tc) us
 sets:∀ X∈St,VSet rs0 rs1 U X
 tz:∀ s∈T,s.size≤67108864∧bytesOk (bytesN s)
section
variable {rs0 : List Rn} {U : List (List Nm)} {b gf : Nat} {w : World} {rs : List Rn} {wr w2 : World} {bv : Value} {sa : Option Addr} {sc : Nat} {St : List (List ByteArray)} {us : List Value} {ta : Option Addr} {tc : Nat} {T : List ByteArray} {rs1 rs2 : List Rn}
theorem FnI.ne (h:FnI rs0 U b gf w rs wr bv sa sc St us ta tc T rs1):b≠gf:=fun e=>by
 obtain ⟨v,h1,-⟩:=h.rt
 have h2:=h.im
 rw [←e,h1] at h2
 simp at h2
theorem FnI.next (h:FnI rs0 U b gf w rs wr bv sa sc St us ta tc T rs1) (k:TrK rs0 b wr rs1 w2 rs2):FnI rs0 U b gf w rs w2 bv sa sc St us ta tc T rs2 :=
 ⟨h.fv.fy k.fy,k.rt,k.gr,grow_trans h.ex k.ex,h.hb,h.hg,k.fy.at h.rt h.im (by decide) (by decide),k.fy.own h.rt h.so (by decide) (by decide),h.sr.fy k.fy h.rt,h.tr.fy k.fy h.rt,h.sep,fun X hX=>(k.set h.gr (h.sets X hX)).1,h.tz⟩
theorem FnI.below (h:FnI rs0 U b gf w rs wr bv sa sc St us ta tc T rs1) (k:Below wr.heap.size wr w2):FnI rs0 U b gf w rs w2 bv sa sc St us ta tc T rs1:=h.next ((TrK.refl h.rt h.gr).below k)
theorem FnI.c0 (h:FnI rs0 U b gf w rs wr bv sa sc St us ta tc T rs1):wr.cell? ⟨gf,0,none⟩=some (.pointer (some ⟨b,0,none⟩)):=by rw [cell_of_row _ _ _ _ _ _ h.im];rfl
theorem FnI.c1 (h:FnI rs0 U b gf w rs wr bv sa sc St us ta tc T rs1):wr.cell? ⟨gf,1,none⟩=some bv:=by rw [cell_of_row _ _ _ _ _ _ h.im];rfl
theorem FnI.c2 (h:FnI rs0 U b gf w rs wr bv sa sc St us ta tc T rs1):wr.cell? ⟨gf,2,none⟩=some (.slice sa St.length sc):=by rw [cell_of_row _ _ _ _ _ _ h.im];rfl
theorem FnI.c3 (h:FnI rs0 U b gf w rs wr bv sa sc St us ta tc T rs1):wr.cell? ⟨gf,3,none⟩=some (.slice ta T.length tc):=by rw [cell_of_row _ _ _ _ _ _ h.im];rfl
theorem FnI.lt (h:FnI rs0 U b gf w rs wr bv sa sc St us ta tc T rs1):gf < wr.heap.size:=(Array.getElem?_eq_some_iff.1 h.im).1
theorem FnI.at (h:FnI rs0 U b gf w rs wr bv sa sc St us ta tc T rs1) {k:Nat} {X:List ByteArray} (hk:St[k]?=some X):∃ g u,sa=some ⟨g,0,none⟩∧g < wr.heap.size∧wr.cell? ⟨g,k,none⟩=some u∧SRow wr 0 u X:=by
 obtain ⟨u,hu,hr⟩:=h.sr.at hk
 have hl:=get_lt hk
 obtain ⟨g,cap,he⟩:=own_form h.so (by omega)
 simp only [Value.slice.injEq,true_and] at he
 obtain ⟨rfl,rfl⟩:=he
 have:=h.so.cells (g:=g) rfl k u hu
 rw [add0] at this
 exact ⟨g,u,rfl,(h.so.lt g rfl).2,this,hr⟩
theorem SepS.grow {v:Value} (h:Sws wr us St) (hs:SepS v us) {g n cap:Nat} (hl:v.ownBlock=some g∨g=wr.heap.size):SepS (.slice (some ⟨g,0,none⟩) n cap) us:=fun u hu q hq hq'=>by
 have e:g=q:=by simpa [Value.ownBlock] using hq'
 subst e
 rcases hl with hl | hl
 ·exact hs u hu g hq hl
 ·obtain ⟨X,hX⟩:=h.mem hu
  have:=(World.ownsRow.lt hX g hq).2
  omega
theorem noTree_own {B e z n:Nat} {v:Value} {xs:List Value} (h:wr.ownsRow B e z v n xs) (h1:e≠151) (h2:e≠102):∀ q∈v.ownBlock.toList,∀ cs ty fr,wr.heap[q]?=some (.cells cs ty fr)→ty≠151∧ty≠102:=fun q hq cs ty fr hc=>by
 obtain ⟨cs',hc'⟩:=own_tyT h (Option.mem_toList.1 hq)
 rw [hc] at hc'
 simp at hc'
 rw [hc'.2.1]
 exact ⟨h1,h2⟩
theorem noTree_one {g:Nat} {cs:Array Value} {t:TypeId} (h:wr.heap[g]?=some (.cells cs t (0,0))) (h1:t≠151) (h2:t≠102):∀ q∈[g],∀ cs ty fr,wr.heap[q]?=some (.cells cs ty fr)→ty≠151∧ty≠102:=fun q hq cs' ty fr hc=>by
 rw [List.mem_singleton.1 hq,h] at hc
 simp at hc
 rw [←hc.2.1]
 exact ⟨h1,h2⟩
theorem FnI.pushT (h:FnI rs0 U b gf w rs wr bv sa sc St us ta tc T rs1) {g cap:Nat} {s:ByteArray} (hz:s.size≤67108864∧bytesOk (bytesN s)) (hgrow:wr.grownBy w2 (.slice ta T.length tc:Value).ownBlock) (ho:w2.ownsRow w.heap.size 9 1 (.slice (some ⟨g,0,none⟩) (T.length+1) cap) (T.length+1) (strCells T++[.string s])) (hl:(Value.slice ta T.length tc).ownBlock=some g∨g=wr.heap.size) :
  w2.cell? ⟨gf,3,none⟩=some (.slice ta T.length tc)∧w2.frozen? ⟨gf,3,none⟩=false∧gf < w2.heap.size∧FnI rs0 U b gf w rs (w2.setCell ⟨gf,3,none⟩ (.slice (some ⟨g,0,none⟩) (T.length+1) cap)) bv sa sc St us (some ⟨g,0,none⟩) cap (T++[s]) rs1:=by
 have e2:=own_off h.tr h.im (by decide)
 have g2:w2.heap[gf]?=_:=(Fr.ofGrown hgrow).at h.im (fun hm=>e2 _ (Option.mem_toList.1 hm) rfl)
 have hlen:(T++[s]).length=T.length+1:=by simp
 have hso:w2.ownsRow w.heap.size 60 1 (.slice sa St.length sc) St.length us:=(Fr.ofGrown hgrow).own h.so (fun q hq hm=>by
  obtain ⟨cs,hc⟩:=own_tyT h.so hq
  obtain ⟨cs',hc'⟩:=own_tyT h.tr (Option.mem_toList.1 hm)
  rw [hc] at hc'
  simp at hc')
 have hto:SRow w2 w.heap.size (.slice (some ⟨g,0,none⟩) (T++[s]).length cap) (T++[s]):=by rw [hlen];exact SRow.of ho
 have hsr:Sws w2 us St:=h.sr.keep (Fr.ofGrown hgrow) (fun u hu q hq hm=>h.sep u hu q hq (Option.mem_toList.1 hm))
 have hrt:=rts_fr h.rt (Fr.ofGrown hgrow) (noTree_own h.tr (by decide) (by decide))
 refine ⟨by rw [cell_of_row _ _ _ _ _ _ g2];rfl,frozen_of_row _ _ _ _ _ g2,(Array.getElem?_eq_some_iff.1 g2).1,⟨?_,rts_fr hrt (Fr.ofSet _ _ _ _) (noTree_one g2 (by decide) (by decide)),h.gr,h.ex,h.hb,h.hg,?_,?_,?_,?_,?_,h.sets,?_⟩⟩
 ·exact (h.fv.fr (Fr.ofGrown hgrow) (fun x hx=>.inr (World.ownsRow.lt h.tr x (Option.mem_toList.1 hx)).1) h.hb h.ne).fr (Fr.ofSet _ _ _ _) (fun x hx=>.inl (List.mem_singleton.1 hx)) h.hb h.ne
 ·rw [heap_setCell_same _ _ _ _ _ _ g2,hlen];rfl
 ·exact (Fr.ofSet _ _ _ _).own hso (fun q hq=>by simpa using own_off hso g2 (by decide) q hq)
 ·exact hsr.keep (Fr.ofSet _ _ _ _) (fun u hu q hq hm=>by
   obtain ⟨X,hX⟩:=hsr.mem hu
   exact own_off hX g2 (by decide) q hq (List.mem_singleton.1 hm))
 ·exact (Fr.ofSet _ _ _ _).own hto (fun q hq=>by simpa using own_off hto g2 (by decide) q hq)
 ·rw [hlen];exact SepS.grow h.sr h.sep hl
 ·intro s' hs'
  rcases List.mem_append.1 hs' with hs' | hs'
  ·exact h.tz s' hs'
  ·rw [List.mem_singleton.1 hs'];exact hz
theorem FnI.pushS (h:FnI rs0 U b gf w rs wr bv sa sc St us ta tc T rs1) {g cap:Nat} {u:Value} {X:List ByteArray} (hu:SRow wr 0 u X) (hX:VSet rs0 rs1 U X) (hsu:∀ q,u.ownBlock=some q→(Value.slice ta T.length tc).ownBlock≠some q) (hgrow:wr.grownBy w2 (.slice sa St.length sc:Value).ownBlock) (ho:w2.ownsRow w.heap.size 60 1 (.slice (some ⟨g,0,none⟩) (St.length+1) cap) (St.length+1) (us++[u])) :
  w2.cell? ⟨gf,2,none⟩=some (.slice sa St.length sc)∧w2.frozen? ⟨gf,2,none⟩=false∧gf < w2.heap.size∧FnI rs0 U b gf w rs (w2.setCell ⟨gf,2,none⟩ (.slice (some ⟨g,0,none⟩) (St.length+1) cap)) bv (some ⟨g,0,none⟩) cap (St++[X]) (us++[u]) ta tc T rs1:=by
 have e2:=own_off h.so h.im (by decide)
 have g2:w2.heap[gf]?=_:=(Fr.ofGrown hgrow).at h.im (fun hm=>e2 _ (Option.mem_toList.1 hm) rfl)
 have hlen:(St++[X]).length=St.length+1:=by simp
 have hno:∀ {B:Nat} {v:Value} {Y:List ByteArray},SRow wr B v Y→∀ q,v.ownBlock=some q→q∉(Value.slice sa St.length sc).ownBlock.toList:=fun {B v Y} hv q hq hm=>by
  obtain ⟨cs,hc⟩:=own_tyT hv hq
  obtain ⟨cs',hc'⟩:=own_tyT h.so (Option.mem_toList.1 hm)
  rw [hc] at hc'
  simp at hc'
 have hto:SRow w2 w.heap.size (.slice ta T.length tc) T:=(Fr.ofGrown hgrow).own h.tr (hno h.tr)
 have hsr:Sws w2 (us++[u]) (St++[X]):=(h.sr.keep (Fr.ofGrown hgrow) (fun u' hu' q hq=>by
  obtain ⟨Y,hY⟩:=h.sr.mem hu'
  exact hno hY q hq)).snoc ((Fr.ofGrown hgrow).own hu (hno hu))
 have hrt:=rts_fr h.rt (Fr.ofGrown hgrow) (noTree_own h.so (by decide) (by decide))
 refine ⟨by rw [cell_of_row _ _ _ _ _ _ g2];rfl,frozen_of_row _ _ _ _ _ g2,(Array.getElem?_eq_some_iff.1 g2).1,⟨?_,rts_fr hrt (Fr.ofSet _ _ _ _) (noTree_one g2 (by decide) (by decide)),h.gr,h.ex,h.hb,h.hg,?_,?_,?_,?_,?_,?_,h.tz⟩⟩
 ·exact (h.fv.fr (Fr.ofGrown hgrow) (fun x hx=>.inr (h.so.lt x (Option.mem_toList.1 hx)).1) h.hb h.ne).fr (Fr.ofSet _ _ _ _) (fun x hx=>.inl (List.mem_singleton.1 hx)) h.hb h.ne
 ·rw [heap_setCell_same _ _ _ _ _ _ g2,hlen];rfl
 ·rw [hlen];exact (Fr.ofSet _ _ _ _).own ho (fun q hq=>by simpa using own_off ho g2 (by decide) q hq)
 ·exact hsr.keep (Fr.ofSet _ _ _ _) (fun u' hu' q hq hm=>by
   obtain ⟨Y,hY⟩:=hsr.mem hu'
   exact own_off hY g2 (by decide) q hq (List.mem_singleton.1 hm))
 ·exact (Fr.ofSet _ _ _ _).own hto (fun q hq=>by simpa using own_off hto g2 (by decide) q hq)
 ·intro u' hu' q hq
  rcases List.mem_append.1 hu' with hu' | hu'
  ·exact h.sep u' hu' q hq
  ·rw [List.mem_singleton.1 hu'] at hq;exact hsu q hq
 ·intro Y hY
  rcases List.mem_append.1 hY with hY | hY
  ·exact h.sets Y hY
  ·rw [List.mem_singleton.1 hY];exact hX
end
end Mc
end Go.Proofs.YtobfpgoepaeknaaGreat
namespace Go.Proofs.YtobfpgoepaeknaaGreat
namespace Mc
open Go.RowKit
attribute [local go_sem ↓] Go.wp_at_zero Go.wp_at_succ
theorem infoStG:(Tryz.prog.info? 9).map (fun i=>(i.zero,i.size,i.bytes))=some (some (.string ⟨#[]⟩),1,16):=by kernel_rfl
theorem infoSsG:(Tryz.prog.info? 60).map (fun i=>(i.zero,i.size,i.bytes))=some (some (.slice none 0 0),1,24):=by kernel_rfl
theorem appSt {ops:Array Oper} {rest:List Oper} {o:Oper} {a:Act} {W:World} {Q:Exit→Act→World→Prop} (hgd:o.guard=none) (s x:Operand)
  (ho:o.op=.call { callee:=.builtin .append,args:=#[s,x],argTypes:=#[60,60] }) (B:Nat) (v:Value) (xs:List ByteArray) (hs:a.eval s=v) (hown:SRow W B v xs) (g0:Nat) (y:ByteArray)
  (hx:a.eval x=.slice (some ⟨g0,0,none⟩) 1 1) (hc:W.cell? ⟨g0,0,none⟩=some (.string y)) (hlen:xs.length≤3000000) (hB:B≤W.heap.size) (H:Nat) (hH:W.heap.size=H)
  (h:∀ g cap w',w'.ownsRow B 9 1 (.slice (some ⟨g,0,none⟩) (xs.length+1) cap) (xs.length+1) (strCells xs++[.string y])→W.grownBy w' v.ownBlock→(v.ownBlock=some g∨g=H)→g < w'.heap.size→wpList Tryz.prog ops Q rest (a.put o.dst (.slice (some ⟨g,0,none⟩) (xs.length+1) cap)) w'):wpList Tryz.prog ops Q (o ::rest) a W:=by
 obtain ⟨i,i0,i1,i2,i3⟩:=info_of infoStG
 exact wpList_append_lies W hgd s x 60 ho B 9 i (.string ⟨#[]⟩) 1 16 Tryz.underlying60 i0 i1 i2 i3 rfl (by decide) v xs.length (strCells xs) hs hown ⟨g0,0,none⟩ 1 1 [.string y] hx rfl (one_cells hc) (by intro u hu;simp at hu;subst hu;rfl) (by decide) (by unfold maxLen;omega) (by omega) hB H hH h
theorem appSl {ops:Array Oper} {rest:List Oper} {o:Oper} {a:Act} {W:World} {Q:Exit→Act→World→Prop} (hgd:o.guard=none) (s x:Operand)
  (ho:o.op=.call { callee:=.builtin .append,args:=#[s,x],argTypes:=#[59,59] }) (B:Nat) (v:Value) (n:Nat) (us:List Value) (hs:a.eval s=v) (hown:W.ownsRow B 60 1 v n us) (g0:Nat) (y:Value) (hy:y.oneCell'=true)
  (hx:a.eval x=.slice (some ⟨g0,0,none⟩) 1 1) (hc:W.cell? ⟨g0,0,none⟩=some y) (hlen:n≤1000) (hB:B≤W.heap.size) (H:Nat) (hH:W.heap.size=H)
  (h:∀ g cap w',w'.ownsRow B 60 1 (.slice (some ⟨g,0,none⟩) (n+1) cap) (n+1) (us++[y])→W.grownBy w' v.ownBlock→(v.ownBlock=some g∨g=H)→g < w'.heap.size→wpList Tryz.prog ops Q rest (a.put o.dst (.slice (some ⟨g,0,none⟩) (n+1) cap)) w'):wpList Tryz.prog ops Q (o ::rest) a W:=by
 obtain ⟨i,i0,i1,i2,i3⟩:=info_of infoSsG
 exact wpList_append_lies W hgd s x 59 ho B 60 i (.slice none 0 0) 1 24 Tryz.underlying59 i0 i1 i2 i3 rfl (by decide) v n us hs hown ⟨g0,0,none⟩ 1 1 [y] hx rfl (one_cells hc) (by intro u hu;simp at hu;subst hu;exact hy) (by decide) (by unfold maxLen;omega) (by omega) hB H hH h
structure KpN (w w':World):Prop where
 size:w.heap.size≤w'.heap.size
 keep:∀ (q:Nat) (cs:Array Value) (ty:TypeId) (fr:Nat × Nat),w.heap[q]?=some (.cells cs ty fr)→(ty=3∨ty=37)→w'.heap[q]?=some (.cells cs ty fr)
section
variable {w w1 w2 : World}
theorem KpN.refl (w:World):KpN w w:=⟨Nat.le_refl _,fun _ _ _ _ h _=>h⟩
theorem KpN.trans (h:KpN w w1) (k:KpN w1 w2):KpN w w2:=⟨Nat.le_trans h.size k.size,fun q cs ty fr g e=>k.keep q cs ty fr (h.keep q cs ty fr g e) e⟩
theorem KpN.fy {b:Nat} {rs:List Rn} (k:Fy b w w1) (hb:RtS w b rs):KpN w w1:=⟨k.below.size,fun q cs ty fr g e=>k.at hb g (by rcases e with e | e<;>(rw [e];decide)) (by rcases e with e | e<;>(rw [e];decide))⟩
theorem KpN.fr {S:List Nat} (f:Fr S w w1) (hS:∀ q∈S,∀ cs ty fr,w.heap[q]?=some (.cells cs ty fr)→ty≠3∧ty≠37):KpN w w1:=⟨f.size,fun q cs ty fr g e=>f.at g (fun hm=>by
 have:=hS q hm cs ty fr g
 rcases e with e | e
 ·exact this.1 e
 ·exact this.2 e)⟩
theorem KpN.own (h:KpN w w1) {B e z n:Nat} {v:Value} {xs:List Value} (ho:w.ownsRow B e z v n xs) (he:e=3∨e=37):w1.ownsRow B e z v n xs:=by
 refine ⟨ho.1,?_⟩
 rcases ho.2 with hl | ⟨g,cap,cur,rfl,q1,hg,rest⟩
 ·exact .inl hl
 ·exact .inr ⟨g,cap,cur,rfl,q1,h.keep _ _ _ _ hg he,rest⟩
theorem KpN.nr (h:KpN w w1) {B:Nat} {v:Value} {xs:List Nat} (ho:NR w B v xs):NR w1 B v xs:=h.own ho (.inl rfl)
theorem noInt_own {B e z n:Nat} {v:Value} {xs:List Value} (h:w.ownsRow B e z v n xs) (h1:e≠3) (h2:e≠37):∀ q∈v.ownBlock.toList,∀ cs ty fr,w.heap[q]?=some (.cells cs ty fr)→ty≠3∧ty≠37:=fun q hq cs ty fr hc=>by
 obtain ⟨cs',hc'⟩:=own_tyT h (Option.mem_toList.1 hq)
 rw [hc] at hc'
 simp at hc'
 rw [hc'.2.1]
 exact ⟨h1,h2⟩
theorem noInt_one {g:Nat} {cs:Array Value} {t:TypeId} (h:w.heap[g]?=some (.cells cs t (0,0))) (h1:t≠3) (h2:t≠37):∀ q∈[g],∀ cs ty fr,w.heap[q]?=some (.cells cs ty fr)→ty≠3∧ty≠37:=fun q hq cs' ty fr hc=>by
 rw [List.mem_singleton.1 hq,h] at hc
 simp at hc
 rw [←hc.2.1]
 exact ⟨h1,h2⟩
end
structure StI (rs0:List Rn) (U:List (List Nm)) (b gf:Nat) (w:World) (rs:List Rn) (W:World) (bv:Value) (sa:Option Addr) (sc:Nat) (St:List (List ByteArray)) (us:List Value) (tn:Nat) (rs1:List Rn) (u:Value) (X:List ByteArray) (wr:World) (ta:Option Addr) (tc:Nat) (T:List ByteArray) (rs2:List Rn) (i:Nat):Prop where
 fn:FnI rs0 U b gf w rs wr bv sa sc St us ta tc T rs2
 ex:∃ x,rs2=rs1++x
 g1:GrowT rs0 rs1
 kp:KpN W wr
 ur:SRow wr 0 u X
 un:∀ q,u.ownBlock=some q→(Value.slice ta T.length tc).ownBlock≠some q
 vs:VSet rs0 rs1 U X
 v1:∀ Y∈St,VSet rs0 rs1 U Y
 tl:T.length≤tn+i
 no:∀ k,k < i→∀ Y,St[k]?=some Y→∃ s,Tells s (stB rs1 Y) (stB rs1 X)
section
variable {rs0 : List Rn} {U : List (List Nm)} {b gf : Nat} {w : World} {rs : List Rn} {W wr w2 : World} {bv : Value} {sa : Option Addr} {sc : Nat} {St : List (List ByteArray)} {us : List Value} {tn : Nat} {u : Value} {X : List ByteArray} {ta : Option Addr} {tc : Nat} {T : List ByteArray} {rs1 rs2 rs3 : List Rn} {i : Nat}
theorem StI.next (h:StI rs0 U b gf w rs W bv sa sc St us tn rs1 u X wr ta tc T rs2 i) (k:TrK rs0 b wr rs2 w2 rs3):StI rs0 U b gf w rs W bv sa sc St us tn rs1 u X w2 ta tc T rs3 i :=
 ⟨h.fn.next k,grow_trans h.ex k.ex,h.g1,h.kp.trans (KpN.fy k.fy h.fn.rt),h.ur.fy k.fy h.fn.rt,h.un,h.vs,h.v1,h.tl,h.no⟩
theorem StI.below (h:StI rs0 U b gf w rs W bv sa sc St us tn rs1 u X wr ta tc T rs2 i) (k:Below wr.heap.size wr w2):StI rs0 U b gf w rs W bv sa sc St us tn rs1 u X w2 ta tc T rs2 i:=h.next ((TrK.refl h.fn.rt h.fn.gr).below k)
theorem StI.vX (h:StI rs0 U b gf w rs W bv sa sc St us tn rs1 u X wr ta tc T rs2 i):VSet rs0 rs2 U X∧stB rs2 X=stB rs1 X:=by
 obtain ⟨x,hx⟩:=h.ex
 rw [hx]
 exact ⟨h.vs.grow x,stB_app h.g1 h.vs x⟩
theorem StI.vY (h:StI rs0 U b gf w rs W bv sa sc St us tn rs1 u X wr ta tc T rs2 i) {Y:List ByteArray} (hY:Y∈St):VSet rs0 rs2 U Y∧stB rs2 Y=stB rs1 Y:=by
 obtain ⟨x,hx⟩:=h.ex
 rw [hx]
 exact ⟨(h.v1 Y hY).grow x,stB_app h.g1 (h.v1 Y hY) x⟩
theorem StI.inc (h:StI rs0 U b gf w rs W bv sa sc St us tn rs1 u X wr ta tc T rs2 i) {Y:List ByteArray} (hY:St[i]?=some Y) (ht:∃ s,Tells s (stB rs1 Y) (stB rs1 X)):StI rs0 U b gf w rs W bv sa sc St us tn rs1 u X wr ta tc T rs2 (i+1) :=
 ⟨h.fn,h.ex,h.g1,h.kp,h.ur,h.un,h.vs,h.v1,by have:=h.tl;omega,fun k hk Y' hY'=>by
  by_cases e:k=i
  ·subst e;rw [hY] at hY';cases hY';exact ht
  ·exact h.no k (by omega) Y' hY'⟩
theorem StI.pushT (h:StI rs0 U b gf w rs W bv sa sc St us tn rs1 u X wr ta tc T rs2 i) {Y:List ByteArray} (hY:St[i]?=some Y) {g cap:Nat} {s:ByteArray} (ht:Tells s (stB rs1 Y) (stB rs1 X)) (hz:s.size≤67108864∧bytesOk (bytesN s)) (hgrow:wr.grownBy w2 (.slice ta T.length tc:Value).ownBlock) (ho:w2.ownsRow w.heap.size 9 1 (.slice (some ⟨g,0,none⟩) (T.length+1) cap) (T.length+1) (strCells T++[.string s])) (hl:(Value.slice ta T.length tc).ownBlock=some g∨g=wr.heap.size) :
  w2.cell? ⟨gf,3,none⟩=some (.slice ta T.length tc)∧w2.frozen? ⟨gf,3,none⟩=false∧gf < w2.heap.size∧StI rs0 U b gf w rs W bv sa sc St us tn rs1 u X (w2.setCell ⟨gf,3,none⟩ (.slice (some ⟨g,0,none⟩) (T.length+1) cap)) (some ⟨g,0,none⟩) cap (T++[s]) rs2 (i+1):=by
 obtain ⟨p1,p2,p3,p4⟩:=h.fn.pushT hz hgrow ho hl
 have hlen:(T++[s]).length=T.length+1:=by simp
 have e2:=own_off h.fn.tr h.fn.im (by decide)
 have g2:w2.heap[gf]?=_:=(Fr.ofGrown hgrow).at h.fn.im (fun hm=>e2 _ (Option.mem_toList.1 hm) rfl)
 have hu2:SRow w2 0 u X:=(Fr.ofGrown hgrow).own h.ur (fun q hq hm=>h.un q hq (Option.mem_toList.1 hm))
 refine ⟨p1,p2,p3,p4,h.ex,h.g1,(h.kp.trans (KpN.fr (Fr.ofGrown hgrow) (noInt_own h.fn.tr (by decide) (by decide)))).trans (KpN.fr (Fr.ofSet _ _ _ _) (noInt_one g2 (by decide) (by decide))),?_,?_,h.vs,h.v1,by rw [hlen];have:=h.tl;omega,fun k hk Y' hY'=>?_⟩
 ·exact (Fr.ofSet _ _ _ _).own hu2 (fun q hq=>by simpa using own_off hu2 g2 (by decide) q hq)
 ·intro q hq hq'
  have e:g=q:=by simpa [Value.ownBlock] using hq'
  subst e
  rcases hl with hl | hl
  ·exact h.un g hq hl
  ·have:=(World.ownsRow.lt h.ur g hq).2
   omega
 ·by_cases e:k=i
  ·subst e;rw [hY] at hY';cases hY';exact ⟨s,ht⟩
  ·exact h.no k (by omega) Y' hY'
end
theorem apart_u {rs0:List Rn} {U:List (List Nm)} (hT:TrC rs0 U) {b:Nat} (w:World) (rs:List Rn) (hb:RtS w b rs) (hg:GrowT rs0 rs) (B1 B2:Nat) (u v:Value) (A B:List ByteArray) (hu:SRow w B1 u A) (hv:SRow w B2 v B) (hA:VSet rs0 rs U A) (hB:VSet rs0 rs U B) (B3:Nat) (hv3:Value) (hbs:List Nat) (hn:NR w B3 hv3 hbs) (hb256:∀ x∈hbs,x < 256) (hbl:hbs.length≤256) :
  Calls Tryz.prog 83 #[.pointer (some ⟨b,0,none⟩),u,v,hv3] w fun e w'=>∃ (s:ByteArray) (o:Bool) (rs':List Rn),e=.returned (.tuple #[.string s,.bool o])∧TrK rs0 b w rs w' rs'∧(o=true→(s.size≤67108864∧bytesOk (bytesN s))∧Tells s (stB rs A) (stB rs B))∧(o=false→∀ x,(∀ c∈x,c∈hbs)→(stB rs A x↔stB rs B x)) :=
 (apart_any hT w rs hb hg B1 B2 u v A B hu hv hA hB B3 hv3 hbs hn hb256 hbl).mono fun e w' h=>by
  obtain ⟨rs',hk,⟨s,h1,h2,h3,h4⟩ | ⟨h1,h2⟩⟩:=h
  ·exact ⟨s,true,rs',h1,hk,fun _=>⟨⟨h2,h3⟩,h4⟩,(fun e=>by cases e)⟩
  ·exact ⟨_,false,rs',h1,hk,(fun e=>by cases e),fun _=>h2⟩
def StA (rs0:List Rn) (U:List (List Nm)) (b gf:Nat) (w:World) (rs:List Rn) (W:World) (bv:Value) (St:List (List ByteArray)) (us:List Value) (tn:Nat) (rs1:List Rn) (u:Value) (X:List ByteArray) (hbs:List Nat) (e:Ending) (w':World):Prop :=
 ∃ (k:Nat) (sa:Option Addr) (sc:Nat) (St':List (List ByteArray)) (us':List Value) (ta:Option Addr) (tc:Nat) (T:List ByteArray) (rs2:List Rn),e=.returned (.int .i64 (k:Int))∧FnI rs0 U b gf w rs w' bv sa sc St' us' ta tc T rs2∧(∃ x,rs2=rs1++x)∧KpN W w'∧T.length≤tn+St.length ∧
  ((St'=St∧us'=us∧∃ Y,St[k]?=some Y∧∀ x,(∀ c∈x,c∈hbs)→(stB rs1 Y x↔stB rs1 X x))∨(St'=St++[X]∧us'=us++[u]∧k=St.length∧∀ Y∈St,∃ s,Tells s (stB rs1 Y) (stB rs1 X)))
set_option maxRecDepth 20000 in
set_option maxHeartbeats 4000000 in
theorem state_any {rs0:List Rn} {U:List (List Nm)} (hT:TrC rs0 U) {b gf:Nat} (w:World) (rs:List Rn) (W:World) (bv:Value) (sa:Option Addr) (sc:Nat) (St:List (List ByteArray)) (us:List Value) (ta:Option Addr) (tc:Nat) (T:List ByteArray) (rs1:List Rn) (hI:FnI rs0 U b gf w rs W bv sa sc St us ta tc T rs1) (u:Value) (X:List ByteArray) (hu:SRow W 0 u X) (hun:∀ q,u.ownBlock=some q→(Value.slice ta T.length tc).ownBlock≠some q) (hX:VSet rs0 rs1 U X) (B3:Nat) (hbs:List Nat) (hn:NR W B3 bv hbs) (hb256:∀ x∈hbs,x < 256) (hbl:hbs.length≤256) (hSl:St.length≤100) (hTl:T.length≤900000) :
  Calls Tryz.prog 45 #[.pointer (some ⟨gf,0,none⟩),u] W fun e w'=>StA rs0 U b gf w rs W bv St us T.length rs1 u X hbs e w':=by
 obtain ⟨ua,uc,rfl⟩:=hu.form
 obtain ⟨ba,bc,rfl⟩:=hn.form
 have hSI:(St.length:Int)≤100:=by omega
 have HT:=hide hT
 have HN:=hide hn
 have H256:=hide hb256
 have HBL:=hide hbl
 have HSL:=hide hSl
 have HTLN:=hide hTl
 have HI0:Hid (StI rs0 U b gf w rs W (.slice ba hbs.length bc) sa sc St us T.length rs1 (.slice ua X.length uc) X W ta tc T rs1 0):=⟨hI,⟨[],by simp⟩,hI.gr,KpN.refl _,hu,hun,hX,hI.sets,by omega,fun k hk=>absurd hk (Nat.not_lt_zero _)⟩
 have HXL:Hid (X.length≤13):=by have h1:=hX.len hI.gr;have h2:=hT.l13;show _≤_;omega
 clear hT hI hu hun hX hn hb256 hbl hSl hTl
 go_enter Tryz.func45,Tryz.ntmps45
 go_wp2_with fail
 go_loopw [5] (fun ix wr=>∃ i:Nat,ix=.int .i64 (i:Int)∧Hid (i≤St.length∧StI rs0 U b gf w rs W (.slice ba hbs.length bc) sa sc St us T.length rs1 (.slice ua X.length uc) X wr ta tc T rs1 0)) (fun ix _=>St.length - (intOf ix).toNat)
 case atStart=>exact ⟨0,rfl,Nat.zero_le _,unhide HI0⟩
 case round =>
  clear HI0
  rename World=>wr
  obtain ⟨i,rfl,HH⟩:=hrel
  obtain ⟨hi,hI⟩:=unhide HH
  clear HH
  have f2:=hI.fn.c2
  have hgf:=hI.fn.lt
  by_cases hlt:i < St.length
  ·have hiI:(i:Int) < (St.length:Int):=by omega
   have hi0:(0:Int)≤(i:Int):=by omega
   have hi1:((i:Int)).toNat=i:=by omega
   obtain ⟨Y,hY⟩:∃ Y,St[i]?=some Y:=⟨_,List.getElem?_eq_getElem hlt⟩
   obtain ⟨g,y,rfl,hgl,hcy,hry⟩:=hI.fn.at hY
   have hyl:Y.length≤13:=by have h1:=(hI.v1 Y (List.mem_of_getElem? hY)).len hI.g1;have h2:=(unhide HT).l13;omega
   have HSM:=hide (sameTerms_any wr 0 0 _ _ Y X hry hI.ur (by omega) (by have:=unhide HXL;omega))
   obtain ⟨ya,yc,rfl⟩:=hry.form
   have HI:=hide hI
   have HY:=hide hY
   have HLT:=hide hlt
   clear hi hI hlt hY hry hyl
   go_wp2_with fail
   refine (unhide HSM).mono ?_
   rintro e w2 ⟨⟨y,rfl,hy⟩,hb2⟩
   have HY2:=hide hy
   have HI2:=hide ((unhide HI).below hb2)
   clear hy hb2 HSM HI f2 hgf hcy hgl
   cases y
   ·go_wp2_with fail
    go_roundw
    case rel=>exact ⟨i+1,by go_num,unhide HLT,unhide HI2⟩
    case measure=>have:=unhide HLT;simp [intOf];omega
   ·have HEQ:Hid (Y=X):=(unhide HY2).1 rfl
    clear HY2
    go_wp2_with fail
    go_ret
    exact ⟨i,_,_,St,us,_,_,T,rs1,rfl,(unhide HI2).fn,⟨[],by simp⟩,(unhide HI2).kp,Nat.le_add_right _ _,.inl ⟨rfl,rfl,Y,unhide HY,fun x _=>by rw [unhide HEQ]⟩⟩
  ·have hi2:i=St.length:=by omega
   subst hi2
   have hiI:¬(St.length:Int) < (St.length:Int):=by omega
   have HI:=hide hI
   clear hlt hi hI
   go_wp2_with fail
   clear f2 hgf hiI
   go_loopw [7] (fun ix wr=>∃ (i:Nat) (ta:Option Addr) (tc:Nat) (T':List ByteArray) (rs2:List Rn),ix=.int .i64 (i:Int)∧Hid (i≤St.length∧StI rs0 U b gf w rs W (.slice ba hbs.length bc) sa sc St us T.length rs1 (.slice ua X.length uc) X wr ta tc T' rs2 i)) (fun ix _=>St.length - (intOf ix).toNat)
   case atStart=>exact ⟨0,ta,tc,T,rs1,rfl,Nat.zero_le _,unhide HI⟩
   case round =>
    clear HI
    rename World=>wq
    obtain ⟨j,tb,td,T',rs2,rfl,HH⟩:=hrel
    obtain ⟨hj,hI⟩:=unhide HH
    clear HH
    have f2:=hI.fn.c2
    have hgf:=hI.fn.lt
    by_cases hlt:j < St.length
    ·have hiI:(j:Int) < (St.length:Int):=by omega
     have hi0:(0:Int)≤(j:Int):=by omega
     have hi1:((j:Int)).toNat=j:=by omega
     obtain ⟨Y,hY⟩:∃ Y,St[j]?=some Y:=⟨_,List.getElem?_eq_getElem hlt⟩
     obtain ⟨g,y,rfl,hgl,hcy,hry⟩:=hI.fn.at hY
     have hvY:=hI.vY (List.mem_of_getElem? hY)
     have HTE:=hide (tested_any (unhide HT) wq rs2 hI.fn.rt hI.fn.gr gf _ _ tb td T' hI.fn.im w.heap.size hI.fn.tr (fun s hs=>(hI.fn.tz s hs).1) (by have:=hI.tl;have:=unhide HTLN;have:=unhide HSL;omega) 0 0 _ _ Y X hry hI.ur hvY.1 hI.vX.1)
     have HEY:Hid (stB rs2 Y=stB rs1 Y):=hvY.2
     have HEX:Hid (stB rs2 X=stB rs1 X):=hI.vX.2
     obtain ⟨ya,yc,rfl⟩:=hry.form
     have HI:=hide hI
     have HY:=hide hY
     have HLT:=hide hlt
     clear hj hI hlt hY hry hvY
     go_wp2_with fail
     refine (unhide HTE).mono ?_
     rintro e w2 ⟨y,rs3,rfl,hk,hy⟩
     have HYT:=hide hy
     have HI2:=hide ((unhide HI).next hk)
     clear hy hk HTE HI f2 hgf hcy hgl
     cases y
     ·have hI2:=unhide HI2
      have e0:=hI2.fn.c0
      have e1:=hI2.fn.c1
      have e2:=hI2.fn.c2
      have hgf2:=hI2.fn.lt
      obtain ⟨g',y',he,hgl2,hcy2,hry2⟩:=hI2.fn.at (unhide HY)
      simp only [Option.some.injEq,Addr.mk.injEq,and_true] at he
      subst he
      obtain ⟨za,zc,rfl⟩:=hry2.form
      have hvY2:=hI2.vY (List.mem_of_getElem? (unhide HY))
      have HAP:=hide (fun n=>apart_u (unhide HT) (w2.drewN n) rs3 (RtS_below hI2.fn.rt (below_drewN (Below.refl _ _) n)) hI2.fn.gr 0 0 (.slice za Y.length zc) (.slice ua X.length uc) Y X (show SRow w2 0 (.slice za Y.length zc) Y from hry2) (show SRow w2 0 (.slice ua X.length uc) X from hI2.ur) hvY2.1 hI2.vX.1 B3 (.slice ba hbs.length bc) hbs (show NR w2 B3 (.slice ba hbs.length bc) hbs from hI2.kp.nr (unhide HN)) (unhide H256) (unhide HBL))
      have HEY2:Hid (stB rs3 Y=stB rs1 Y):=hvY2.2
      have HEX2:Hid (stB rs3 X=stB rs1 X):=hI2.vX.2
      clear HYT hI2 hry2 hvY2 HEY HEX
      go_upto_region 12 with fail
      go_cut [9,10] from 31 to 83 (fun sx ox wx=>∃ (s:ByteArray) (o:Bool) (rs4:List Rn),sx=.string s∧ox=.bool o∧Hid (TrK rs0 b w2 rs3 wx rs4∧(o=true→(s.size≤67108864∧bytesOk (bytesN s))∧Tells s (stB rs3 Y) (stB rs3 X))∧(o=false→∀ x,(∀ c∈x,c∈hbs)→(stB rs3 Y x↔stB rs3 X x))))
      case first =>
       go_region_with (go_at_call 83;refine (unhide HAP _).mono ?_;rintro e w3 ⟨s,o,rs4,rfl,hk,ho⟩;have HK3:=hide (And.intro (trk_base hk) ho);clear hk ho)
       all_goals
        go_wp2_with fail
        go_meet
        exact ⟨s,o,rs4,rfl,rfl,unhide HK3⟩
      case rest =>
       clear HAP e0 e1 e2 hgf2 hcy2 hgl2
       rename World=>w3
       obtain ⟨s,o,rs4,rfl,rfl,HC⟩:=hcut
       obtain ⟨hk,ho1,ho2⟩:=unhide HC
       have hI3:=(unhide HI2).next hk
       clear HI2 HC
       cases o
       ·have HSAME:Hid (∀ x,(∀ c∈x,c∈hbs)→(stB rs1 Y x↔stB rs1 X x)):=fun x hx=>by
         have:=ho2 rfl x hx
         rw [unhide HEY2,unhide HEX2] at this
         exact this
        have HI3:=hide hI3
        clear hk ho1 ho2 hI3
        go_wp2_with fail
        go_ret
        exact ⟨j,_,_,St,us,tb,td,T',rs4,rfl,(unhide HI3).fn,(unhide HI3).ex,(unhide HI3).kp,by have h1:=(unhide HI3).tl;have h2:=unhide HLT;omega,.inl ⟨rfl,rfl,Y,unhide HY,unhide HSAME⟩⟩
       ·have HTS:Hid (Tells s (stB rs1 Y) (stB rs1 X)):=by
         have:=(ho1 rfl).2
         rw [unhide HEY2,unhide HEX2] at this
         exact this
        have HSZ:=hide (ho1 rfl).1
        have HI3:=hide hI3
        have hXA:StI rs0 U b gf w rs W (.slice ba hbs.length bc) (some ⟨g,0,none⟩) sc St us T.length rs1 (.slice ua X.length uc) X (w3.alloc (Obj.cells #[.string s] 9)) tb td T' rs4 j:=hI3.below ((Below.refl _ _).alloc (Nat.le_refl _) _)
        have HXA:=hide hXA
        have e3:=hI3.fn.c3
        have hgf3:=hI3.fn.lt
        have HWS:Hid (w.heap.size≤w3.heap.size):=hI3.fn.fv.size
        have HTL2:Hid (T'.length≤3000000):=by have h1:=hI3.tl;have h2:=unhide HTLN;have h3:=unhide HSL;have h4:=unhide HLT;show _≤_;omega
        clear hk ho1 ho2 hI3 hXA
        go_wp2_with (at_builtin;refine appSt rfl (.tmp 78) (.tmp 80) rfl w.heap.size _ T' rfl (unhide HXA).fn.tr w3.heap.size _ rfl (new_cell rfl) (unhide HTL2) (by have:=unhide HWS;simp;omega) (w3.heap.size+1) (by simp) ?_;intro g5 cap5 w8 ho hgrow hlies hlt5;obtain ⟨y1,z1,hg8,hP⟩:=(unhide HXA).pushT (unhide HY) (unhide HTS) (unhide HSZ) hgrow ho (hlies.elim Or.inl (fun e=>Or.inr (by rw [e];simp)));have HP9:=hide hP;clear ho hgrow hlies hP)
        go_roundw
        case rel=>exact ⟨j+1,some ⟨g5,0,none⟩,cap5,T'++[s],rs4,by go_num,unhide HLT,unhide HP9⟩
        case measure=>have:=unhide HLT;simp [intOf];omega
     ·have HI3:=hide ((unhide HI2).inc (unhide HY) (by
       obtain ⟨s,-,hs⟩:=unhide HYT rfl
       rw [unhide HEY,unhide HEX] at hs
       exact ⟨s,hs⟩))
      clear HYT
      go_wp2_with fail
      go_roundw
      case rel=>exact ⟨j+1,tb,td,T',rs3,by go_num,unhide HLT,unhide HI3⟩
      case measure=>have:=unhide HLT;simp [intOf];omega
    ·have hj2:j=St.length:=by omega
     subst hj2
     have hjI:¬(St.length:Int) < (St.length:Int):=by omega
     have HNO:Hid (∀ Y∈St,∃ s,Tells s (stB rs1 Y) (stB rs1 X)):=fun Y hY=>by
      obtain ⟨k,hk⟩:=List.getElem?_of_mem hY
      exact hI.no k (get_lt hk) Y hk
     have hXA:StI rs0 U b gf w rs W (.slice ba hbs.length bc) sa sc St us T.length rs1 (.slice ua X.length uc) X (wq.alloc (Obj.cells #[.slice ua X.length uc] 60)) tb td T' rs2 St.length:=hI.below ((Below.refl _ _).alloc (Nat.le_refl _) _)
     have HXA:=hide hXA
     have HI:=hide hI
     have HWS:Hid (w.heap.size≤wq.heap.size):=hI.fn.fv.size
     have HEQ:Hid (((St++[X]).length:Int) - 1=(St.length:Int)):=by show _=_;rw [List.length_append];simp
     have HKG:Hid (∀ w8 x,(wq.alloc (Obj.cells #[.slice ua X.length uc] 60)).grownBy w8 (.slice sa St.length sc:Value).ownBlock→KpN W (w8.setCell ⟨gf,2,none⟩ x)):=fun w8 x hgrow=>by
      have e2:=own_off hXA.fn.so hXA.fn.im (by decide)
      have g2:w8.heap[gf]?=_:=(Fr.ofGrown hgrow).at hXA.fn.im (fun hm=>e2 _ (Option.mem_toList.1 hm) rfl)
      exact (hXA.kp.trans (KpN.fr (Fr.ofGrown hgrow) (noInt_own hXA.fn.so (by decide) (by decide)))).trans (KpN.fr (Fr.ofSet _ _ _ _) (noInt_one g2 (by decide) (by decide)))
     clear hj hlt hI hXA
     go_wp2_with (at_builtin;refine appSl rfl (.tmp 88) (.tmp 90) rfl w.heap.size _ St.length us rfl (unhide HXA).fn.so wq.heap.size _ rfl rfl (new_cell rfl) (by have:=unhide HSL;omega) (by have:=unhide HWS;simp;omega) (wq.heap.size+1) (by simp) ?_;intro g5 cap5 w8 ho hgrow hlies hlt5;obtain ⟨y1,z1,hg8,hP⟩:=(unhide HXA).fn.pushS (unhide HXA).ur (unhide HXA).vX.1 (unhide HXA).un hgrow ho;have HP9:=hide hP;have HK9:=hide (unhide HKG w8 (.slice (some ⟨g5,0,none⟩) (St.length+1) cap5) hgrow);have s1:=hP.c2;clear ho hgrow hlies hP)
     rw [List.length_append] at s1
     go_ret
     exact ⟨St.length,_,_,_,_,tb,td,T',rs2,rfl,unhide HP9,(unhide HI).ex,unhide HK9,(unhide HI).tl,.inr ⟨rfl,rfl,rfl,unhide HNO⟩⟩
end Mc
end Go.Proofs.YtobfpgoepaeknaaGreat
