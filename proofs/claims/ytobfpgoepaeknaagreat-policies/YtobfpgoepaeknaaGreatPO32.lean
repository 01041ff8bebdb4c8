/-
  The document's answer: left at a node that was put: some times.
  The document's answer: left at every node.
  The document's answer: does a set of terms let a string by?
  The document's answer: alike bytes.
-/
import Derived.Test.YtobfpgoepaeknaaGreatPO29
import Derived.Deep.DeepCutAuto
import Derived.Test.YtobfpgoepaeknaaGreatPO31
import Derived.Test.YtobfpgoepaeknaaGreatPO30
import Derived.Test.YtobfpgoepaeknaaGreatPO18
namespace Go.Proofs.YtobfpgoepaeknaaGreat
open Go.RowKit
set_option maxRecDepth 20000 in
set_option maxHeartbeats 8000000 in
theorem left_timesN {rs0:List Rn} (hphi:phiR rs0≤121) (hwf:WfT rs0) {b c:Nat} (hc:c < 256) {m n:Nat} {a:Re} (iha:DoesLf rs0 b c a) {kn:Nat} {rs:List Rn} {r:Rn} (h1:rs[kn]?=some r) (hk:r.kind=8) (hm:r.m=(m:Int)) (hn:r.n=(n:Int)) (hm9:m≤9) (hn9:n≤9) (ha:Dr rs0 a r.l) (hwt:(Re.times m n a).wt≤12) (hct:Nm.x 8 r.l (m:Int) (n:Int)∈ctsT rs0)
  (w:World) (hb:RtS w b rs) (hg:GrowT rs0 rs) (hnum:NumOk rs0 rs kn) :
  Calls Tryz.prog 79 #[.pointer (some ⟨b,0,none⟩),.int .i64 (kn:Int),.int .i64 (c:Int)] w fun e w'=>∃ v X rs',e=.returned v∧LfOk rs0 b w w' rs (if 1≤n∧m≤n then (uni rs0 a r.l.toNat).map (·++[resN rs0 (.x 8 ((r.l.toNat:Nat):Int) ((m - 1:Nat):Int) ((n - 1:Nat):Int))]) else []) (derL c (timesL m n a.L)) v X rs':=by
  generalize hUU:(if 1≤n∧m≤n then (uni rs0 a r.l.toNat).map (·++[resN rs0 (.x 8 ((r.l.toNat:Nat):Int) ((m - 1:Nat):Int) ((n - 1:Nat):Int))]) else [])=U
  have HUU:=hide hUU
  clear hUU
  have HPHI:=hide hphi
  have HWF:=hide hwf
  have HWT:=hide hwt
  have HCT:Hid (1≤n→Nm.x 8 ((r.l.toNat:Nat):Int) ((m - 1:Nat):Int) ((n - 1:Nat):Int)∈ctsT rs0):=fun hn1=>cts_next (by rw [toNat_cast ha.nonneg];exact hct) hn1
  clear hct
  have h1':=h1
  have hbl:=RtS_lt hb
  have hsm:=hg.small
  have hl':(rs.length:Int)≤121:=by have:=unhide HPHI;omega
  have hcI:(c:Int) < 256:=by omega
  obtain ⟨g,cap,hkl',c0,hcc⟩:=nd_begin hb h1'
  have HL:=hide hcc
  have HN1:=hide (heap_alloc_new w (Obj.cells Tryz.zeroCells151 151))
  have hbt:Below w.heap.size w ((w.alloc (Obj.cells Tryz.zeroCells151 151)).setRow w.heap.size (rnA r)):=below_setRow ((Below.refl _ _).alloc (Nat.le_refl _) _) (Nat.le_refl _) _
  have HNL:=hide (Nl.start hb r)
  have HF0:=hide (Fy.ofBelow hbt hbl)
  have HRT2:=hide (RtS_below hb hbt)
  have HG:=hide hg
  obtain ⟨x0,x1,x2,x3,x4⟩:=nd_cells w r
  rw [hk] at x0
  have HKR:Hid (kn < rs.length):=(List.getElem?_eq_some_iff.1 h1).1
  have HNUM:=hide hnum
  have HC256:=hide hc
  clear hbt hb h1 h1' hcc hg hsm hbl hc hphi hwf hnum
  obtain ⟨ln,hln⟩:∃ ln:Nat,r.l=(ln:Int):=⟨r.l.toNat,(toNat_cast ha.nonneg).symm⟩
  have hkl:r.l.toNat=ln:=by rw [hln,Int.toNat_natCast]
  rw [hln] at ha x1
  have HLN:=hide hln
  have HKL:=hide hkl
  have HDA:=hide ha
  have IHA:=hide iha
  rw [hln,Int.toNat_natCast] at HCT
  rw [hm] at x3
  rw [hn] at x4
  have hm9I:(m:Int)≤9:=by omega
  have hn9I:(n:Int)≤9:=by omega
  have HMN:=hide (And.intro hm9 hn9)
  have HMM:=hide (And.intro hm hn)
  by_cases hbad:n < 1∨n < m
  ·have HS:Hid (derL c (timesL m n a.L)=voidL):=der_times0 c a.L hbad
   clear ha iha hln hkl hm9 hn9 hwt
   by_cases hb1:n < 1
   ·have hb1I:(n:Int) < 1:=by omega
    clear hb1 hbad
    go_enter Tryz.func79,Tryz.ntmps79
    go_upto_region 2 with (first
     | refine wpList_load_mid rfl 151 _ rfl ⟨g,kn * 261,none⟩ rfl (rnA r) (unhide HL) _ Tryz.underlying151 rfl (by rw [size_rnA];exact info78) ?_
     | refine wpList_store_row0 rfl 151 _ _ rfl rfl w.heap.size _ rfl rfl 151 _ (unhide HN1) (by rw [size_rnA];exact info78) (by rw [zero78,size_rnA,size_rnA]) (rnA_one _) ?_)
    clear HL HN1 c0
    go_wp2_with fail
    go_ret
    first | exact ⟨_,[],rs,rfl,unhide HF0,unhide HRT2,unhide HG,⟨[],by simp⟩,World.ownsRow_nil _ _ _ _,VSet.nil _ _ _,by rw [stB_nil];exact (unhide HS).symm⟩ | exact ⟨_,rfl,[],rs,unhide HF0,unhide HRT2,unhide HG,⟨[],by simp⟩,World.ownsRow_nil _ _ _ _,VSet.nil _ _ _,by rw [stB_nil];exact (unhide HS).symm⟩
   ·have hb1I:(1:Int)≤(n:Int):=by omega
    have hb2I:(n:Int) < (m:Int):=by omega
    clear hb1 hbad
    go_enter Tryz.func79,Tryz.ntmps79
    go_upto_region 2 with (first
     | refine wpList_load_mid rfl 151 _ rfl ⟨g,kn * 261,none⟩ rfl (rnA r) (unhide HL) _ Tryz.underlying151 rfl (by rw [size_rnA];exact info78) ?_
     | refine wpList_store_row0 rfl 151 _ _ rfl rfl w.heap.size _ rfl rfl 151 _ (unhide HN1) (by rw [size_rnA];exact info78) (by rw [zero78,size_rnA,size_rnA]) (rnA_one _) ?_)
    clear HL HN1 c0
    go_wp2_with fail
    go_ret
    first | exact ⟨_,[],rs,rfl,unhide HF0,unhide HRT2,unhide HG,⟨[],by simp⟩,World.ownsRow_nil _ _ _ _,VSet.nil _ _ _,by rw [stB_nil];exact (unhide HS).symm⟩ | exact ⟨_,rfl,[],rs,unhide HF0,unhide HRT2,unhide HG,⟨[],by simp⟩,World.ownsRow_nil _ _ _ _,VSet.nil _ _ _,by rw [stB_nil];exact (unhide HS).symm⟩
  ·have hn1:1≤n:=by omega
   have hmn:m≤n:=by omega
   have HGOOD:=hide (And.intro hn1 hmn)
   have hn1I:(1:Int)≤(n:Int):=by omega
   have hmnI:(m:Int)≤(n:Int):=by omega
   have HWA:Hid (a.wt≤12):=by
    have q1:=Re.wt_pos a
    have q2:a.wt * (n:Int)≤(Re.times m n a).wt:=by
     rw [Re.wt_times]
     unfold max1
     split<;>omega
    have q4:=unhide HWT
    have q3:a.wt * 1≤a.wt * (n:Int):=Int.mul_le_mul_of_nonneg_left hn1I (by omega)
    show _≤_
    omega
   clear ha iha hln hkl hm9 hn9 hbad hn1 hmn hwt
   go_enter Tryz.func79,Tryz.ntmps79
   go_upto_region 2 with (first
    | refine wpList_load_mid rfl 151 _ rfl ⟨g,kn * 261,none⟩ rfl (rnA r) (unhide HL) _ Tryz.underlying151 rfl (by rw [size_rnA];exact info78) ?_
    | refine wpList_store_row0 rfl 151 _ _ rfl rfl w.heap.size _ rfl rfl 151 _ (unhide HN1) (by rw [size_rnA];exact info78) (by rw [zero78,size_rnA,size_rnA]) (rnA_one _) ?_)
   clear HL HN1 c0
   go_wp2_with fail
   refine (unhide IHA ln _ rs (unhide HWA) (unhide HDA) (unhide HRT2) (unhide HG)).mono ?_
   rintro e w1 ⟨v1,X1,rs1,rfl,k1⟩
   have HK1:=hide k1
   have HN2:=hide ((unhide HNL).next k1.fy)
   have HF1:=hide ((unhide HF0).trans k1.fy)
   obtain ⟨va1,vc1,rfl⟩:=k1.row.form
   obtain ⟨z0,z1,z2,z3,z4⟩:=(unhide HN2).cells
   rw [hk] at z0
   rw [unhide HLN] at z1
   have hX1:X1.length≤12:=by
    have q1:=k1.vs.len k1.gr
    have q2:=uni_len rs0 a ln
    have:=unhide HWA
    omega
   have HX1:=hide hX1
   have HSZ1:Hid (∀ s∈X1,s.size≤100000):=fun s hs=>by
    have q1:=k1.vs.size s hs
    have q2:=rdep_le (unhide HWF) (unhide HDA)
    have q3:=Dr.lt0 (unhide HDA)
    have q4:=phi_len rs0
    have q5:=unhide HPHI
    omega
   clear x0 x1 x2 x3 x4 k1 hX1
   rw [(unhide HMM).1] at z3
   rw [(unhide HMM).2] at z4
   obtain ⟨m1,hm1⟩:∃ m1:Nat,m1=m - 1:=⟨_,rfl⟩
   obtain ⟨n1,hn1⟩:∃ n1:Nat,n1=n - 1:=⟨_,rfl⟩
   have HM1:=hide hm1
   have HN11:=hide hn1
   have hn1E:(n:Int) - 1=(n1:Int):=by omega
   have HZ:Hid (((((Tryz.zeroCells151.setIfInBounds 0 (.int .i64 8)).setIfInBounds 1 (.int .i64 (ln:Int))).setIfInBounds 3 (.int .i64 (m1:Int))).setIfInBounds 4 (.int .i64 (n1:Int)))=rnA ⟨8,(ln:Int),0,(m1:Int),(n1:Int),noSet⟩):=by show _=_;rw [zero78,rnA_kind,rnA_l,rnA_m,rnA_n]
   have HFI:=hide (find_any w1 b rs1 ⟨8,(ln:Int),0,(m1:Int),(n1:Int),noSet⟩ (unhide HK1).rt (by have:=(unhide HK1).gr.small;have:=unhide HPHI;omega))
   have HCT2:Hid (Nm.x 8 (ln:Int) (m1:Int) (n1:Int)∈ctsT rs0):=by rw [hm1,hn1];exact unhide HCT (unhide HGOOD).1
   have HM9:Hid (m1≤9∧n1≤9):=by have:=unhide HMN;show _∧_;omega
   have HW1:Hid ((Re.times m1 n1 a).wt≤12):=by
    have q1:=Re.wt_pos a
    have q2:a.wt * (n:Int)≤(Re.times m n a).wt:=by
     rw [Re.wt_times]
     unfold max1
     split<;>omega
    have q3:a.wt * (n1:Int)≤a.wt * (n:Int):=Int.mul_le_mul_of_nonneg_left (by omega) (by omega)
    have q4:=unhide HWT
    show (Re.times m1 n1 a).wt≤12
    rw [Re.wt_times]
    unfold max1
    split<;>omega
   have HMS:Hid (((m:Int) - 1 < 0∧m1=0)∨(¬(m:Int) - 1 < 0∧(m:Int) - 1=(m1:Int))):=by show _∨_;omega
   clear hm1 hn1 hmnI
   go_upto_if 100 with fail
   go_cut [13] (fun mx wx=>mx=.int .i64 (m1:Int)∧wx=w1)
   case first =>
    clear HFI HK1 HN2 HF1 HZ
    rcases unhide HMS with ⟨hq,rfl⟩ | ⟨hq,he⟩
    ·go_wp2_with fail
     go_meet
     exact ⟨rfl,rfl⟩
    ·go_wp2_with fail
     go_meet
     exact ⟨by rw [he],rfl⟩
   case rest =>
    rename World=>wc
    obtain ⟨rfl,rfl⟩:=hcut
    clear HMS z3
    go_wp2_with fail
    rw [unhide HZ]
    refine (unhide HFI).mono ?_
    rintro e w2 ⟨i,rs2,rfl,hf2,hr2,hfs⟩
    obtain ⟨g1,g2,g3,g4,g5,g6⟩:=found_times (unhide HK1).gr (unhide HDA) (unhide HWA) (unhide HW1) (unhide HM9).1 (unhide HM9).2 (unhide HCT2) hfs
    have HG1:=hide g1
    have HG2:=hide g2
    have HG3:=hide g3
    have HG4:=hide g4
    have HG5:=hide g5
    have HG6:=hide g6
    have HF2:=hide ((unhide HF1).trans hf2)
    have HR2:=hide hr2
    have HI256:Hid (i < 256):=by have:=g1.small;have:=unhide HPHI;show _ < _;omega
    have HS2:=hide ((unhide HK1).row.fy hf2 (unhide HK1).rt)
    have HBE:=hide (before_any w2 0 _ X1 i (unhide HS2) (by have:=unhide HX1;omega) (unhide HI256) (unhide HSZ1))
    have HX2:Hid (VSet rs0 rs2 (uni rs0 a ln) X1∧stB rs2 X1=derL c a.L):=by
     obtain ⟨x2,hx2⟩:=g2
     rw [hx2]
     exact ⟨(unhide HK1).vs.grow x2,by rw [stB_app (unhide HK1).gr (unhide HK1).vs x2];exact (unhide HK1).eq⟩
    clear g1 g2 g3 g4 g5 g6 hf2 hr2 hfs
    go_wp2_with fail
    refine (unhide HBE).mono ?_
    rintro e w3 ⟨v3,rfl,hv3,hw3⟩
    have HV3:=hide hv3
    have HW3:=hide hw3
    obtain ⟨va3,vc3,rfl⟩:=hv3.form
    clear hv3 hw3
    go_wp2_with fail
    go_ret
    refine ⟨_,befS X1 i,rs2,rfl,(unhide HF2).trans (Fy.ofBelow (unhide HW3) (RtS_lt (unhide HR2))),RtS_below (unhide HR2) (unhide HW3),unhide HG1,grow_trans (unhide HK1).ex (unhide HG2),unhide HV3,?_,?_⟩
    ·rw [←unhide HUU,if_pos (unhide HGOOD),unhide HKL]
     refine (unhide HX2).1.bef (unhide HG5) (unhide HG3) (unhide HI256) (fun u hu=>?_)
     rw [unhide HG4,unhide HM1,unhide HN11]
     exact List.mem_map.2 ⟨u,hu,rfl⟩
    ·rw [stB_bef _ _ (unhide HI256),LN_eq (unhide HG6),(unhide HX2).2,unhide HM1,unhide HN11]
     exact (der_times c a.L (unhide HGOOD).1 (unhide HGOOD).2).symm
end Go.Proofs.YtobfpgoepaeknaaGreat
namespace Go.Proofs.YtobfpgoepaeknaaGreat
open Go.RowKit
theorem left_num {rs0:List Rn} (hphi:phiR rs0≤121) (hwf:WfT rs0) {b c:Nat} (hc:c < 256) {kn:Nat} {rs:List Rn} (w:World) (hb:RtS w b rs) (hg:GrowT rs0 rs) (hnum:NumOk rs0 rs kn) :
  Calls Tryz.prog 79 #[.pointer (some ⟨b,0,none⟩),.int .i64 (kn:Int),.int .i64 (c:Int)] w fun e w'=>∃ v X rs',e=.returned v∧LnOk rs0 b c w w' rs kn v X rs':=by
 have hlen:=phi_len rs0
 have dep:∀ {R:Re} {k:Nat},Dr rs0 R (k:Int)→rdep R≤121:=fun {R k} h=>by
  have q1:=rdep_le hwf h
  have q2:=Dr.lt0 h
  omega
 rcases hnum with ⟨h0,R,hR,hw⟩ | ⟨h0,r,h1,a,ha,hw,⟨k5,km,kn0⟩ | ⟨k8,m,n,hm,hn,hm9,hn9,hw2⟩⟩
 ·refine (left_any hphi hwf hc R kn w rs hw hR hb hg).mono ?_
  rintro e w' ⟨v,X,rs',rfl,h⟩
  have hnm:nmOf rs0 rs kn=.o kn:=by unfold nmOf;rw [if_pos h0]
  obtain ⟨x,hx⟩:=hg.gr.pre
  refine ⟨v,X,rs',rfl,h.ln (fun u hu=>by rw [hnm];exact .orig hR hu) (by have:=uni_len rs0 R kn;omega) (fun u hu=>by have:=uni_dep rs0 R kn u hu;have:=dep hR;omega) ?_⟩
  rw [LN_eq (show Dr rs R (kn:Int) by rw [hx];exact hR.app x)]
 ·have hkid:=ha.kid
  refine (left_starN hphi hwf hc (left_any hphi hwf hc a) h1 k5 ha hw w hb hg (.inr ⟨h0,r,h1,a,ha,hw,.inl ⟨k5,km,kn0⟩⟩)).mono ?_
  rintro e w' ⟨v,X,rs',rfl,h⟩
  have hnm:nmOf rs0 rs kn=.x 5 ((r.l.toNat:Nat):Int) 0 0:=by unfold nmOf;rw [if_neg (by omega),h1,toNat_cast ha.nonneg];simp only [ctOf,k5,km,kn0]
  obtain ⟨x,hx⟩:=hg.gr.pre
  refine ⟨v,X,rs',rfl,h.ln (fun u hu=>?_) (by rw [List.length_map];have:=uni_len rs0 a r.l.toNat;omega) (fun u hu=>?_) ?_⟩
  ·obtain ⟨σ,q1,rfl⟩:=List.mem_map.1 hu
   rw [hnm];exact .star hkid q1
  ·obtain ⟨σ,q1,rfl⟩:=List.mem_map.1 hu
   have:=uni_dep rs0 a _ σ q1
   have:=dep hkid
   simp;omega
  ·have hd:Dr rs (.star a) (kn:Int):=⟨r,by omega,by rw [Int.toNat_natCast];exact h1,k5,by rw [hx];exact ha.app x⟩
   rw [LN_eq hd];exact (der_star c a.L).symm
 ·have hkid:=ha.kid
  have hmay:=hg.may kn r h0 h1
  have hct:Nm.x 8 r.l (m:Int) (n:Int)∈ctsT rs0:=by simpa only [ctOf,k8,hm,hn] using hmay
  refine (left_timesN hphi hwf hc (left_any hphi hwf hc a) h1 k8 hm hn hm9 hn9 ha hw2 hct w hb hg (.inr ⟨h0,r,h1,a,ha,hw,.inr ⟨k8,m,n,hm,hn,hm9,hn9,hw2⟩⟩)).mono ?_
  rintro e w' ⟨v,X,rs',rfl,h⟩
  have hnm:nmOf rs0 rs kn=.x 8 ((r.l.toNat:Nat):Int) (m:Int) (n:Int):=by unfold nmOf;rw [if_neg (by omega),h1,toNat_cast ha.nonneg];simp only [ctOf,k8,hm,hn]
  obtain ⟨x,hx⟩:=hg.gr.pre
  refine ⟨v,X,rs',rfl,h.ln (fun u hu=>?_) ?_ (fun u hu=>?_) ?_⟩
  ·split at hu
   ·next hgd =>
    obtain ⟨σ,q1,rfl⟩:=List.mem_map.1 hu
    rw [hnm];exact .times hkid q1 hgd.1 hgd.2
   ·cases hu
  ·split
   ·rw [List.length_map];have:=uni_len rs0 a r.l.toNat;omega
   ·simp
  ·split at hu
   ·obtain ⟨σ,q1,rfl⟩:=List.mem_map.1 hu
    have:=uni_dep rs0 a _ σ q1
    have:=dep hkid
    simp;omega
   ·cases hu
  ·have hd:Dr rs (.times m n a) (kn:Int):=⟨r,by omega,by rw [Int.toNat_natCast];exact h1,k8,hm,hn,hm9,hn9,by rw [hx];exact ha.app x⟩
   rw [LN_eq hd];rfl
end Go.Proofs.YtobfpgoepaeknaaGreat
namespace Go.Proofs.YtobfpgoepaeknaaGreat
open Go.RowKit
attribute [local go_sem ↓] Go.wp_at_zero Go.wp_at_succ
structure TrC (rs0:List Rn) (U:List (List Nm)):Prop where
 phi:phiR rs0≤121
 wf:WfT rs0
 cl:Closed rs0 U
 l13:U.length≤13
 uz:∀ u∈U,u.length≤200
section
variable {rs0 : List Rn} {U : List (List Nm)} {b c : Nat} {w wr w2 : World} {rs rs1 rs2 : List Rn} {v v' : Value} {X Y : List ByteArray} {A : Lang}
theorem on_j (h:TrC rs0 U) (hc:c < 256) (w:World) (rs:List Rn) (hb:RtS w b rs) (hg:GrowT rs0 rs) (B:Nat) (v:Value) (X:List ByteArray) (hr:SRow w B v X) (hX:VSet rs0 rs U X) :
  Calls Tryz.prog 44 #[.pointer (some ⟨b,0,none⟩),v,.int .i64 (c:Int)] w fun e w'=>∃ v' Y rs',e=.returned v'∧OnJ rs0 U b w rs w' v' Y rs' (derL c (stB rs X)) :=
 on_any h.phi h.cl h.l13 h.uz hc (fun _ _ w hb hg hn=>left_num h.phi h.wf hc w hb hg hn) w rs hb hg B v X hr hX
theorem on_c (h:TrC rs0 U) (hc:c < 256) (w:World) (rs:List Rn) (hb:RtS w b rs) (hg:GrowT rs0 rs) (B:Nat) (v:Value) (X:List ByteArray) (hr:SRow w B v X) (hX:VSet rs0 rs U X) :
  Calls Tryz.prog 44 #[.pointer (some ⟨b,0,none⟩),v,.int .i64 (c:Int)] w fun e w'=>∃ v' Y rs',e=.returned v'∧OnI rs0 U b w rs w' v' Y rs' (derL c (stB rs X)) :=
 (on_j h hc w rs hb hg B v X hr hX).mono fun e w1 h1=>by
  obtain ⟨v',Y,rs',h2,h3⟩:=h1
  exact ⟨v',Y,rs',h2,h3.toOnI⟩
theorem VSet.sz (hX:VSet rs0 rs U X) (h:TrC rs0 U):∀ s∈X,s.size≤200:=fun s hs=>by
 have:=h.uz _ (hX.inu s hs).2
 unfold nmS at this
 rwa [List.length_map,bytesN_len] at this
theorem GrowT.few (hg:GrowT rs0 rs) (h:TrC rs0 U):rs.length≤121:=by have:=hg.small;have:=h.phi;omega
theorem ends_c (h:TrC rs0 U) (w:World) (rs:List Rn) (hb:RtS w b rs) (hg:GrowT rs0 rs) (B:Nat) (v:Value) (X:List ByteArray) (hr:SRow w B v X) (hX:VSet rs0 rs U X) :
  Calls Tryz.prog 26 #[.pointer (some ⟨b,0,none⟩),v] w fun e w'=>(∃ y,e=.returned (.bool y)∧(y=true↔stB rs X []))∧Below w.heap.size w w' :=
 ends_any w b rs hb (by have:=hg.few h;omega) B v X hr (by have:=hX.len hg;have:=h.l13;omega) (fun s hs k hk=>(hX.num s hs k hk).nd hg) (fun s hs=>by have:=hX.sz h s hs;omega)
theorem OnI.trans {A':Lang} (h:OnI rs0 U b w rs wr v X rs1 A) (k:OnI rs0 U b wr rs1 w2 v' Y rs2 A'):OnI rs0 U b w rs w2 v' Y rs2 A':=⟨h.fy.trans k.fy,k.rt,k.gr,grow_trans h.ex k.ex,k.row,k.vs,k.eq⟩
theorem OnI.to {A':Lang} (h:OnI rs0 U b w rs wr v X rs1 A) (e:A=A'):OnI rs0 U b w rs wr v X rs1 A':=⟨h.fy,h.rt,h.gr,h.ex,h.row,h.vs,by rw [←e];exact h.eq⟩
theorem OnI.start (hb:RtS w b rs) (hg:GrowT rs0 rs) {B:Nat} (hr:SRow w B v X) (hX:VSet rs0 rs U X):OnI rs0 U b w rs w v X rs (stB rs X):=⟨Fy.refl _ _,hb,hg,⟨[],by simp⟩,hr.zero,hX,rfl⟩
end
structure TrK (rs0:List Rn) (b:Nat) (w:World) (rs:List Rn) (w':World) (rs':List Rn):Prop where
 fy:Fy b w w'
 rt:RtS w' b rs'
 gr:GrowT rs0 rs'
 ex:∃ x,rs'=rs++x
section
variable {rs0 : List Rn} {U : List (List Nm)} {b : Nat} {w wr w2 : World} {rs rs1 rs2 : List Rn} {v : Value} {X : List ByteArray} {A : Lang}
theorem TrK.refl (hb:RtS w b rs) (hg:GrowT rs0 rs):TrK rs0 b w rs w rs:=⟨Fy.refl _ _,hb,hg,⟨[],by simp⟩⟩
theorem TrK.trans (h:TrK rs0 b w rs wr rs1) (k:TrK rs0 b wr rs1 w2 rs2):TrK rs0 b w rs w2 rs2:=⟨h.fy.trans k.fy,k.rt,k.gr,grow_trans h.ex k.ex⟩
theorem TrK.below (h:TrK rs0 b w rs wr rs1) (k:Below wr.heap.size wr w2):TrK rs0 b w rs w2 rs1:=⟨h.fy.trans (Fy.ofBelow k (RtS_lt h.rt)),RtS_below h.rt k,h.gr,h.ex⟩
theorem OnI.trk (h:OnI rs0 U b w rs wr v X rs1 A):TrK rs0 b w rs wr rs1:=⟨h.fy,h.rt,h.gr,h.ex⟩
theorem TrK.set (k:TrK rs0 b w rs wr rs1) (hg:GrowT rs0 rs) (hX:VSet rs0 rs U X):VSet rs0 rs1 U X∧stB rs1 X=stB rs X:=by
 obtain ⟨x,hx⟩:=k.ex
 rw [hx]
 exact ⟨hX.grow x,stB_app hg hX x⟩
end
set_option maxRecDepth 20000 in
set_option maxHeartbeats 2000000 in
theorem lets_any {rs0:List Rn} {U:List (List Nm)} (hT:TrC rs0 U) {b:Nat} (w:World) (rs:List Rn) (hb:RtS w b rs) (hg:GrowT rs0 rs) (B:Nat) (v:Value) (X:List ByteArray) (hr:SRow w B v X) (hX:VSet rs0 rs U X) (s:ByteArray) (hs:s.size≤9223372036854775807) :
  Calls Tryz.prog 126 #[.pointer (some ⟨b,0,none⟩),v,.string s] w fun e w'=>∃ y rs',e=.returned (.bool y)∧(y=true↔derS (bytesN s) (stB rs X) [])∧TrK rs0 b w rs w' rs':=by
 obtain ⟨xa,xc,rfl⟩:=hr.form
 have hsI:(s.size:Int)≤9223372036854775807:=by omega
 have HT:=hide hT
 have H0:=hide (OnI.start hb hg hr hX)
 clear hT hb hg hr hX hs
 go_enter Tryz.func126,Tryz.ntmps126
 go_wp2_with fail
 go_loopw [1,7] (fun vx ix wr=>∃ (i:Nat) (va:Option Addr) (n vc:Nat) (Y:List ByteArray) (rs1:List Rn),vx=.slice va n vc∧ix=.int .i64 (i:Int)∧Hid (i≤s.size∧OnI rs0 U b w rs wr (.slice va n vc) Y rs1 (derS ((bytesN s).take i) (stB rs X)))) (fun _ ix _=>s.size - (intOf ix).toNat)
 case atStart=>exact ⟨0,xa,_,xc,X,rs,rfl,rfl,Nat.zero_le _,unhide H0⟩
 case round =>
  clear H0
  rename World=>wr
  obtain ⟨i,va,n,vc,Y,rs1,rfl,rfl,HH⟩:=hrel
  obtain ⟨hi,hI⟩:=unhide HH
  clear HH
  by_cases hlt:i < s.size
  ·have hltI:(i:Int) < (s.size:Int):=by omega
   have hi0:(0:Int)≤(i:Int):=by omega
   have hi1:((i:Int)).toNat=i:=by omega
   have hbI:(s[i].toNat:Int) < 256:=by have:=s[i].toNat_lt;omega
   have HON:=hide (on_c (b:=b) (unhide HT) (show s[i].toNat < 256 from s[i].toNat_lt) wr rs1 hI.rt hI.gr 0 _ Y hI.row hI.vs)
   have HDE:Hid (derL s[i].toNat (stB rs1 Y)=derS ((bytesN s).take (i+1)) (stB rs X)):=by show _=_;rw [hI.eq,bytesN_takeZ s hlt,derS_snoc]
   have HLT:=hide hlt
   have HI:=hide hI
   clear hi hI
   go_wp2_with fail
   refine (unhide HON).mono ?_
   rintro e w1 ⟨v1,Y1,rs2,rfl,h1⟩
   have HI1:=hide ((unhide HI).trans (h1.to (unhide HDE)))
   obtain ⟨va1,vc1,rfl⟩:=h1.row.form
   clear h1 HON HI
   go_wp2_with fail
   go_roundw
   case rel=>exact ⟨i+1,va1,_,vc1,Y1,rs2,rfl,by go_num,unhide HLT,unhide HI1⟩
   case measure=>have:=unhide HLT;simp [intOf];omega
  ·have hi2:i=s.size:=by omega
   subst hi2
   have HEN:=hide (ends_c (b:=b) (unhide HT) wr rs1 hI.rt hI.gr 0 _ Y hI.row hI.vs)
   have HI:=hide hI
   have HTA:Hid ((bytesN s).take s.size=bytesN s):=List.take_of_length_le (by rw [bytesN_len];exact Nat.le_refl _)
   clear hi hI hlt
   go_wp2_with fail
   refine (unhide HEN).mono ?_
   rintro e w1 ⟨⟨y,rfl,hy⟩,hb1⟩
   have HY:Hid (y=true↔derS (bytesN s) (stB rs X) []):=by show _↔_;rw [hy,(unhide HI).eq,unhide HTA]
   have HK:=hide ((unhide HI).trk.below hb1)
   clear hy hb1 HEN HI
   go_wp2_with fail
   go_ret
   exact ⟨y,rs1,rfl,unhide HY,unhide HK⟩
end Go.Proofs.YtobfpgoepaeknaaGreat
namespace Go.Proofs.YtobfpgoepaeknaaGreat
open Go.RowKit
attribute [local go_sem ↓] Go.wp_at_zero Go.wp_at_succ
theorem add_k (g o k:Nat):(⟨g,o,none⟩:Addr).add k=⟨g,o+k,none⟩:=by unfold Addr.add;split<;>simp_all
theorem rnA_0 (r:Rn):(rnA r).toList[0]?=some (.int .i64 r.kind):=by rw [Array.getElem?_toList];exact (rnA_fields r).1
theorem rnA_5 (r:Rn) {k:Nat} (h:k < 256):(rnA r).toList[5+k]?=some (.bool (r.f k)):=by rw [Array.getElem?_toList];exact get_rnA r k h
set_option maxRecDepth 20000 in
set_option maxHeartbeats 4000000 in
theorem alike_any (w:World) (b:Nat) (rs:List Rn) (hb:RtS w b rs) (hl:rs.length≤1000) (x y:Nat) (hx:x < 256) (hy:y < 256) :
  Calls Tryz.prog 43 #[.pointer (some ⟨b,0,none⟩),.int .i64 (x:Int),.int .i64 (y:Int)] w fun e w'=>(∃ z,e=.returned (.bool z)∧(z=true↔alkB rs x y))∧∃ n,w'=w.drewN n:=by
 have hlI:(rs.length:Int)≤1000:=by omega
 have hxI:(x:Int) < 256:=by omega
 have hyI:(y:Int) < 256:=by omega
 have hx0:(0:Int)≤(x:Int):=by omega
 have hy0:(0:Int)≤(y:Int):=by omega
 have hx1:((x:Int)).toNat=x:=by omega
 have hy1:((y:Int)).toNat=y:=by omega
 have HRT:=hide hb
 have HX:=hide hx
 have HY:=hide hy
 have hbl:=RtS_lt hb
 obtain ⟨vv,hv1,hv2⟩:=hb
 obtain ⟨va,vn,vc,rfl⟩:=own_slice hv2
 have hvn:vn=rs.length:=by
  rcases hv2.2 with ⟨e,h0⟩ | ⟨g,cap,cur,e,_⟩
  ·cases e;exact h0.symm
  ·simp only [Value.slice.injEq] at e;exact e.2.1
 subst hvn
 have c0:w.cell? ⟨b,0,none⟩=some (.slice va rs.length vc):=by rw [cell_of_row _ _ _ _ _ _ hv1];rfl
 clear hl hx hy hv1 hv2
 go_enter Tryz.func43,Tryz.ntmps43
 go_wp2_with fail
 go_loopw [7] (fun ix wr=>∃ i:Nat,ix=.int .i64 (i:Int)∧Hid (i≤rs.length∧(∃ n,wr=w.drewN n)∧∀ (k:Nat) r,k < i→rs[k]?=some r→r.kind=2→r.f x=r.f y)) (fun ix _=>rs.length - (intOf ix).toNat)
 case atStart=>exact ⟨0,rfl,Nat.zero_le _,⟨0,rfl⟩,fun k r hk=>by omega⟩
 case round =>
  rename World=>wr
  obtain ⟨i,rfl,HH⟩:=hrel
  obtain ⟨hi,⟨n,rfl⟩,hall⟩:=unhide HH
  clear HH
  by_cases hlt:i < rs.length
  ·have hiI:(i:Int) < (rs.length:Int):=by omega
   have hi0:(0:Int)≤(i:Int):=by omega
   have hi1:((i:Int)).toNat=i:=by omega
   obtain ⟨r,hr⟩:∃ r,rs[i]?=some r:=⟨_,List.getElem?_eq_getElem hlt⟩
   obtain ⟨g,cap,-,c0',hc⟩:=nd_begin (unhide HRT) hr
   rw [c0] at c0'
   simp only [Option.some.injEq,Value.slice.injEq,true_and] at c0'
   obtain ⟨rfl,rfl⟩:=c0'
   have k0:=hc 0 _ (rnA_0 r)
   have k1:=hc _ _ (rnA_5 r (unhide HX))
   have k2:=hc _ _ (rnA_5 r (unhide HY))
   rw [add_k] at k0 k1 k2
   rw [Nat.add_zero] at k0
   rw [←Nat.add_assoc] at k1 k2
   have hg:g < w.heap.size:=World.block_lt_of_cell? w ⟨g,i * 261,none⟩ k0
   have HLT:=hide hlt
   have HST:Hid ((r.kind=2→r.f x=r.f y)→∀ (k:Nat) r,k < i+1→rs[k]?=some r→r.kind=2→r.f x=r.f y):=fun h k r' hk hr'=>by
    by_cases e:k=i
    ·subst e;rw [hr] at hr';cases hr';exact h
    ·exact hall k r' (by omega) hr'
   have HNO:Hid (r.kind=2→r.f x≠r.f y→¬alkB rs x y):=fun h1 h2 h=>h2 (h r (List.mem_of_getElem? hr) h1)
   clear hi hall hlt hc hr
   by_cases hk:r.kind=2
   ·rw [hk] at k0
    by_cases he:r.f x=r.f y
    ·have HS:=hide (unhide HST (fun _=>he))
     rw [←he] at k2
     clear hk he HST HNO
     generalize r.f x=z at *
     go_wp2_with fail
     go_quiet (fail)
     go_wp2_with fail
     go_roundw
     case rel=>exact ⟨i+1,by go_num,unhide HLT,⟨n+nq,by first | rfl | simp⟩,unhide HS⟩
     case measure=>have:=unhide HLT;simp [intOf];omega
    ·have HF:=hide (unhide HNO hk he)
     obtain ⟨z,hz⟩:∃ z,r.f x=z:=⟨_,rfl⟩
     have hz2:r.f y=!z:=by rw [←hz];cases h1:r.f x<;>cases h2:r.f y<;>simp_all
     rw [hz] at k1
     rw [hz2] at k2
     clear hk he HST HNO hz hz2
     cases z
     all_goals
      go_wp2_with fail
      go_quiet (fail)
      go_wp2_with fail
      go_ret
      exact ⟨⟨false,rfl,by simp;exact unhide HF⟩,n+nq,by first | rfl | simp⟩
   ·have HS:=hide (unhide HST (fun h=>absurd h hk))
    clear HST HNO
    generalize r.kind=kk at *
    go_wp2_with fail
    go_quiet (fail)
    go_wp2_with fail
    go_roundw
    case rel=>exact ⟨i+1,by go_num,unhide HLT,⟨n+nq,by first | rfl | simp⟩,unhide HS⟩
    case measure=>have:=unhide HLT;simp [intOf];omega
  ·have hi2:i=rs.length:=by omega
   subst hi2
   have HA:Hid (alkB rs x y):=fun r hr hk=>by
    obtain ⟨k,hk'⟩:=List.getElem?_of_mem hr
    exact hall k r (List.getElem?_eq_some_iff.1 hk').1 hk' hk
   clear hi hall hlt
   go_wp2_with fail
   go_ret
   exact ⟨⟨true,rfl,by simp;exact unhide HA⟩,n,rfl⟩
end Go.Proofs.YtobfpgoepaeknaaGreat
