/-
  The document's answer: what is left of a part behind a byte: of every part, those that were put too.
  The document's answer: left at nodes that were put.
  The document's answer: left at a node that was put: some times.
  The document's answer: left at every node.
-/
import Derived.Test.YtobfpgoepaeknaaGreatTA13
import Derived.Test.YtobfpgoepaeknaaGreatTA11
import Derived.Deep.DeepCutAuto
namespace Go.Proofs.YtobfpgoepaeknaaGreat
open Go.RowKit
theorem left_any {rs0:List Rn} (hphi:phiR rs0≤121) (hwf:WfT rs0) {b c:Nat} (hc:c < 256):∀ R:Re,DoesLf rs0 b c R :=
 Re.ind (left_blank hphi hwf hc) (left_set hphi hwf hc) (fun _ _ ha hd=>left_seq hphi hwf hc ha hd) (fun _ _ ha hd=>left_alt hphi hwf hc ha hd)
  (fun _ ha=>left_star hphi hwf hc ha) (fun _ ha=>left_plus hphi hwf hc ha) (fun _ ha=>left_opt hphi hwf hc ha) (fun _ _ _ ha=>left_times hphi hwf hc ha)
end Go.Proofs.YtobfpgoepaeknaaGreat
namespace Go.Proofs.YtobfpgoepaeknaaGreat
open Go.RowKit
set_option maxRecDepth 20000 in
set_option maxHeartbeats 8000000 in
theorem left_starN {rs0:List Rn} (hphi:phiR rs0≤121) (hwf:WfT rs0) {b c:Nat} (hc:c < 256) {a:Re} (iha:DoesLf rs0 b c a) {kn:Nat} {rs:List Rn} {r:Rn} (h1:rs[kn]?=some r) (hk:r.kind=5) (ha:Dr rs0 a r.l) (hwa:a.wt≤12)
  (w:World) (hb:RtS w b rs) (hg:GrowT rs0 rs) (hnum:NumOk rs0 rs kn) :
  Calls Tryz.prog 79 #[.pointer (some ⟨b,0,none⟩),.int .i64 (kn:Int),.int .i64 (c:Int)] w fun e w'=>∃ v X rs',e=.returned v∧LfOk rs0 b w w' rs ((uni rs0 a r.l.toNat).map (·++[nmOf rs0 rs kn])) (catL (derL c a.L) (LN rs kn)) v X rs':=by
  have HPHI:=hide hphi
  have HWF:=hide hwf
  have HWA:=hide hwa
  have h1':=h1
  have hbl:=RtS_lt hb
  have hsm:=hg.small
  have hl':(rs.length:Int)≤121:=by have:=unhide HPHI;omega
  have hcI:(c:Int) < 256:=by omega
  obtain ⟨g,cap,hkl',c0,hcc⟩:=nd_begin hb h1'
  have HL:=hide hcc
  have HN1:=hide (heap_alloc_new w (Obj.cells Tryz.zeroCells151 151))
  have hbt:Below w.heap.size w ((w.alloc (Obj.cells Tryz.zeroCells151 151)).setRow w.heap.size (rnA r)):=below_setRow ((Below.refl _ _).alloc (Nat.le_refl _) _) (Nat.le_refl _) _
  have HNL:=hide (Nl.start hb r)
  have HF0:=hide (Fy.ofBelow hbt hbl)
  have HRT2:=hide (RtS_below hb hbt)
  have HG:=hide hg
  obtain ⟨x0,x1,x2,x3,x4⟩:=nd_cells w r
  rw [hk] at x0
  have HKR:Hid (kn < rs.length):=(List.getElem?_eq_some_iff.1 h1).1
  have HNUM:=hide hnum
  have HC256:=hide hc
  clear hbt hb h1 h1' hcc hg hsm hbl hc hphi hwf hnum
  obtain ⟨ln,hln⟩:∃ ln:Nat,r.l=(ln:Int):=⟨r.l.toNat,(toNat_cast ha.nonneg).symm⟩
  have hkl:r.l.toNat=ln:=by rw [hln,Int.toNat_natCast]
  rw [hln] at ha x1
  have HLN:=hide hln
  have HKL:=hide hkl
  have HDA:=hide ha
  have IHA:=hide iha
  clear ha iha hln hkl hwa
  have HK256:Hid (kn < 256):=by
   have q3:=(unhide HKR)
   have q4:=(unhide HG).small
   have q5:=unhide HPHI
   show _ < _
   omega
  go_enter Tryz.func79,Tryz.ntmps79
  go_upto_region 2 with (first
   | refine wpList_load_mid rfl 151 _ rfl ⟨g,kn * 261,none⟩ rfl (rnA r) (unhide HL) _ Tryz.underlying151 rfl (by rw [size_rnA];exact info78) ?_
   | refine wpList_store_row0 rfl 151 _ _ rfl rfl w.heap.size _ rfl rfl 151 _ (unhide HN1) (by rw [size_rnA];exact info78) (by rw [zero78,size_rnA,size_rnA]) (rnA_one _) ?_)
  clear HL HN1 c0
  go_wp2_with fail
  refine (unhide IHA ln _ rs (unhide HWA) (unhide HDA) (unhide HRT2) (unhide HG)).mono ?_
  rintro e w1 ⟨v1,X1,rs1,rfl,k1⟩
  have HK1:=hide k1
  have HN2:=hide ((unhide HNL).next k1.fy)
  have HF1:=hide ((unhide HF0).trans k1.fy)
  obtain ⟨va1,vc1,rfl⟩:=k1.row.form
  obtain ⟨z0,z1,z2,z3,z4⟩:=(unhide HN2).cells
  rw [hk] at z0
  rw [unhide HLN] at z1
  have hX1:X1.length≤12:=by
   have q1:=k1.vs.len k1.gr
   have q2:=uni_len rs0 a ln
   have:=unhide HWA
   omega
  have HX1:=hide hX1
  have HSZ1:Hid (∀ s∈X1,s.size≤100000):=fun s hs=>by
   have q1:=k1.vs.size s hs
   have q2:=rdep_le (unhide HWF) (unhide HDA)
   have q3:=Dr.lt0 (unhide HDA)
   have q4:=phi_len rs0
   have q5:=unhide HPHI
   omega
  clear x0 x1 x2 x3 x4 k1 hX1
  have HBE:=hide (before_any w1 0 _ X1 kn (unhide HK1).row (by have:=unhide HX1;omega) (unhide HK256) (unhide HSZ1))
  go_wp2_with fail
  refine (unhide HBE).mono ?_
  rintro e w2 ⟨v2,rfl,hv2,hw2⟩
  have HV2:=hide hv2
  have HW2:=hide hw2
  obtain ⟨va2,vc2,rfl⟩:=hv2.form
  clear hv2 hw2
  go_wp2_with fail
  go_ret
  obtain ⟨y,hy⟩:=(unhide HK1).ex
  have hnm:nmOf rs0 rs1 kn=nmOf rs0 rs kn:=by rw [hy];exact nmOf_app (unhide HKR) y
  have hl1:kn < rs1.length:=by rw [hy];simp;have:=unhide HKR;omega
  refine ⟨_,befS X1 kn,rs1,rfl,(unhide HF1).trans (Fy.ofBelow (unhide HW2) (RtS_lt (unhide HK1).rt)),RtS_below (unhide HK1).rt (unhide HW2),(unhide HK1).gr,(unhide HK1).ex,unhide HV2,?_,?_⟩
  ·rw [unhide HKL]
   refine (unhide HK1).vs.bef (by rw [hy];exact (unhide HNUM).grow y) hl1 (unhide HK256) (fun u hu=>?_)
   rw [hnm];exact List.mem_map.2 ⟨u,hu,rfl⟩
  ·rw [stB_bef _ _ (unhide HK256),(unhide HK1).eq]
   rw [hy,LN_app ((unhide HNUM).nd (unhide HG)) y]
end Go.Proofs.YtobfpgoepaeknaaGreat
namespace Go.Proofs.YtobfpgoepaeknaaGreat
open Go.RowKit
set_option maxRecDepth 20000 in
set_option maxHeartbeats 8000000 in
theorem left_timesN {rs0:List Rn} (hphi:phiR rs0≤121) (hwf:WfT rs0) {b c:Nat} (hc:c < 256) {m n:Nat} {a:Re} (iha:DoesLf rs0 b c a) {kn:Nat} {rs:List Rn} {r:Rn} (h1:rs[kn]?=some r) (hk:r.kind=8) (hm:r.m=(m:Int)) (hn:r.n=(n:Int)) (hm9:m≤9) (hn9:n≤9) (ha:Dr rs0 a r.l) (hwt:(Re.times m n a).wt≤12) (hct:Nm.x 8 r.l (m:Int) (n:Int)∈ctsT rs0)
  (w:World) (hb:RtS w b rs) (hg:GrowT rs0 rs) (hnum:NumOk rs0 rs kn) :
  Calls Tryz.prog 79 #[.pointer (some ⟨b,0,none⟩),.int .i64 (kn:Int),.int .i64 (c:Int)] w fun e w'=>∃ v X rs',e=.returned v∧LfOk rs0 b w w' rs (if 1≤n∧m≤n then (uni rs0 a r.l.toNat).map (·++[resN rs0 (.x 8 ((r.l.toNat:Nat):Int) ((m - 1:Nat):Int) ((n - 1:Nat):Int))]) else []) (derL c (timesL m n a.L)) v X rs':=by
  generalize hUU:(if 1≤n∧m≤n then (uni rs0 a r.l.toNat).map (·++[resN rs0 (.x 8 ((r.l.toNat:Nat):Int) ((m - 1:Nat):Int) ((n - 1:Nat):Int))]) else [])=U
  have HUU:=hide hUU
  clear hUU
  have HPHI:=hide hphi
  have HWF:=hide hwf
  have HWT:=hide hwt
  have HCT:Hid (1≤n→Nm.x 8 ((r.l.toNat:Nat):Int) ((m - 1:Nat):Int) ((n - 1:Nat):Int)∈ctsT rs0):=fun hn1=>cts_next (by rw [toNat_cast ha.nonneg];exact hct) hn1
  clear hct
  have h1':=h1
  have hbl:=RtS_lt hb
  have hsm:=hg.small
  have hl':(rs.length:Int)≤121:=by have:=unhide HPHI;omega
  have hcI:(c:Int) < 256:=by omega
  obtain ⟨g,cap,hkl',c0,hcc⟩:=nd_begin hb h1'
  have HL:=hide hcc
  have HN1:=hide (heap_alloc_new w (Obj.cells Tryz.zeroCells151 151))
  have hbt:Below w.heap.size w ((w.alloc (Obj.cells Tryz.zeroCells151 151)).setRow w.heap.size (rnA r)):=below_setRow ((Below.refl _ _).alloc (Nat.le_refl _) _) (Nat.le_refl _) _
  have HNL:=hide (Nl.start hb r)
  have HF0:=hide (Fy.ofBelow hbt hbl)
  have HRT2:=hide (RtS_below hb hbt)
  have HG:=hide hg
  obtain ⟨x0,x1,x2,x3,x4⟩:=nd_cells w r
  rw [hk] at x0
  have HKR:Hid (kn < rs.length):=(List.getElem?_eq_some_iff.1 h1).1
  have HNUM:=hide hnum
  have HC256:=hide hc
  clear hbt hb h1 h1' hcc hg hsm hbl hc hphi hwf hnum
  obtain ⟨ln,hln⟩:∃ ln:Nat,r.l=(ln:Int):=⟨r.l.toNat,(toNat_cast ha.nonneg).symm⟩
  have hkl:r.l.toNat=ln:=by rw [hln,Int.toNat_natCast]
  rw [hln] at ha x1
  have HLN:=hide hln
  have HKL:=hide hkl
  have HDA:=hide ha
  have IHA:=hide iha
  rw [hln,Int.toNat_natCast] at HCT
  rw [hm] at x3
  rw [hn] at x4
  have hm9I:(m:Int)≤9:=by omega
  have hn9I:(n:Int)≤9:=by omega
  have HMN:=hide (And.intro hm9 hn9)
  have HMM:=hide (And.intro hm hn)
  by_cases hbad:n < 1∨n < m
  ·have HS:Hid (derL c (timesL m n a.L)=voidL):=der_times0 c a.L hbad
   clear ha iha hln hkl hm9 hn9 hwt
   by_cases hb1:n < 1
   ·have hb1I:(n:Int) < 1:=by omega
    clear hb1 hbad
    go_enter Tryz.func79,Tryz.ntmps79
    go_upto_region 2 with (first
     | refine wpList_load_mid rfl 151 _ rfl ⟨g,kn * 261,none⟩ rfl (rnA r) (unhide HL) _ Tryz.underlying151 rfl (by rw [size_rnA];exact info78) ?_
     | refine wpList_store_row0 rfl 151 _ _ rfl rfl w.heap.size _ rfl rfl 151 _ (unhide HN1) (by rw [size_rnA];exact info78) (by rw [zero78,size_rnA,size_rnA]) (rnA_one _) ?_)
    clear HL HN1 c0
    go_wp2_with fail
    go_ret
    first | exact ⟨_,[],rs,rfl,unhide HF0,unhide HRT2,unhide HG,⟨[],by simp⟩,World.ownsRow_nil _ _ _ _,VSet.nil _ _ _,by rw [stB_nil];exact (unhide HS).symm⟩ | exact ⟨_,rfl,[],rs,unhide HF0,unhide HRT2,unhide HG,⟨[],by simp⟩,World.ownsRow_nil _ _ _ _,VSet.nil _ _ _,by rw [stB_nil];exact (unhide HS).symm⟩
   ·have hb1I:(1:Int)≤(n:Int):=by omega
    have hb2I:(n:Int) < (m:Int):=by omega
    clear hb1 hbad
    go_enter Tryz.func79,Tryz.ntmps79
    go_upto_region 2 with (first
     | refine wpList_load_mid rfl 151 _ rfl ⟨g,kn * 261,none⟩ rfl (rnA r) (unhide HL) _ Tryz.underlying151 rfl (by rw [size_rnA];exact info78) ?_
     | refine wpList_store_row0 rfl 151 _ _ rfl rfl w.heap.size _ rfl rfl 151 _ (unhide HN1) (by rw [size_rnA];exact info78) (by rw [zero78,size_rnA,size_rnA]) (rnA_one _) ?_)
    clear HL HN1 c0
    go_wp2_with fail
    go_ret
    first | exact ⟨_,[],rs,rfl,unhide HF0,unhide HRT2,unhide HG,⟨[],by simp⟩,World.ownsRow_nil _ _ _ _,VSet.nil _ _ _,by rw [stB_nil];exact (unhide HS).symm⟩ | exact ⟨_,rfl,[],rs,unhide HF0,unhide HRT2,unhide HG,⟨[],by simp⟩,World.ownsRow_nil _ _ _ _,VSet.nil _ _ _,by rw [stB_nil];exact (unhide HS).symm⟩
  ·have hn1:1≤n:=by omega
   have hmn:m≤n:=by omega
   have HGOOD:=hide (And.intro hn1 hmn)
   have hn1I:(1:Int)≤(n:Int):=by omega
   have hmnI:(m:Int)≤(n:Int):=by omega
   have HWA:Hid (a.wt≤12):=by
    have q1:=Re.wt_pos a
    have q2:a.wt * (n:Int)≤(Re.times m n a).wt:=by
     rw [Re.wt_times]
     unfold max1
     split<;>omega
    have q4:=unhide HWT
    have q3:a.wt * 1≤a.wt * (n:Int):=Int.mul_le_mul_of_nonneg_left hn1I (by omega)
    show _≤_
    omega
   clear ha iha hln hkl hm9 hn9 hbad hn1 hmn hwt
   go_enter Tryz.func79,Tryz.ntmps79
   go_upto_region 2 with (first
    | refine wpList_load_mid rfl 151 _ rfl ⟨g,kn * 261,none⟩ rfl (rnA r) (unhide HL) _ Tryz.underlying151 rfl (by rw [size_rnA];exact info78) ?_
    | refine wpList_store_row0 rfl 151 _ _ rfl rfl w.heap.size _ rfl rfl 151 _ (unhide HN1) (by rw [size_rnA];exact info78) (by rw [zero78,size_rnA,size_rnA]) (rnA_one _) ?_)
   clear HL HN1 c0
   go_wp2_with fail
   refine (unhide IHA ln _ rs (unhide HWA) (unhide HDA) (unhide HRT2) (unhide HG)).mono ?_
   rintro e w1 ⟨v1,X1,rs1,rfl,k1⟩
   have HK1:=hide k1
   have HN2:=hide ((unhide HNL).next k1.fy)
   have HF1:=hide ((unhide HF0).trans k1.fy)
   obtain ⟨va1,vc1,rfl⟩:=k1.row.form
   obtain ⟨z0,z1,z2,z3,z4⟩:=(unhide HN2).cells
   rw [hk] at z0
   rw [unhide HLN] at z1
   have hX1:X1.length≤12:=by
    have q1:=k1.vs.len k1.gr
    have q2:=uni_len rs0 a ln
    have:=unhide HWA
    omega
   have HX1:=hide hX1
   have HSZ1:Hid (∀ s∈X1,s.size≤100000):=fun s hs=>by
    have q1:=k1.vs.size s hs
    have q2:=rdep_le (unhide HWF) (unhide HDA)
    have q3:=Dr.lt0 (unhide HDA)
    have q4:=phi_len rs0
    have q5:=unhide HPHI
    omega
   clear x0 x1 x2 x3 x4 k1 hX1
   rw [(unhide HMM).1] at z3
   rw [(unhide HMM).2] at z4
   obtain ⟨m1,hm1⟩:∃ m1:Nat,m1=m - 1:=⟨_,rfl⟩
   obtain ⟨n1,hn1⟩:∃ n1:Nat,n1=n - 1:=⟨_,rfl⟩
   have HM1:=hide hm1
   have HN11:=hide hn1
   have hn1E:(n:Int) - 1=(n1:Int):=by omega
   have HZ:Hid (((((Tryz.zeroCells151.setIfInBounds 0 (.int .i64 8)).setIfInBounds 1 (.int .i64 (ln:Int))).setIfInBounds 3 (.int .i64 (m1:Int))).setIfInBounds 4 (.int .i64 (n1:Int)))=rnA ⟨8,(ln:Int),0,(m1:Int),(n1:Int),noSet⟩):=by show _=_;rw [zero78,rnA_kind,rnA_l,rnA_m,rnA_n]
   have HFI:=hide (find_any w1 b rs1 ⟨8,(ln:Int),0,(m1:Int),(n1:Int),noSet⟩ (unhide HK1).rt (by have:=(unhide HK1).gr.small;have:=unhide HPHI;omega))
   have HCT2:Hid (Nm.x 8 (ln:Int) (m1:Int) (n1:Int)∈ctsT rs0):=by rw [hm1,hn1];exact unhide HCT (unhide HGOOD).1
   have HM9:Hid (m1≤9∧n1≤9):=by have:=unhide HMN;show _∧_;omega
   have HW1:Hid ((Re.times m1 n1 a).wt≤12):=by
    have q1:=Re.wt_pos a
    have q2:a.wt * (n:Int)≤(Re.times m n a).wt:=by
     rw [Re.wt_times]
     unfold max1
     split<;>omega
    have q3:a.wt * (n1:Int)≤a.wt * (n:Int):=Int.mul_le_mul_of_nonneg_left (by omega) (by omega)
    have q4:=unhide HWT
    show (Re.times m1 n1 a).wt≤12
    rw [Re.wt_times]
    unfold max1
    split<;>omega
   have HMS:Hid (((m:Int) - 1 < 0∧m1=0)∨(¬(m:Int) - 1 < 0∧(m:Int) - 1=(m1:Int))):=by show _∨_;omega
   clear hm1 hn1 hmnI
   go_upto_if 100 with fail
   go_cut [13] (fun mx wx=>mx=.int .i64 (m1:Int)∧wx=w1)
   case first =>
    clear HFI HK1 HN2 HF1 HZ
    rcases unhide HMS with ⟨hq,rfl⟩ | ⟨hq,he⟩
    ·go_wp2_with fail
     go_meet
     exact ⟨rfl,rfl⟩
    ·go_wp2_with fail
     go_meet
     exact ⟨by rw [he],rfl⟩
   case rest =>
    rename World=>wc
    obtain ⟨rfl,rfl⟩:=hcut
    clear HMS z3
    go_wp2_with fail
    rw [unhide HZ]
    refine (unhide HFI).mono ?_
    rintro e w2 ⟨i,rs2,rfl,hf2,hr2,hfs⟩
    obtain ⟨g1,g2,g3,g4,g5,g6⟩:=found_times (unhide HK1).gr (unhide HDA) (unhide HWA) (unhide HW1) (unhide HM9).1 (unhide HM9).2 (unhide HCT2) hfs
    have HG1:=hide g1
    have HG2:=hide g2
    have HG3:=hide g3
    have HG4:=hide g4
    have HG5:=hide g5
    have HG6:=hide g6
    have HF2:=hide ((unhide HF1).trans hf2)
    have HR2:=hide hr2
    have HI256:Hid (i < 256):=by have:=g1.small;have:=unhide HPHI;show _ < _;omega
    have HS2:=hide ((unhide HK1).row.fy hf2 (unhide HK1).rt)
    have HBE:=hide (before_any w2 0 _ X1 i (unhide HS2) (by have:=unhide HX1;omega) (unhide HI256) (unhide HSZ1))
    have HX2:Hid (VSet rs0 rs2 (uni rs0 a ln) X1∧stB rs2 X1=derL c a.L):=by
     obtain ⟨x2,hx2⟩:=g2
     rw [hx2]
     exact ⟨(unhide HK1).vs.grow x2,by rw [stB_app (unhide HK1).gr (unhide HK1).vs x2];exact (unhide HK1).eq⟩
    clear g1 g2 g3 g4 g5 g6 hf2 hr2 hfs
    go_wp2_with fail
    refine (unhide HBE).mono ?_
    rintro e w3 ⟨v3,rfl,hv3,hw3⟩
    have HV3:=hide hv3
    have HW3:=hide hw3
    obtain ⟨va3,vc3,rfl⟩:=hv3.form
    clear hv3 hw3
    go_wp2_with fail
    go_ret
    refine ⟨_,befS X1 i,rs2,rfl,(unhide HF2).trans (Fy.ofBelow (unhide HW3) (RtS_lt (unhide HR2))),RtS_below (unhide HR2) (unhide HW3),unhide HG1,grow_trans (unhide HK1).ex (unhide HG2),unhide HV3,?_,?_⟩
    ·rw [←unhide HUU,if_pos (unhide HGOOD),unhide HKL]
     refine (unhide HX2).1.bef (unhide HG5) (unhide HG3) (unhide HI256) (fun u hu=>?_)
     rw [unhide HG4,unhide HM1,unhide HN11]
     exact List.mem_map.2 ⟨u,hu,rfl⟩
    ·rw [stB_bef _ _ (unhide HI256),LN_eq (unhide HG6),(unhide HX2).2,unhide HM1,unhide HN11]
     exact (der_times c a.L (unhide HGOOD).1 (unhide HGOOD).2).symm
end Go.Proofs.YtobfpgoepaeknaaGreat
namespace Go.Proofs.YtobfpgoepaeknaaGreat
open Go.RowKit
theorem left_num {rs0:List Rn} (hphi:phiR rs0≤121) (hwf:WfT rs0) {b c:Nat} (hc:c < 256) {kn:Nat} {rs:List Rn} (w:World) (hb:RtS w b rs) (hg:GrowT rs0 rs) (hnum:NumOk rs0 rs kn) :
  Calls Tryz.prog 79 #[.pointer (some ⟨b,0,none⟩),.int .i64 (kn:Int),.int .i64 (c:Int)] w fun e w'=>∃ v X rs',e=.returned v∧LnOk rs0 b c w w' rs kn v X rs':=by
 have hlen:=phi_len rs0
 have dep:∀ {R:Re} {k:Nat},Dr rs0 R (k:Int)→rdep R≤121:=fun {R k} h=>by
  have q1:=rdep_le hwf h
  have q2:=Dr.lt0 h
  omega
 rcases hnum with ⟨h0,R,hR,hw⟩ | ⟨h0,r,h1,a,ha,hw,⟨k5,km,kn0⟩ | ⟨k8,m,n,hm,hn,hm9,hn9,hw2⟩⟩
 ·refine (left_any hphi hwf hc R kn w rs hw hR hb hg).mono ?_
  rintro e w' ⟨v,X,rs',rfl,h⟩
  have hnm:nmOf rs0 rs kn=.o kn:=by unfold nmOf;rw [if_pos h0]
  obtain ⟨x,hx⟩:=hg.gr.pre
  refine ⟨v,X,rs',rfl,h.ln (fun u hu=>by rw [hnm];exact .orig hR hu) (by have:=uni_len rs0 R kn;omega) (fun u hu=>by have:=uni_dep rs0 R kn u hu;have:=dep hR;omega) ?_⟩
  rw [LN_eq (show Dr rs R (kn:Int) by rw [hx];exact hR.app x)]
 ·have hkid:=ha.kid
  refine (left_starN hphi hwf hc (left_any hphi hwf hc a) h1 k5 ha hw w hb hg (.inr ⟨h0,r,h1,a,ha,hw,.inl ⟨k5,km,kn0⟩⟩)).mono ?_
  rintro e w' ⟨v,X,rs',rfl,h⟩
  have hnm:nmOf rs0 rs kn=.x 5 ((r.l.toNat:Nat):Int) 0 0:=by unfold nmOf;rw [if_neg (by omega),h1,toNat_cast ha.nonneg];simp only [ctOf,k5,km,kn0]
  obtain ⟨x,hx⟩:=hg.gr.pre
  refine ⟨v,X,rs',rfl,h.ln (fun u hu=>?_) (by rw [List.length_map];have:=uni_len rs0 a r.l.toNat;omega) (fun u hu=>?_) ?_⟩
  ·obtain ⟨σ,q1,rfl⟩:=List.mem_map.1 hu
   rw [hnm];exact .star hkid q1
  ·obtain ⟨σ,q1,rfl⟩:=List.mem_map.1 hu
   have:=uni_dep rs0 a _ σ q1
   have:=dep hkid
   simp;omega
  ·have hd:Dr rs (.star a) (kn:Int):=⟨r,by omega,by rw [Int.toNat_natCast];exact h1,k5,by rw [hx];exact ha.app x⟩
   rw [LN_eq hd];exact (der_star c a.L).symm
 ·have hkid:=ha.kid
  have hmay:=hg.may kn r h0 h1
  have hct:Nm.x 8 r.l (m:Int) (n:Int)∈ctsT rs0:=by simpa only [ctOf,k8,hm,hn] using hmay
  refine (left_timesN hphi hwf hc (left_any hphi hwf hc a) h1 k8 hm hn hm9 hn9 ha hw2 hct w hb hg (.inr ⟨h0,r,h1,a,ha,hw,.inr ⟨k8,m,n,hm,hn,hm9,hn9,hw2⟩⟩)).mono ?_
  rintro e w' ⟨v,X,rs',rfl,h⟩
  have hnm:nmOf rs0 rs kn=.x 8 ((r.l.toNat:Nat):Int) (m:Int) (n:Int):=by unfold nmOf;rw [if_neg (by omega),h1,toNat_cast ha.nonneg];simp only [ctOf,k8,hm,hn]
  obtain ⟨x,hx⟩:=hg.gr.pre
  refine ⟨v,X,rs',rfl,h.ln (fun u hu=>?_) ?_ (fun u hu=>?_) ?_⟩
  ·split at hu
   ·next hgd =>
    obtain ⟨σ,q1,rfl⟩:=List.mem_map.1 hu
    rw [hnm];exact .times hkid q1 hgd.1 hgd.2
   ·cases hu
  ·split
   ·rw [List.length_map];have:=uni_len rs0 a r.l.toNat;omega
   ·simp
  ·split at hu
   ·obtain ⟨σ,q1,rfl⟩:=List.mem_map.1 hu
    have:=uni_dep rs0 a _ σ q1
    have:=dep hkid
    simp;omega
   ·cases hu
  ·have hd:Dr rs (.times m n a) (kn:Int):=⟨r,by omega,by rw [Int.toNat_natCast];exact h1,k8,hm,hn,hm9,hn9,by rw [hx];exact ha.app x⟩
   rw [LN_eq hd];rfl
end Go.Proofs.YtobfpgoepaeknaaGreat
