/-
  The document's answer: left: one behind the other.
  The document's answer: left: some times.
  The document's answer: what is left of a part behind a byte: of every part, those that were put too.
  The document's answer: left at nodes that were put.
-/
import Derived.Test.YtobfpgoepaeknaaGreatPO29
import Derived.Deep.DeepCutAuto
import Derived.Test.YtobfpgoepaeknaaGreatPO30
namespace Go.Proofs.YtobfpgoepaeknaaGreat
open Go.RowKit
set_option maxRecDepth 20000 in
set_option maxHeartbeats 2000000 in
theorem left_seq {rs0:List Rn} (hphi:phiR rs0≤121) (hwf:WfT rs0) {b c:Nat} (hc:c < 256) {a d:Re} (iha:DoesLf rs0 b c a) (ihb:DoesLf rs0 b c d):DoesLf rs0 b c (.seq a d):=by
  have HPHI:=hide hphi
  have HWF:=hide hwf
  intro kn w rs hwt hd hb hg
  obtain ⟨r,h0,h1,hk,ha,hb2⟩:=hd.seqE
  clear hd
  have HWA:Hid (a.wt≤12):=by have:=Re.wt_pos d;rw [Re.wt_seq] at hwt;show _≤_;omega
  have HWB:Hid (d.wt≤12):=by have:=Re.wt_pos a;rw [Re.wt_seq] at hwt;show _≤_;omega
  have hmem:∃ e,rs=rs0++e:=hg.gr.pre
  obtain ⟨e0,he0⟩:=hmem
  rw [Int.toNat_natCast] at h1
  have h1':rs[kn]?=some r:=by rw [he0];exact getElem?_app h1 e0
  have hbl:=RtS_lt hb
  have hsm:=hg.small
  have hl':(rs.length:Int)≤121:=by have:=unhide HPHI;omega
  have hcI:(c:Int) < 256:=by omega
  obtain ⟨g,cap,hkl',c0,hcc⟩:=nd_begin hb h1'
  have HL:=hide hcc
  have HN1:=hide (heap_alloc_new w (Obj.cells Tryz.zeroCells151 151))
  have hbt:Below w.heap.size w ((w.alloc (Obj.cells Tryz.zeroCells151 151)).setRow w.heap.size (rnA r)):=below_setRow ((Below.refl _ _).alloc (Nat.le_refl _) _) (Nat.le_refl _) _
  have HNL:=hide (Nl.start hb r)
  have HF0:=hide (Fy.ofBelow hbt hbl)
  have HRT2:=hide (RtS_below hb hbt)
  have HG:=hide hg
  obtain ⟨x0,x1,x2,x3,x4⟩:=nd_cells w r
  rw [hk] at x0
  have HKR:Hid (kn < rs0.length∧rs0[kn]?=some r):=⟨(List.getElem?_eq_some_iff.1 h1).1,h1⟩
  have HE0:=hide he0
  have HC256:=hide hc
  clear hbt hb h1 h1' h0 hcc hg hsm he0 hbl hc hphi hwf hwt
  obtain ⟨ln,hln⟩:∃ ln:Nat,r.l=(ln:Int):=⟨r.l.toNat,(toNat_cast ha.nonneg).symm⟩
  have hkl:kidL rs0 kn=ln:=by rw [kidL_of (unhide HKR).2,hln,Int.toNat_natCast]
  rw [hln] at ha x1
  have HLN:=hide hln
  have HKL:=hide hkl
  have HDA:=hide ha
  have IHA:=hide iha
  obtain ⟨qn,hqn⟩:∃ qn:Nat,r.r=(qn:Int):=⟨r.r.toNat,(toNat_cast hb2.nonneg).symm⟩
  have hkr:kidR rs0 kn=qn:=by rw [kidR_of (unhide HKR).2,hqn,Int.toNat_natCast]
  rw [hqn] at hb2 x2
  have HQN:=hide hqn
  have HKRR:=hide hkr
  have HDB:=hide hb2
  have IHB:=hide ihb
  have HQ256:Hid (qn < 256):=by
   have q3:=Dr.lt0 (unhide HDB)
   have q4:=phi_len rs0
   have q5:=unhide HPHI
   show _ < _
   omega
  clear ha iha hln hkl hb2 ihb hqn hkr
  go_enter Tryz.func79,Tryz.ntmps79
  go_upto_region 2 with (first
   | refine wpList_load_mid rfl 151 _ rfl ⟨g,kn * 261,none⟩ rfl (rnA r) (unhide HL) _ Tryz.underlying151 rfl (by rw [size_rnA];exact info78) ?_
   | refine wpList_store_row0 rfl 151 _ _ rfl rfl w.heap.size _ rfl rfl 151 _ (unhide HN1) (by rw [size_rnA];exact info78) (by rw [zero78,size_rnA,size_rnA]) (rnA_one _) ?_)
  clear HL HN1 c0
  go_wp2_with fail
  refine (unhide IHA ln _ rs (unhide HWA) (unhide HDA) (unhide HRT2) (unhide HG)).mono ?_
  rintro e w1 ⟨v1,X1,rs1,rfl,k1⟩
  have HK1:=hide k1
  have HN2:=hide ((unhide HNL).next k1.fy)
  have HF1:=hide ((unhide HF0).trans k1.fy)
  obtain ⟨va1,vc1,rfl⟩:=k1.row.form
  obtain ⟨z0,z1,z2,z3,z4⟩:=(unhide HN2).cells
  rw [hk] at z0
  rw [unhide HLN] at z1
  have hX1:X1.length≤12:=by
   have q1:=k1.vs.len k1.gr
   have q2:=uni_len rs0 a ln
   have:=unhide HWA
   omega
  have HX1:=hide hX1
  have HSZ1:Hid (∀ s∈X1,s.size≤100000):=fun s hs=>by
   have q1:=k1.vs.size s hs
   have q2:=rdep_le (unhide HWF) (unhide HDA)
   have q3:=Dr.lt0 (unhide HDA)
   have q4:=phi_len rs0
   have q5:=unhide HPHI
   omega
  clear x0 x1 x2 x3 x4 k1 hX1
  rw [unhide HQN] at z2
  have HBE:=hide (before_any w1 0 _ X1 qn (unhide HK1).row (by have:=unhide HX1;omega) (unhide HQ256) (unhide HSZ1))
  go_wp2_with fail
  refine (unhide HBE).mono ?_
  rintro e w2 ⟨v2,rfl,hv2,hw2⟩
  have HV2:=hide hv2
  have hf2:=Fy.ofBelow hw2 (RtS_lt (unhide HK1).rt)
  have HF2:=hide ((unhide HF1).trans hf2)
  have HR2:=hide (RtS_below (unhide HK1).rt hw2)
  have HN3:=hide ((unhide HN2).next hf2)
  obtain ⟨va2,vc2,rfl⟩:=hv2.form
  obtain ⟨y0,y1,y2,y3,y4⟩:=(unhide HN3).cells
  rw [hk] at y0
  rw [unhide HLN] at y1
  rw [unhide HQN] at y2
  have HDA1:Hid (Dr rs1 a (ln:Int)):=by
   obtain ⟨x1',hx1'⟩:=(unhide HK1).gr.gr.pre
   rw [hx1'];exact (unhide HDA).app x1'
  have HEM:=hide (empty_any rs1 (by have:=(unhide HK1).gr.small;have:=unhide HPHI;omega) b a (ln:Int) w2 (unhide HR2) (unhide HDA1))
  clear hv2 hw2 hf2 z0 z1 z2 z3 z4
  go_wp2_with fail
  refine (unhide HEM).mono ?_
  rintro e w3 ⟨rfl,hw3⟩
  have hf3:=Fy.ofBelow hw3 (RtS_lt (unhide HR2))
  have HF3:=hide ((unhide HF2).trans hf3)
  have HR3:=hide (RtS_below (unhide HR2) hw3)
  have HN4:=hide ((unhide HN3).next hf3)
  have HV3:=hide ((unhide HV2).below hw3)
  obtain ⟨z0,z1,z2,z3,z4⟩:=(unhide HN4).cells
  rw [hk] at z0
  rw [unhide HLN] at z1
  rw [unhide HQN] at z2
  clear hw3 hf3 y0 y1 y2 y3 y4
  have HVS:Hid (VSet rs0 rs1 ((uni rs0 a ln).map (·++[Nm.o qn])) (befS X1 qn)):=by
   have hl1:=(unhide HK1).gr.gr.len
   have hq:=Dr.lt0 (unhide HDB)
   have hnm:nmOf rs0 rs1 qn=.o qn:=by unfold nmOf;rw [if_pos hq]
   refine (unhide HK1).vs.bef (.inl ⟨hq,_,unhide HDB,unhide HWB⟩) (by omega) (unhide HQ256) (fun u hu=>?_)
   rw [hnm];exact List.mem_map.2 ⟨u,hu,rfl⟩
  have HSB:Hid (stB rs1 (befS X1 qn)=catL (derL c a.L) d.L):=by
   obtain ⟨x1',hx1'⟩:=(unhide HK1).gr.gr.pre
   have hd1:Dr rs1 d (qn:Int):=by rw [hx1'];exact (unhide HDB).app x1'
   rw [stB_bef _ _ (unhide HQ256),LN_eq hd1,(unhide HK1).eq];exact rfl
  cases hnu:nulB a
  ·have HNU:Hid (¬a.L []):=fun h=>by rw [←nulB_iff,hnu] at h;cases h
   clear hnu
   go_wp2_with fail
   go_ret
   refine ⟨_,befS X1 qn,rs1,rfl,unhide HF3,unhide HR3,(unhide HK1).gr,(unhide HK1).ex,unhide HV3,?_,?_⟩
   ·simp only [uni_seq,unhide HKL,unhide HKRR]
    exact (unhide HVS).mono (fun u hu=>List.mem_append_left _ hu)
   ·rw [unhide HSB]
    apply Lang.ext
    intro u
    show _↔derL c (catL a.L d.L) u
    rw [der_cat]
    exact ⟨.inl,fun h=>h.elim id (fun h=>absurd h.1 (unhide HNU))⟩
  ·have HNU:Hid (a.L []):=(nulB_iff a).1 hnu
   clear hnu
   go_wp2_with fail
   refine (unhide IHB qn _ rs1 (unhide HWB) (unhide HDB) (unhide HR3) (unhide HK1).gr).mono ?_
   rintro e w4 ⟨v4,X4,rs4,rfl,k4⟩
   have HK4:=hide k4
   have HF4:=hide ((unhide HF3).trans k4.fy)
   obtain ⟨va4,vc4,rfl⟩:=k4.row.form
   have hX4:X4.length≤12:=by
    have q1:=k4.vs.len k4.gr
    have q2:=uni_len rs0 d qn
    have:=unhide HWB
    omega
   have HV4:=hide ((unhide HV3).fy k4.fy (unhide HR3))
   have HBO:=hide (both_any w4 0 0 _ _ (befS X1 qn) X4 (unhide HV4) k4.row (by have:=unhide HX1;have:=befS_len X1 qn;omega))
   clear k4 hX4 z0 z1 z2 z3 z4
   go_wp2_with fail
   refine (unhide HBO).mono ?_
   rintro e w5 ⟨v5,rfl,hv5,hw5⟩
   have HV5:=hide hv5
   have HW5:=hide hw5
   obtain ⟨va5,vc5,rfl⟩:=hv5.form
   clear hv5 hw5
   go_wp2_with fail
   go_ret
   obtain ⟨x4,hx4⟩:=(unhide HK4).ex
   refine ⟨_,bothS (befS X1 qn) X4,rs4,rfl,(unhide HF4).trans (Fy.ofBelow (unhide HW5) (RtS_lt (unhide HK4).rt)),RtS_below (unhide HK4).rt (unhide HW5),(unhide HK4).gr,grow_trans (unhide HK1).ex ⟨x4,hx4⟩,unhide HV5,?_,?_⟩
   ·have q1:=(unhide HVS).grow x4
    rw [←hx4] at q1
    simp only [uni_seq,unhide HKL,unhide HKRR]
    exact q1.both (unhide HK4).vs (fun u hu=>List.mem_append_left _ hu) (fun u hu=>List.mem_append_right _ hu)
   ·have q2:stB rs4 (befS X1 qn)=catL (derL c a.L) d.L:=by rw [hx4,stB_app (unhide HK1).gr (unhide HVS) x4];exact unhide HSB
    rw [stB_both,q2,(unhide HK4).eq]
    apply Lang.ext
    intro u
    show (_∨_)↔derL c (catL a.L d.L) u
    rw [der_cat]
    exact ⟨fun h=>h.elim .inl (fun h=>.inr ⟨unhide HNU,h⟩),fun h=>h.elim .inl (fun h=>.inr h.2)⟩
end Go.Proofs.YtobfpgoepaeknaaGreat
namespace Go.Proofs.YtobfpgoepaeknaaGreat
open Go.RowKit
set_option maxRecDepth 20000 in
set_option maxHeartbeats 8000000 in
theorem left_times {rs0:List Rn} (hphi:phiR rs0≤121) (hwf:WfT rs0) {b c:Nat} (hc:c < 256) {m n:Nat} {a:Re} (iha:DoesLf rs0 b c a):DoesLf rs0 b c (.times m n a):=by
  have HPHI:=hide hphi
  have HWF:=hide hwf
  intro kn w rs hwt hd hb hg
  have HWT:=hide hwt
  obtain ⟨r,h0,h1,hk,hm,hn,hm9,hn9,ha⟩:=hd.timesE
  clear hd
  have HCT:Hid (1≤n→Nm.x 8 ((r.l.toNat:Nat):Int) ((m - 1:Nat):Int) ((n - 1:Nat):Int)∈ctsT rs0):=fun hn1=>cts_times (j:=0) (by rw [Int.toNat_natCast] at h1;exact h1) hk hm hn ha hn1
  have hmem:∃ e,rs=rs0++e:=hg.gr.pre
  obtain ⟨e0,he0⟩:=hmem
  rw [Int.toNat_natCast] at h1
  have h1':rs[kn]?=some r:=by rw [he0];exact getElem?_app h1 e0
  have hbl:=RtS_lt hb
  have hsm:=hg.small
  have hl':(rs.length:Int)≤121:=by have:=unhide HPHI;omega
  have hcI:(c:Int) < 256:=by omega
  obtain ⟨g,cap,hkl',c0,hcc⟩:=nd_begin hb h1'
  have HL:=hide hcc
  have HN1:=hide (heap_alloc_new w (Obj.cells Tryz.zeroCells151 151))
  have hbt:Below w.heap.size w ((w.alloc (Obj.cells Tryz.zeroCells151 151)).setRow w.heap.size (rnA r)):=below_setRow ((Below.refl _ _).alloc (Nat.le_refl _) _) (Nat.le_refl _) _
  have HNL:=hide (Nl.start hb r)
  have HF0:=hide (Fy.ofBelow hbt hbl)
  have HRT2:=hide (RtS_below hb hbt)
  have HG:=hide hg
  obtain ⟨x0,x1,x2,x3,x4⟩:=nd_cells w r
  rw [hk] at x0
  have HKR:Hid (kn < rs0.length∧rs0[kn]?=some r):=⟨(List.getElem?_eq_some_iff.1 h1).1,h1⟩
  have HE0:=hide he0
  have HC256:=hide hc
  clear hbt hb h1 h1' h0 hcc hg hsm he0 hbl hc hphi hwf hwt
  obtain ⟨ln,hln⟩:∃ ln:Nat,r.l=(ln:Int):=⟨r.l.toNat,(toNat_cast ha.nonneg).symm⟩
  have hkl:kidL rs0 kn=ln:=by rw [kidL_of (unhide HKR).2,hln,Int.toNat_natCast]
  rw [hln] at ha x1
  have HLN:=hide hln
  have HKL:=hide hkl
  have HDA:=hide ha
  have IHA:=hide iha
  rw [hln,Int.toNat_natCast] at HCT
  rw [hm] at x3
  rw [hn] at x4
  have hm9I:(m:Int)≤9:=by omega
  have hn9I:(n:Int)≤9:=by omega
  have HMN:=hide (And.intro hm9 hn9)
  have HMM:=hide (And.intro hm hn)
  by_cases hbad:n < 1∨n < m
  ·have HS:Hid (derL c (Re.times m n a).L=voidL):=der_times0 c a.L hbad
   clear ha iha hln hkl hm9 hn9
   by_cases hb1:n < 1
   ·have hb1I:(n:Int) < 1:=by omega
    clear hb1 hbad
    go_enter Tryz.func79,Tryz.ntmps79
    go_upto_region 2 with (first
     | refine wpList_load_mid rfl 151 _ rfl ⟨g,kn * 261,none⟩ rfl (rnA r) (unhide HL) _ Tryz.underlying151 rfl (by rw [size_rnA];exact info78) ?_
     | refine wpList_store_row0 rfl 151 _ _ rfl rfl w.heap.size _ rfl rfl 151 _ (unhide HN1) (by rw [size_rnA];exact info78) (by rw [zero78,size_rnA,size_rnA]) (rnA_one _) ?_)
    clear HL HN1 c0
    go_wp2_with fail
    go_ret
    exact ⟨_,[],rs,rfl,unhide HF0,unhide HRT2,unhide HG,⟨[],by simp⟩,World.ownsRow_nil _ _ _ _,VSet.nil _ _ _,by rw [stB_nil];exact (unhide HS).symm⟩
   ·have hb1I:(1:Int)≤(n:Int):=by omega
    have hb2I:(n:Int) < (m:Int):=by omega
    clear hb1 hbad
    go_enter Tryz.func79,Tryz.ntmps79
    go_upto_region 2 with (first
     | refine wpList_load_mid rfl 151 _ rfl ⟨g,kn * 261,none⟩ rfl (rnA r) (unhide HL) _ Tryz.underlying151 rfl (by rw [size_rnA];exact info78) ?_
     | refine wpList_store_row0 rfl 151 _ _ rfl rfl w.heap.size _ rfl rfl 151 _ (unhide HN1) (by rw [size_rnA];exact info78) (by rw [zero78,size_rnA,size_rnA]) (rnA_one _) ?_)
    clear HL HN1 c0
    go_wp2_with fail
    go_ret
    exact ⟨_,[],rs,rfl,unhide HF0,unhide HRT2,unhide HG,⟨[],by simp⟩,World.ownsRow_nil _ _ _ _,VSet.nil _ _ _,by rw [stB_nil];exact (unhide HS).symm⟩
  ·have hn1:1≤n:=by omega
   have hmn:m≤n:=by omega
   have HGOOD:=hide (And.intro hn1 hmn)
   have hn1I:(1:Int)≤(n:Int):=by omega
   have hmnI:(m:Int)≤(n:Int):=by omega
   have HWA:Hid (a.wt≤12):=by
    have q1:=Re.wt_pos a
    have q2:a.wt * (n:Int)≤(Re.times m n a).wt:=by
     rw [Re.wt_times]
     unfold max1
     split<;>omega
    have q4:=unhide HWT
    have q3:a.wt * 1≤a.wt * (n:Int):=Int.mul_le_mul_of_nonneg_left hn1I (by omega)
    show _≤_
    omega
   clear ha iha hln hkl hm9 hn9 hbad hn1 hmn
   go_enter Tryz.func79,Tryz.ntmps79
   go_upto_region 2 with (first
    | refine wpList_load_mid rfl 151 _ rfl ⟨g,kn * 261,none⟩ rfl (rnA r) (unhide HL) _ Tryz.underlying151 rfl (by rw [size_rnA];exact info78) ?_
    | refine wpList_store_row0 rfl 151 _ _ rfl rfl w.heap.size _ rfl rfl 151 _ (unhide HN1) (by rw [size_rnA];exact info78) (by rw [zero78,size_rnA,size_rnA]) (rnA_one _) ?_)
   clear HL HN1 c0
   go_wp2_with fail
   refine (unhide IHA ln _ rs (unhide HWA) (unhide HDA) (unhide HRT2) (unhide HG)).mono ?_
   rintro e w1 ⟨v1,X1,rs1,rfl,k1⟩
   have HK1:=hide k1
   have HN2:=hide ((unhide HNL).next k1.fy)
   have HF1:=hide ((unhide HF0).trans k1.fy)
   obtain ⟨va1,vc1,rfl⟩:=k1.row.form
   obtain ⟨z0,z1,z2,z3,z4⟩:=(unhide HN2).cells
   rw [hk] at z0
   rw [unhide HLN] at z1
   have hX1:X1.length≤12:=by
    have q1:=k1.vs.len k1.gr
    have q2:=uni_len rs0 a ln
    have:=unhide HWA
    omega
   have HX1:=hide hX1
   have HSZ1:Hid (∀ s∈X1,s.size≤100000):=fun s hs=>by
    have q1:=k1.vs.size s hs
    have q2:=rdep_le (unhide HWF) (unhide HDA)
    have q3:=Dr.lt0 (unhide HDA)
    have q4:=phi_len rs0
    have q5:=unhide HPHI
    omega
   clear x0 x1 x2 x3 x4 k1 hX1
   rw [(unhide HMM).1] at z3
   rw [(unhide HMM).2] at z4
   obtain ⟨m1,hm1⟩:∃ m1:Nat,m1=m - 1:=⟨_,rfl⟩
   obtain ⟨n1,hn1⟩:∃ n1:Nat,n1=n - 1:=⟨_,rfl⟩
   have HM1:=hide hm1
   have HN11:=hide hn1
   have hn1E:(n:Int) - 1=(n1:Int):=by omega
   have HZ:Hid (((((Tryz.zeroCells151.setIfInBounds 0 (.int .i64 8)).setIfInBounds 1 (.int .i64 (ln:Int))).setIfInBounds 3 (.int .i64 (m1:Int))).setIfInBounds 4 (.int .i64 (n1:Int)))=rnA ⟨8,(ln:Int),0,(m1:Int),(n1:Int),noSet⟩):=by show _=_;rw [zero78,rnA_kind,rnA_l,rnA_m,rnA_n]
   have HFI:=hide (find_any w1 b rs1 ⟨8,(ln:Int),0,(m1:Int),(n1:Int),noSet⟩ (unhide HK1).rt (by have:=(unhide HK1).gr.small;have:=unhide HPHI;omega))
   have HCT2:Hid (Nm.x 8 (ln:Int) (m1:Int) (n1:Int)∈ctsT rs0):=by rw [hm1,hn1];exact unhide HCT (unhide HGOOD).1
   have HM9:Hid (m1≤9∧n1≤9):=by have:=unhide HMN;show _∧_;omega
   have HW1:Hid ((Re.times m1 n1 a).wt≤12):=by
    have q1:=Re.wt_pos a
    have q2:a.wt * (n:Int)≤(Re.times m n a).wt:=by
     rw [Re.wt_times]
     unfold max1
     split<;>omega
    have q3:a.wt * (n1:Int)≤a.wt * (n:Int):=Int.mul_le_mul_of_nonneg_left (by omega) (by omega)
    have q4:=unhide HWT
    show (Re.times m1 n1 a).wt≤12
    rw [Re.wt_times]
    unfold max1
    split<;>omega
   have HMS:Hid (((m:Int) - 1 < 0∧m1=0)∨(¬(m:Int) - 1 < 0∧(m:Int) - 1=(m1:Int))):=by show _∨_;omega
   clear hm1 hn1 hmnI
   go_upto_if 100 with fail
   go_cut [13] (fun mx wx=>mx=.int .i64 (m1:Int)∧wx=w1)
   case first =>
    clear HFI HK1 HN2 HF1 HZ
    rcases unhide HMS with ⟨hq,rfl⟩ | ⟨hq,he⟩
    ·go_wp2_with fail
     go_meet
     exact ⟨rfl,rfl⟩
    ·go_wp2_with fail
     go_meet
     exact ⟨by rw [he],rfl⟩
   case rest =>
    rename World=>wc
    obtain ⟨rfl,rfl⟩:=hcut
    clear HMS z3
    go_wp2_with fail
    rw [unhide HZ]
    refine (unhide HFI).mono ?_
    rintro e w2 ⟨i,rs2,rfl,hf2,hr2,hfs⟩
    obtain ⟨g1,g2,g3,g4,g5,g6⟩:=found_times (unhide HK1).gr (unhide HDA) (unhide HWA) (unhide HW1) (unhide HM9).1 (unhide HM9).2 (unhide HCT2) hfs
    have HG1:=hide g1
    have HG2:=hide g2
    have HG3:=hide g3
    have HG4:=hide g4
    have HG5:=hide g5
    have HG6:=hide g6
    have HF2:=hide ((unhide HF1).trans hf2)
    have HR2:=hide hr2
    have HI256:Hid (i < 256):=by have:=g1.small;have:=unhide HPHI;show _ < _;omega
    have HS2:=hide ((unhide HK1).row.fy hf2 (unhide HK1).rt)
    have HBE:=hide (before_any w2 0 _ X1 i (unhide HS2) (by have:=unhide HX1;omega) (unhide HI256) (unhide HSZ1))
    have HX2:Hid (VSet rs0 rs2 (uni rs0 a ln) X1∧stB rs2 X1=derL c a.L):=by
     obtain ⟨x2,hx2⟩:=g2
     rw [hx2]
     exact ⟨(unhide HK1).vs.grow x2,by rw [stB_app (unhide HK1).gr (unhide HK1).vs x2];exact (unhide HK1).eq⟩
    clear g1 g2 g3 g4 g5 g6 hf2 hr2 hfs
    go_wp2_with fail
    refine (unhide HBE).mono ?_
    rintro e w3 ⟨v3,rfl,hv3,hw3⟩
    have HV3:=hide hv3
    have HW3:=hide hw3
    obtain ⟨va3,vc3,rfl⟩:=hv3.form
    clear hv3 hw3
    go_wp2_with fail
    go_ret
    refine ⟨_,befS X1 i,rs2,rfl,(unhide HF2).trans (Fy.ofBelow (unhide HW3) (RtS_lt (unhide HR2))),RtS_below (unhide HR2) (unhide HW3),unhide HG1,grow_trans (unhide HK1).ex (unhide HG2),unhide HV3,?_,?_⟩
    ·simp only [uni_times,unhide HKL]
     rw [if_pos (unhide HGOOD).2]
     refine (unhide HX2).1.bef (unhide HG5) (unhide HG3) (unhide HI256) (fun u hu=>?_)
     rw [unhide HG4,unhide HM1,unhide HN11]
     exact List.mem_flatMap.2 ⟨0,List.mem_range.2 (unhide HGOOD).1,List.mem_map.2 ⟨u,hu,rfl⟩⟩
    ·rw [stB_bef _ _ (unhide HI256),LN_eq (unhide HG6),(unhide HX2).2,unhide HM1,unhide HN11]
     exact (der_times c a.L (unhide HGOOD).1 (unhide HGOOD).2).symm
end Go.Proofs.YtobfpgoepaeknaaGreat
namespace Go.Proofs.YtobfpgoepaeknaaGreat
open Go.RowKit
theorem left_any {rs0:List Rn} (hphi:phiR rs0≤121) (hwf:WfT rs0) {b c:Nat} (hc:c < 256):∀ R:Re,DoesLf rs0 b c R :=
 Re.ind (left_blank hphi hwf hc) (left_set hphi hwf hc) (fun _ _ ha hd=>left_seq hphi hwf hc ha hd) (fun _ _ ha hd=>left_alt hphi hwf hc ha hd)
  (fun _ ha=>left_star hphi hwf hc ha) (fun _ ha=>left_plus hphi hwf hc ha) (fun _ ha=>left_opt hphi hwf hc ha) (fun _ _ _ ha=>left_times hphi hwf hc ha)
end Go.Proofs.YtobfpgoepaeknaaGreat
namespace Go.Proofs.YtobfpgoepaeknaaGreat
open Go.RowKit
set_option maxRecDepth 20000 in
set_option maxHeartbeats 8000000 in
theorem left_starN {rs0:List Rn} (hphi:phiR rs0≤121) (hwf:WfT rs0) {b c:Nat} (hc:c < 256) {a:Re} (iha:DoesLf rs0 b c a) {kn:Nat} {rs:List Rn} {r:Rn} (h1:rs[kn]?=some r) (hk:r.kind=5) (ha:Dr rs0 a r.l) (hwa:a.wt≤12)
  (w:World) (hb:RtS w b rs) (hg:GrowT rs0 rs) (hnum:NumOk rs0 rs kn) :
  Calls Tryz.prog 79 #[.pointer (some ⟨b,0,none⟩),.int .i64 (kn:Int),.int .i64 (c:Int)] w fun e w'=>∃ v X rs',e=.returned v∧LfOk rs0 b w w' rs ((uni rs0 a r.l.toNat).map (·++[nmOf rs0 rs kn])) (catL (derL c a.L) (LN rs kn)) v X rs':=by
  have HPHI:=hide hphi
  have HWF:=hide hwf
  have HWA:=hide hwa
  have h1':=h1
  have hbl:=RtS_lt hb
  have hsm:=hg.small
  have hl':(rs.length:Int)≤121:=by have:=unhide HPHI;omega
  have hcI:(c:Int) < 256:=by omega
  obtain ⟨g,cap,hkl',c0,hcc⟩:=nd_begin hb h1'
  have HL:=hide hcc
  have HN1:=hide (heap_alloc_new w (Obj.cells Tryz.zeroCells151 151))
  have hbt:Below w.heap.size w ((w.alloc (Obj.cells Tryz.zeroCells151 151)).setRow w.heap.size (rnA r)):=below_setRow ((Below.refl _ _).alloc (Nat.le_refl _) _) (Nat.le_refl _) _
  have HNL:=hide (Nl.start hb r)
  have HF0:=hide (Fy.ofBelow hbt hbl)
  have HRT2:=hide (RtS_below hb hbt)
  have HG:=hide hg
  obtain ⟨x0,x1,x2,x3,x4⟩:=nd_cells w r
  rw [hk] at x0
  have HKR:Hid (kn < rs.length):=(List.getElem?_eq_some_iff.1 h1).1
  have HNUM:=hide hnum
  have HC256:=hide hc
  clear hbt hb h1 h1' hcc hg hsm hbl hc hphi hwf hnum
  obtain ⟨ln,hln⟩:∃ ln:Nat,r.l=(ln:Int):=⟨r.l.toNat,(toNat_cast ha.nonneg).symm⟩
  have hkl:r.l.toNat=ln:=by rw [hln,Int.toNat_natCast]
  rw [hln] at ha x1
  have HLN:=hide hln
  have HKL:=hide hkl
  have HDA:=hide ha
  have IHA:=hide iha
  clear ha iha hln hkl hwa
  have HK256:Hid (kn < 256):=by
   have q3:=(unhide HKR)
   have q4:=(unhide HG).small
   have q5:=unhide HPHI
   show _ < _
   omega
  go_enter Tryz.func79,Tryz.ntmps79
  go_upto_region 2 with (first
   | refine wpList_load_mid rfl 151 _ rfl ⟨g,kn * 261,none⟩ rfl (rnA r) (unhide HL) _ Tryz.underlying151 rfl (by rw [size_rnA];exact info78) ?_
   | refine wpList_store_row0 rfl 151 _ _ rfl rfl w.heap.size _ rfl rfl 151 _ (unhide HN1) (by rw [size_rnA];exact info78) (by rw [zero78,size_rnA,size_rnA]) (rnA_one _) ?_)
  clear HL HN1 c0
  go_wp2_with fail
  refine (unhide IHA ln _ rs (unhide HWA) (unhide HDA) (unhide HRT2) (unhide HG)).mono ?_
  rintro e w1 ⟨v1,X1,rs1,rfl,k1⟩
  have HK1:=hide k1
  have HN2:=hide ((unhide HNL).next k1.fy)
  have HF1:=hide ((unhide HF0).trans k1.fy)
  obtain ⟨va1,vc1,rfl⟩:=k1.row.form
  obtain ⟨z0,z1,z2,z3,z4⟩:=(unhide HN2).cells
  rw [hk] at z0
  rw [unhide HLN] at z1
  have hX1:X1.length≤12:=by
   have q1:=k1.vs.len k1.gr
   have q2:=uni_len rs0 a ln
   have:=unhide HWA
   omega
  have HX1:=hide hX1
  have HSZ1:Hid (∀ s∈X1,s.size≤100000):=fun s hs=>by
   have q1:=k1.vs.size s hs
   have q2:=rdep_le (unhide HWF) (unhide HDA)
   have q3:=Dr.lt0 (unhide HDA)
   have q4:=phi_len rs0
   have q5:=unhide HPHI
   omega
  clear x0 x1 x2 x3 x4 k1 hX1
  have HBE:=hide (before_any w1 0 _ X1 kn (unhide HK1).row (by have:=unhide HX1;omega) (unhide HK256) (unhide HSZ1))
  go_wp2_with fail
  refine (unhide HBE).mono ?_
  rintro e w2 ⟨v2,rfl,hv2,hw2⟩
  have HV2:=hide hv2
  have HW2:=hide hw2
  obtain ⟨va2,vc2,rfl⟩:=hv2.form
  clear hv2 hw2
  go_wp2_with fail
  go_ret
  obtain ⟨y,hy⟩:=(unhide HK1).ex
  have hnm:nmOf rs0 rs1 kn=nmOf rs0 rs kn:=by rw [hy];exact nmOf_app (unhide HKR) y
  have hl1:kn < rs1.length:=by rw [hy];simp;have:=unhide HKR;omega
  refine ⟨_,befS X1 kn,rs1,rfl,(unhide HF1).trans (Fy.ofBelow (unhide HW2) (RtS_lt (unhide HK1).rt)),RtS_below (unhide HK1).rt (unhide HW2),(unhide HK1).gr,(unhide HK1).ex,unhide HV2,?_,?_⟩
  ·rw [unhide HKL]
   refine (unhide HK1).vs.bef (by rw [hy];exact (unhide HNUM).grow y) hl1 (unhide HK256) (fun u hu=>?_)
   rw [hnm];exact List.mem_map.2 ⟨u,hu,rfl⟩
  ·rw [stB_bef _ _ (unhide HK256),(unhide HK1).eq]
   rw [hy,LN_app ((unhide HNUM).nd (unhide HG)) y]
end Go.Proofs.YtobfpgoepaeknaaGreat
