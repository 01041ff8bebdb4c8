/-
  The document's answer: what is left of a part behind a byte.
  The document's answer: what left answers at a node, whichever.
  The document's answer: sets of terms: sameTerms, ends.
  The document's answer: may nothing more come?
-/
import Derived.Test.YtobfpgoepaeknaaGreatPO28
import Derived.Deep.DeepCutAuto
namespace Go.Proofs.YtobfpgoepaeknaaGreat
open Go.RowKit
structure Nl (w wr:World) (b:Nat) (r:Rn):Prop where
 at_:wr.heap[w.heap.size]?=some (.cells (rnA r) 151 (0,0))
 off:¬RowAt wr b w.heap.size
 lt:b < w.heap.size
theorem Nl.start {w:World} {b:Nat} {rs:List Rn} (hb:RtS w b rs) (r:Rn):Nl w ((w.alloc (Obj.cells Tryz.zeroCells151 151)).setRow w.heap.size (rnA r)) b r:=by
 have hbl:=RtS_lt hb
 have hbt:Below w.heap.size w ((w.alloc (Obj.cells Tryz.zeroCells151 151)).setRow w.heap.size (rnA r)):=below_setRow ((Below.refl _ _).alloc (Nat.le_refl _) _) (Nat.le_refl _) _
 refine ⟨setRow_heap _ _ _ (rnA r) _ _ (heap_alloc_new w _),fun hr=>?_,hbl⟩
 obtain ⟨v,fr,h1,h2⟩:=hr
 rw [hbt.block b hbl] at h1
 obtain ⟨cs,fr',h3⟩:=hb.rowNode ⟨v,fr,h1,h2⟩
 have:=(Array.getElem?_eq_some_iff.1 h3).1
 omega
theorem Nl.next {w wr w1:World} {b:Nat} {r:Rn} (h:Nl w wr b r) (hf:Fy b wr w1):Nl w w1 b r:=by
 have hl:=(Array.getElem?_eq_some_iff.1 h.at_).1
 have hlt:=h.lt
 refine ⟨?_,fun hr=>?_,hlt⟩
 ·rw [hf.keep _ hl (by omega) h.off];exact h.at_
 ·rcases hf.row _ hr with g | g
  ·exact h.off g
  ·omega
theorem Nl.cells {w wr:World} {b:Nat} {r:Rn} (h:Nl w wr b r):wr.cell? ⟨w.heap.size,0,none⟩=some (.int .i64 r.kind)∧wr.cell? ⟨w.heap.size,1,none⟩=some (.int .i64 r.l)∧wr.cell? ⟨w.heap.size,2,none⟩=some (.int .i64 r.r)∧wr.cell? ⟨w.heap.size,3,none⟩=some (.int .i64 r.m)∧wr.cell? ⟨w.heap.size,4,none⟩=some (.int .i64 r.n):=by
 obtain ⟨y0,y1,y2,y3,y4⟩:=rnA_fields r
 refine ⟨?_,?_,?_,?_,?_⟩<;>rw [cell_of_row _ _ _ _ _ _ h.at_]
 ·exact y0
 ·exact y1
 ·exact y2
 ·exact y3
 ·exact y4
theorem Dr.lt0 {rs:List Rn} {R:Re} {k:Nat} (h:Dr rs R (k:Int)):k < rs.length:=by
 obtain ⟨r,h1,_⟩:=h.kind
 rw [Int.toNat_natCast] at h1
 exact (List.getElem?_eq_some_iff.1 h1).1
theorem grow_trans {rs rs1 rs2:List Rn} (h:∃ x,rs1=rs++x) (k:∃ x,rs2=rs1++x):∃ x,rs2=rs++x:=by
 obtain ⟨x,rfl⟩:=h
 obtain ⟨y,rfl⟩:=k
 exact ⟨x++y,by rw [List.append_assoc]⟩
structure LfOk (rs0:List Rn) (b:Nat) (w w':World) (rs:List Rn) (U:List (List Nm)) (L:Lang) (v:Value) (X:List ByteArray) (rs':List Rn):Prop where
 fy:Fy b w w'
 rt:RtS w' b rs'
 gr:GrowT rs0 rs'
 ex:∃ x,rs'=rs++x
 row:SRow w' 0 v X
 vs:VSet rs0 rs' U X
 eq:stB rs' X=L
def DoesLf (rs0:List Rn) (b c:Nat) (R:Re):Prop:=∀ (kn:Nat) (w:World) (rs:List Rn),R.wt≤12→Dr rs0 R (kn:Int)→RtS w b rs→GrowT rs0 rs →
  Calls Tryz.prog 79 #[.pointer (some ⟨b,0,none⟩),.int .i64 (kn:Int),.int .i64 (c:Int)] w fun e w'=>∃ v X rs',e=.returned v∧LfOk rs0 b w w' rs (uni rs0 R kn) (derL c R.L) v X rs'
theorem phi_len (rs0:List Rn):rs0.length≤phiR rs0:=by have:=ctsT_len rs0;omega
set_option maxRecDepth 20000 in
set_option maxHeartbeats 2000000 in
theorem left_blank {rs0:List Rn} (hphi:phiR rs0≤121) (hwf:WfT rs0) {b c:Nat} (hc:c < 256) :DoesLf rs0 b c .blank:=by
  have HPHI:=hide hphi
  have HWF:=hide hwf
  intro kn w rs hwt hd hb hg
  obtain ⟨r,h0,h1,hk⟩:=hd
  have hmem:∃ e,rs=rs0++e:=hg.gr.pre
  obtain ⟨e0,he0⟩:=hmem
  rw [Int.toNat_natCast] at h1
  have h1':rs[kn]?=some r:=by rw [he0];exact getElem?_app h1 e0
  have hbl:=RtS_lt hb
  have hsm:=hg.small
  have hl':(rs.length:Int)≤121:=by have:=unhide HPHI;omega
  have hcI:(c:Int) < 256:=by omega
  obtain ⟨g,cap,hkl',c0,hcc⟩:=nd_begin hb h1'
  have HL:=hide hcc
  have HN1:=hide (heap_alloc_new w (Obj.cells Tryz.zeroCells151 151))
  have hbt:Below w.heap.size w ((w.alloc (Obj.cells Tryz.zeroCells151 151)).setRow w.heap.size (rnA r)):=below_setRow ((Below.refl _ _).alloc (Nat.le_refl _) _) (Nat.le_refl _) _
  have HNL:=hide (Nl.start hb r)
  have HF0:=hide (Fy.ofBelow hbt hbl)
  have HRT2:=hide (RtS_below hb hbt)
  have HG:=hide hg
  obtain ⟨x0,x1,x2,x3,x4⟩:=nd_cells w r
  rw [hk] at x0
  have HKR:Hid (kn < rs0.length∧rs0[kn]?=some r):=⟨(List.getElem?_eq_some_iff.1 h1).1,h1⟩
  have HE0:=hide he0
  have HC256:=hide hc
  clear hbt hb h1 h1' h0 hcc hg hsm he0 hbl hc hphi hwf hwt
  go_enter Tryz.func79,Tryz.ntmps79
  go_upto_region 2 with (first
   | refine wpList_load_mid rfl 151 _ rfl ⟨g,kn * 261,none⟩ rfl (rnA r) (unhide HL) _ Tryz.underlying151 rfl (by rw [size_rnA];exact info78) ?_
   | refine wpList_store_row0 rfl 151 _ _ rfl rfl w.heap.size _ rfl rfl 151 _ (unhide HN1) (by rw [size_rnA];exact info78) (by rw [zero78,size_rnA,size_rnA]) (rnA_one _) ?_)
  clear HL HN1 c0
  go_wp2_with fail
  go_ret
  exact ⟨_,[],rs,rfl,unhide HF0,unhide HRT2,unhide HG,⟨[],by simp⟩,World.ownsRow_nil _ _ _ _,VSet.nil _ _ _,by rw [stB_nil];exact (der_eps c).symm⟩
set_option maxRecDepth 20000 in
set_option maxHeartbeats 2000000 in
theorem left_set {rs0:List Rn} (hphi:phiR rs0≤121) (hwf:WfT rs0) {b c:Nat} (hc:c < 256) (f:Nat→Bool):DoesLf rs0 b c (.set f):=by
  have HPHI:=hide hphi
  have HWF:=hide hwf
  intro kn w rs hwt hd hb hg
  obtain ⟨r,h0,h1,hk,hf⟩:=hd
  have hmem:∃ e,rs=rs0++e:=hg.gr.pre
  obtain ⟨e0,he0⟩:=hmem
  rw [Int.toNat_natCast] at h1
  have h1':rs[kn]?=some r:=by rw [he0];exact getElem?_app h1 e0
  have hbl:=RtS_lt hb
  have hsm:=hg.small
  have hl':(rs.length:Int)≤121:=by have:=unhide HPHI;omega
  have hcI:(c:Int) < 256:=by omega
  obtain ⟨g,cap,hkl',c0,hcc⟩:=nd_begin hb h1'
  have HL:=hide hcc
  have HN1:=hide (heap_alloc_new w (Obj.cells Tryz.zeroCells151 151))
  have hbt:Below w.heap.size w ((w.alloc (Obj.cells Tryz.zeroCells151 151)).setRow w.heap.size (rnA r)):=below_setRow ((Below.refl _ _).alloc (Nat.le_refl _) _) (Nat.le_refl _) _
  have HNL:=hide (Nl.start hb r)
  have HF0:=hide (Fy.ofBelow hbt hbl)
  have HRT2:=hide (RtS_below hb hbt)
  have HG:=hide hg
  obtain ⟨x0,x1,x2,x3,x4⟩:=nd_cells w r
  rw [hk] at x0
  have HKR:Hid (kn < rs0.length∧rs0[kn]?=some r):=⟨(List.getElem?_eq_some_iff.1 h1).1,h1⟩
  have HE0:=hide he0
  have HC256:=hide hc
  clear hbt hb h1 h1' h0 hcc hg hsm he0 hbl hc hphi hwf hwt
  have x5:((w.alloc (Obj.cells Tryz.zeroCells151 151)).setRow w.heap.size (rnA r)).cell? ⟨w.heap.size,5+c,none⟩=some (.bool (f c)):=by
   rw [cell_of_row _ _ _ _ _ _ (unhide HNL).at_,←hf]
   unfold rnA
   rw [Array.getElem?_append_right (by simp)]
   simp only [List.size_toArray,List.length_cons,List.length_nil,Nat.add_sub_cancel_left]
   exact get_setA r.f c (unhide HC256)
  cases hfc:f c
  ·rw [hfc] at x5
   have HS:Hid (derL c (Re.set f).L=voidL):=by show derL c (setL f)=_;rw [der_set,if_neg (by rw [hfc];simp)]
   clear hfc hf
   go_enter Tryz.func79,Tryz.ntmps79
   go_upto_region 2 with (first
    | refine wpList_load_mid rfl 151 _ rfl ⟨g,kn * 261,none⟩ rfl (rnA r) (unhide HL) _ Tryz.underlying151 rfl (by rw [size_rnA];exact info78) ?_
    | refine wpList_store_row0 rfl 151 _ _ rfl rfl w.heap.size _ rfl rfl 151 _ (unhide HN1) (by rw [size_rnA];exact info78) (by rw [zero78,size_rnA,size_rnA]) (rnA_one _) ?_)
   clear HL HN1 c0
   go_wp2_with fail
   go_ret
   exact ⟨_,[],rs,rfl,unhide HF0,unhide HRT2,unhide HG,⟨[],by simp⟩,World.ownsRow_nil _ _ _ _,VSet.nil _ _ _,by rw [stB_nil];exact (unhide HS).symm⟩
  ·rw [hfc] at x5
   have HS:Hid (derL c (Re.set f).L=epsL):=by show derL c (setL f)=_;rw [der_set,if_pos hfc]
   clear hfc hf
   go_enter Tryz.func79,Tryz.ntmps79
   go_upto_region 2 with (first
    | refine wpList_load_mid rfl 151 _ rfl ⟨g,kn * 261,none⟩ rfl (rnA r) (unhide HL) _ Tryz.underlying151 rfl (by rw [size_rnA];exact info78) ?_
    | refine wpList_store_row0 rfl 151 _ _ rfl rfl w.heap.size _ rfl rfl 151 _ (unhide HN1) (by rw [size_rnA];exact info78) (by rw [zero78,size_rnA,size_rnA]) (rnA_one _) ?_)
   clear HL HN1 c0
   go_wp2_with fail
   go_ret
   have hbn:Below ((w.alloc (Obj.cells Tryz.zeroCells151 151)).setRow w.heap.size (rnA r)).heap.size ((w.alloc (Obj.cells Tryz.zeroCells151 151)).setRow w.heap.size (rnA r)) (((w.alloc (Obj.cells Tryz.zeroCells151 151)).setRow w.heap.size (rnA r)).alloc (Obj.cells #[.string ⟨#[]⟩] 9)):=(Below.refl _ _).alloc (Nat.le_refl _) _
   refine ⟨_,[⟨#[]⟩],rs,rfl,(unhide HF0).trans (Fy.ofBelow hbn (RtS_lt (unhide HRT2))),RtS_below (unhide HRT2) hbn,unhide HG,⟨[],by simp⟩,?_,VSet.one (by simp [uni_set]),by rw [stB_one];exact (unhide HS).symm⟩
   exact ⟨rfl,.inr ⟨_,1,#[.string ⟨#[]⟩],rfl,Nat.zero_le _,by have h:=heap_alloc_new ((w.alloc (Obj.cells Tryz.zeroCells151 151)).setRow w.heap.size (rnA r)) (Obj.cells #[.string ⟨#[]⟩] 9);simpa using h,Nat.le_refl _,by unfold maxLen;omega,rfl,rfl⟩⟩
end Go.Proofs.YtobfpgoepaeknaaGreat
namespace Go.Proofs.YtobfpgoepaeknaaGreat
open Go.RowKit
structure LnOk (rs0:List Rn) (b c:Nat) (w w':World) (rs:List Rn) (kn:Nat) (v:Value) (X:List ByteArray) (rs':List Rn):Prop where
 fy:Fy b w w'
 rt:RtS w' b rs'
 gr:GrowT rs0 rs'
 ex:∃ x,rs'=rs++x
 row:SRow w' 0 v X
 num:∀ s∈X,∀ k∈bytesN s,k < rs'.length∧NumOk rs0 rs' k
 der:∀ s∈X,Der1 rs0 (nmOf rs0 rs kn) (nmS rs0 rs' s)
 len:X.length≤12
 size:∀ s∈X,s.size≤200
 eq:stB rs' X=derL c (LN rs kn)
theorem LfOk.ln {rs0:List Rn} {b c:Nat} {w w':World} {rs:List Rn} {kn:Nat} {v:Value} {X:List ByteArray} {rs':List Rn} {U:List (List Nm)} {L:Lang} (h:LfOk rs0 b w w' rs U L v X rs') (hd:∀ u∈U,Der1 rs0 (nmOf rs0 rs kn) u) (hl:U.length≤12) (hz:∀ u∈U,u.length≤200) (hL:L=derL c (LN rs kn)):LnOk rs0 b c w w' rs kn v X rs' :=
 ⟨h.fy,h.rt,h.gr,h.ex,h.row,fun s hs k hk=>⟨(h.vs.inu s hs).1 k hk,h.vs.num s hs k hk⟩,fun s hs=>hd _ (h.vs.inu s hs).2,Nat.le_trans (h.vs.len h.gr) hl,fun s hs=>by
  have:=hz _ (h.vs.inu s hs).2
  unfold nmS at this
  rw [List.length_map,bytesN_len] at this
  exact this,by rw [←hL];exact h.eq⟩
def DoesLn (rs0:List Rn) (b c:Nat):Prop:=∀ (kn:Nat) (rs:List Rn) (w:World),RtS w b rs→GrowT rs0 rs→NumOk rs0 rs kn →
  Calls Tryz.prog 79 #[.pointer (some ⟨b,0,none⟩),.int .i64 (kn:Int),.int .i64 (c:Int)] w fun e w'=>∃ v X rs',e=.returned v∧LnOk rs0 b c w w' rs kn v X rs'
end Go.Proofs.YtobfpgoepaeknaaGreat
namespace Go.Proofs.YtobfpgoepaeknaaGreat
open Go.RowKit
theorem below_drewN' {B:Nat} {a w:World} (h:Below B a w) (n:Nat):Below B a (w.drewN n):=⟨h.os,h.tape,h.output,h.size,h.block⟩
theorem list_ext_getD {X Y:List ByteArray} (hl:X.length=Y.length) (h:∀ j,j < X.length→X.getD j ByteArray.empty=Y.getD j ByteArray.empty):X=Y:=by
 apply List.ext_getElem hl
 intro i h1 h2
 have:=h i h1
 rw [List.getD_eq_getElem?_getD,List.getD_eq_getElem?_getD,List.getElem?_eq_getElem h1,List.getElem?_eq_getElem h2] at this
 exact this
set_option maxRecDepth 20000 in
set_option maxHeartbeats 1000000 in
theorem sameTerms_any (w:World) (B B2:Nat) (v u:Value) (X Y:List ByteArray) (h:SRow w B v X) (k:SRow w B2 u Y) (hx:X.length≤10000) (hy:Y.length≤10000) :
  Calls Tryz.prog 81 #[v,u] w fun e w'=>(∃ y,e=.returned (.bool y)∧(y=true↔X=Y))∧Below w.heap.size w w':=by
 obtain ⟨xa,xc,rfl⟩:=h.form
 obtain ⟨ya,yc,rfl⟩:=k.form
 have hxI:(X.length:Int)≤10000:=by omega
 have hyI:(Y.length:Int)≤10000:=by omega
 have HX:=hide h
 have HY:=hide k
 clear h k hx hy
 by_cases hn:X.length=Y.length
 ·have hnI:(X.length:Int)=(Y.length:Int):=by omega
  have HN:=hide hn
  clear hn
  go_enter Tryz.func81,Tryz.ntmps81
  go_wp2_with fail
  go_loopw [5] (fun ix wr=>∃ i:Nat,ix=.int .i64 (i:Int)∧Hid (i≤X.length∧Below w.heap.size w wr∧∀ j,j < i→X.getD j ByteArray.empty=Y.getD j ByteArray.empty)) (fun ix _=>X.length - (intOf ix).toNat)
  case atStart=>exact ⟨0,rfl,Nat.zero_le _,Below.refl _ _,fun j hj=>absurd hj (Nat.not_lt_zero _)⟩
  case round =>
   rename World=>wr
   obtain ⟨i,rfl,HH⟩:=hrel
   obtain ⟨hi,hB,hall⟩:=unhide HH
   have HB:=hide hB
   have HALL:=hide hall
   by_cases hlt:i < X.length
   ·have hltI:(i:Int) < (X.length:Int):=by omega
    have hltJ:(i:Int) < (Y.length:Int):=by omega
    have HLT:=hide hlt
    obtain ⟨g,cap,he,hx⟩:=((unhide HX).below hB).at hlt
    simp only [Value.slice.injEq,true_and] at he
    obtain ⟨rfl,rfl⟩:=he
    obtain ⟨g2,cap2,he2,hx2⟩:=((unhide HY).below hB).at (k:=i) (by rw [←unhide HN];exact hlt)
    simp only [Value.slice.injEq,true_and] at he2
    obtain ⟨rfl,rfl⟩:=he2
    have HSN:Hid (X.getD i ByteArray.empty=Y.getD i ByteArray.empty→∀ j,j < i+1→X.getD j ByteArray.empty=Y.getD j ByteArray.empty):=fun e j hj=>by
     by_cases q:j=i
     ·subst q;exact e
     ·exact hall j (by omega)
    have HNO:Hid (X.getD i ByteArray.empty≠Y.getD i ByteArray.empty→X≠Y):=fun hne e=>hne (by rw [e])
    generalize X.getD i ByteArray.empty=a at *
    generalize Y.getD i ByteArray.empty=d at *
    clear HH hi hB hall hlt
    by_cases hs:a=d
    ·have hs2:(a.toList == d.toList)=true:=by rw [hs];simp
     have HS:=hide (unhide HSN hs)
     clear hs
     go_wp2_with fail
     go_quiet (fail)
     go_wp2_with fail
     go_roundw
     case rel=>exact ⟨i+1,by go_num,unhide HLT,below_drewN' (unhide HB) _,unhide HS⟩
     case measure=>have:=unhide HLT;simp [intOf];omega
    ·have hs2:(a.toList == d.toList)=false:=by rw [beq_eq_false_iff_ne];exact fun e=>hs (ba_ext e)
     have HS:=hide (unhide HNO hs)
     clear hs
     go_wp2_with fail
     go_quiet (fail)
     go_wp2_with fail
     go_ret
     exact ⟨⟨false,rfl,by simp;exact unhide HS⟩,below_drewN' (unhide HB) _⟩
   ·have hi2:i=X.length:=by omega
    subst hi2
    clear HH hi hB hall hlt
    go_wp2_with fail
    go_ret
    exact ⟨⟨true,rfl,⟨fun _=>list_ext_getD (unhide HN) (unhide HALL),fun _=>rfl⟩⟩,unhide HB⟩
 ·have hnI:¬(X.length:Int)=(Y.length:Int):=by omega
  have HNE:Hid (X≠Y):=fun e=>hn (by rw [e])
  clear hn
  go_enter Tryz.func81,Tryz.ntmps81
  go_wp2_with fail
  go_ret
  exact ⟨⟨false,rfl,by simp;exact unhide HNE⟩,Below.refl _ _⟩
end Go.Proofs.YtobfpgoepaeknaaGreat
namespace Go.Proofs.YtobfpgoepaeknaaGreat
open Go.RowKit
theorem LN_nul {rs:List Rn} {R:Re} {k:Nat} (h:Dr rs R (k:Int)):LN rs k []↔nulB R=true:=by rw [LN_eq h];exact (nulB_iff R).symm
theorem bytesN_takeZ (s:ByteArray) {k:Nat} (h:k < s.size):(bytesN s).take (k+1)=(bytesN s).take k++[s[k].toNat]:=by
 have h2:k < (bytesN s).length:=by rw [bytesN_len];exact h
 rw [List.take_add_one,List.getElem?_eq_getElem h2,bytesN_at s k h h2];rfl
theorem bytesN_memZ (s:ByteArray) {k:Nat} (h:k < s.size):s[k].toNat∈bytesN s:=by
 have h2:k < (bytesN s).length:=by rw [bytesN_len];exact h
 rw [←bytesN_at s k h h2];exact List.getElem_mem _
set_option maxRecDepth 20000 in
set_option maxHeartbeats 2000000 in
theorem ends_any (w:World) (b:Nat) (rs:List Rn) (hb:RtS w b rs) (hl:rs.length≤1000) (B:Nat) (v:Value) (X:List ByteArray) (h:SRow w B v X) (hx:X.length≤10000) (hn:∀ s∈X,∀ k∈bytesN s,NdOk rs k) (hz:∀ s∈X,s.size≤100000) :
  Calls Tryz.prog 26 #[.pointer (some ⟨b,0,none⟩),v] w fun e w'=>(∃ y,e=.returned (.bool y)∧(y=true↔stB rs X []))∧Below w.heap.size w w':=by
 obtain ⟨xa,xc,rfl⟩:=h.form
 have hxI:(X.length:Int)≤10000:=by omega
 have HX:=hide h
 have HN:=hide hn
 have HZ:=hide hz
 have HRT:=hide hb
 have HL:=hide hl
 clear h hx hn hz hb hl
 go_enter Tryz.func26,Tryz.ntmps26
 go_wp2_with fail
 go_loopw [5] (fun ix wr=>∃ i:Nat,ix=.int .i64 (i:Int)∧Hid (i≤X.length∧Below w.heap.size w wr∧∀ j,j < i→¬tmL rs (bytesN (X.getD j ByteArray.empty)) [])) (fun ix _=>X.length - (intOf ix).toNat)
 case atStart=>exact ⟨0,rfl,Nat.zero_le _,Below.refl _ _,fun j hj=>absurd hj (Nat.not_lt_zero _)⟩
 case round =>
  rename World=>wr
  obtain ⟨i,rfl,HH⟩:=hrel
  obtain ⟨hi,hB,hall⟩:=unhide HH
  have HB:=hide hB
  have HALL:=hide hall
  by_cases hlt:i < X.length
  ·have hltI:(i:Int) < (X.length:Int):=by omega
   have HLT:=hide hlt
   obtain ⟨g,cap,he,hx⟩:=((unhide HX).below hB).at hlt
   simp only [Value.slice.injEq,true_and] at he
   obtain ⟨rfl,rfl⟩:=he
   have hmem:X.getD i ByteArray.empty∈X:=by rw [List.getD_eq_getElem?_getD,List.getElem?_eq_getElem hlt];exact List.getElem_mem _
   have HMEM:=hide hmem
   have hsz:=unhide HZ _ hmem
   have HNN:=hide (unhide HN _ hmem)
   have HSN:Hid (¬tmL rs (bytesN (X.getD i ByteArray.empty)) []→∀ j,j < i+1→¬tmL rs (bytesN (X.getD j ByteArray.empty)) []):=fun hne j hj=>by
    by_cases q:j=i
    ·subst q;exact hne
    ·exact hall j (by omega)
   have HYES:Hid (tmL rs (bytesN (X.getD i ByteArray.empty)) []→stB rs X []):=fun ht=>⟨_,hmem,ht⟩
   generalize X.getD i ByteArray.empty=s at *
   have hsI:(s.size:Int)≤100000:=by omega
   clear HH hi hB hall hlt hmem hsz
   go_wp2_with fail
   go_loopw [7,8] (fun yx qx wy=>∃ (y:Bool) (q:Nat),yx=.bool y∧qx=.int .i64 (q:Int)∧Hid (q≤s.size∧Below w.heap.size w wy∧(y=true↔∀ k∈(bytesN s).take q,LN rs k []))) (fun _ qx _=>s.size - (intOf qx).toNat)
   case atStart=>exact ⟨true,0,rfl,rfl,Nat.zero_le _,unhide HB,by simp⟩
   case round =>
    clear HB
    rename World=>wy
    obtain ⟨y,q,rfl,rfl,HH⟩:=hrel
    obtain ⟨hq,hB,hy⟩:=unhide HH
    have HB:=hide hB
    have HY:=hide hy
    by_cases hlt:q < s.size
    ·have hltI:(q:Int) < (s.size:Int):=by omega
     have HQT:=hide hlt
     have hbt:s[q].toNat < 256:=s[q].toNat_lt
     have hbI:(s[q].toNat:Int) < 256:=by omega
     obtain ⟨R,hR⟩:=unhide HNN _ (bytesN_memZ s hlt)
     have HC:=hide (empty_any rs (unhide HL) b R _ wy (RtS_below (unhide HRT) hB) hR)
     have HT:Hid ((∀ k∈(bytesN s).take (q+1),LN rs k [])↔((∀ k∈(bytesN s).take q,LN rs k [])∧nulB R=true)):=by
      rw [bytesN_takeZ s hlt]
      constructor
      ·intro h
       exact ⟨fun k hk=>h k (List.mem_append_left _ hk),(LN_nul hR).1 (h _ (List.mem_append_right _ (List.mem_singleton.2 rfl)))⟩
      ·rintro ⟨h1,h2⟩ k hk
       rcases List.mem_append.1 hk with g | g
       ·exact h1 k g
       ·simp only [List.mem_singleton] at g;subst g;exact (LN_nul hR).2 h2
     generalize nulB R=z at *
     clear HH hq hB hy hbt hR
     go_wp2_with fail
     refine (unhide HC).mono ?_
     rintro e w2 ⟨rfl,hw2⟩
     have HB2:=hide ((unhide HB).trans (hw2.mono (unhide HB).size))
     clear hw2
     cases y<;>cases z
     all_goals
      go_wp2_with fail
      go_roundw
      case rel=>exact ⟨_,q+1,rfl,by go_num,unhide HQT,unhide HB2,by rw [unhide HT,←unhide HY];simp⟩
      case measure=>have:=unhide HQT;simp [intOf];omega
    ·have hq2:q=s.size:=by omega
     subst hq2
     have HTM:Hid (y=true↔tmL rs (bytesN s) []):=by
      show _↔_
      rw [hy,tmL_nil_iff,←bytesN_len,List.take_length]
     clear HH hq hB hy hlt HY
     cases y
     ·have HNO:Hid (¬tmL rs (bytesN s) []):=fun h=>by have:=(unhide HTM).2 h;cases this
      go_wp2_with fail
      go_roundw
      case rel=>exact ⟨i+1,by go_num,unhide HLT,unhide HB,unhide HSN (unhide HNO)⟩
      case measure=>have:=unhide HLT;simp [intOf];omega
     ·have HY2:Hid (stB rs X []):=unhide HYES ((unhide HTM).1 rfl)
      go_wp2_with fail
      go_ret
      first
       | exact ⟨⟨true,rfl,⟨fun _=>unhide HY2,fun _=>rfl⟩⟩,unhide HB⟩
       | exact ⟨.inr ⟨rfl,unhide HY2⟩,unhide HB⟩
  ·have hi2:i=X.length:=by omega
   subst hi2
   have HNO:Hid (¬stB rs X []):=by
    rintro ⟨s,h1,h2⟩
    obtain ⟨j,hj,e⟩:=List.getElem_of_mem h1
    refine hall j hj ?_
    rw [List.getD_eq_getElem?_getD,List.getElem?_eq_getElem hj,Option.getD_some,e];exact h2
   clear HH hi hB hall hlt
   go_wp2_with fail
   go_ret
   first
    | exact ⟨⟨false,rfl,by simp;exact unhide HNO⟩,unhide HB⟩
    | exact ⟨.inl ⟨rfl,unhide HNO⟩,unhide HB⟩
end Go.Proofs.YtobfpgoepaeknaaGreat
