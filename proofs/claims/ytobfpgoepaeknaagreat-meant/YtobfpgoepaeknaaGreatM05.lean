/-
  judge.layer: address, classes; table.at, table.Table.Next.
  table.at, table.Table.Next; judge.layer.rows.
  judge.layer.rows: the rows of a table's states.
  judge.marked: which marks are in a sum; policies.Image: Most, Rules.
-/
import Derived.Test.YtobfpgoepaeknaaGreatM04
namespace Go.Proofs.YtobfpgoepaeknaaGreat
namespace Mc
open Go.RowKit
attribute [local go_sem ↓] Go.wp_at_zero Go.wp_at_succ
structure PresL (B:Nat) (w w':World):Prop where
 below:Below B w w'
 keep:∀ (k:Nat) (cs:Array Value) (ty:TypeId) (fr:Nat × Nat),w.heap[k]?=some (.cells cs ty fr)→ty≠166→ty≠3→w'.heap[k]?=some (.cells cs ty fr)
theorem PresL.trans {B:Nat} {a b c:World} (h:PresL B a b) (k:PresL B b c):PresL B a c:=⟨h.below.trans k.below,fun q cs ty fr h1 h2 h3=>k.keep q cs ty fr (h.keep q cs ty fr h1 h2 h3) h2 h3⟩
theorem PresL.alloc (B:Nat) (w:World) (o:Obj) (h:B≤w.heap.size):PresL B w (w.alloc o):=⟨(Below.refl _ _).alloc h _,fun k cs ty fr h1 _ _=>(Fr.ofAlloc w o).at h1 (by simp)⟩
theorem PresL.drew {B:Nat} {w w':World} (h:PresL B w w'):PresL B w w'.drew:=⟨h.below.drew,h.keep⟩
theorem TbB.presL {w w':World} {B gt:Nat} {t:TabN} (h:TbB w B gt t) (hp:PresL B w w'):TbB w' B gt t:=h.keep hp.below (fun cs hc=>hp.keep _ _ _ _ hc (by decide) (by decide))
structure LBx (w:World) (B gl:Nat) (v:Value) (ds:List Nat):Prop where
 hB:B≤gl
 heap:w.heap[gl]?=some (.cells #[v] 166 (0,0))
 row:NR w B v ds
def LB (w:World) (B gl:Nat) (ds:List Nat):Prop:=∃ v,LBx w B gl v ds
section
variable {w w' : World} {B gl : Nat} {v : Value} {ds : List Nat}
theorem LBx.lt (h:LBx w B gl v ds):gl < w.heap.size:=(Array.getElem?_eq_some_iff.1 h.heap).1
theorem LBx.alloc (h:LBx w B gl v ds) (o:Obj):LBx (w.alloc o) B gl v ds:=⟨h.hB,(Fr.ofAlloc w o).at h.heap (by simp),(Fr.ofAlloc w o).own h.row (by simp)⟩
theorem LBx.drew (h:LBx w B gl v ds):LBx w.drew B gl v ds:=⟨h.hB,h.heap,h.row⟩
theorem LBx.ne (h:LBx w B gl v ds):∀ q,v.ownBlock=some q→q≠gl:=own_off h.row h.heap (by decide)
theorem LBx.cell (h:LBx w B gl v ds):w.cell? ⟨gl,0,none⟩=some v:=by rw [cell_of_row _ _ _ _ _ _ h.heap];rfl
theorem LBx.push (h:LBx w B gl v ds) {g cap y:Nat} (hgrow:w.grownBy w' v.ownBlock) (ho:w'.ownsRow B 3 1 (.slice (some ⟨g,0,none⟩) (ds.length+1) cap) (ds.length+1) (ncs ds++[.int .i64 (y:Int)])) (hl:v.ownBlock=some g∨g=w.heap.size) :
  w'.cell? ⟨gl,0,none⟩=some v∧w'.frozen? ⟨gl,0,none⟩=false∧LBx (w'.setCell ⟨gl,0,none⟩ (.slice (some ⟨g,0,none⟩) (ds.length+1) cap)) B gl (.slice (some ⟨g,0,none⟩) (ds.length+1) cap) (ds++[y])∧PresL B w (w'.setCell ⟨gl,0,none⟩ (.slice (some ⟨g,0,none⟩) (ds.length+1) cap)):=by
 have hlt:=h.lt
 have hB:=h.hB
 have a1:w'.heap[gl]?=_:=(Fr.ofGrown hgrow).at h.heap (fun hm=>h.ne _ (Option.mem_toList.1 hm) rfl)
 have hne:g≠gl:=by
  rcases hl with e | e
  ·exact h.ne g e
  ·omega
 refine ⟨by rw [cell_of_row _ _ _ _ _ _ a1];rfl,frozen_of_row _ _ _ _ _ a1,⟨hB,by rw [heap_setCell_same _ _ _ _ _ _ a1];rfl,?_⟩,?_,fun q cs ty fr hq n1 n2=>?_⟩
 ·exact (Fr.ofSet _ _ _ _).own (NR.of ho) (fun q hq=>by
   have:g=q:=by simpa [Value.ownBlock] using hq
   rw [←this];simpa using hne)
 ·exact below_set (below_grown (Below.refl B w) hgrow (by omega) (fun q hq=>(h.row.lt q hq).1)) hB
 ·have hne1:q≠gl:=by rintro rfl;rw [h.heap] at hq;simp at hq;exact n1 hq.2.1.symm
  have hne2:q∉v.ownBlock.toList:=fun hm=>by
   rcases h.row.2 with ⟨he,_⟩ | ⟨g2,cap2,cur,he,_,hg,_⟩
   ·rw [he] at hm;simp [Value.ownBlock] at hm
   ·have e2:v.ownBlock=some g2:=by rw [he];rfl
    have:g2=q:=by have:=Option.mem_toList.1 hm;rw [e2] at this;simpa using this
    subst this
    rw [hg] at hq;simp at hq;exact n2 hq.2.1.symm
  exact (Fr.ofSet _ _ _ _).at ((Fr.ofGrown hgrow).at hq hne2) (by simpa using hne1)
end
theorem PresL.res {B:Nat} {w wr:World} (h:PresL B w wr) {g:Nat} (hg:w.heap.size≤g) (hB:B≤g) (o:Nat) (u:Value):PresL B w (wr.setCell ⟨g,o,none⟩ u) :=
 ⟨below_set h.below hB,fun k cs ty fr hk n1 n2=>(Fr.ofSet _ _ _ _).at (h.keep k cs ty fr hk n1 n2) (by have:=(Array.getElem?_eq_some_iff.1 hk).1;simp;omega)⟩
theorem LBx.res {wr:World} {B gl:Nat} {v:Value} {ds:List Nat} (h:LBx wr B gl v ds) {g:Nat} {cs:Array Value} (hbx:wr.heap[g]?=some (.cells cs 168 (0,0))) (o:Nat) (u:Value):LBx (wr.setCell ⟨g,o,none⟩ u) B gl v ds:=by
 have hne:gl≠g:=by rintro rfl;rw [h.heap] at hbx;simp at hbx
 exact ⟨h.hB,(Fr.ofSet _ _ _ _).at h.heap (by simpa using hne),(Fr.ofSet _ _ _ _).own h.row (fun q hq=>by simpa using own_off h.row hbx (by decide) q hq)⟩
set_option maxRecDepth 20000 in
theorem address_any (w:World) (B gl:Nat) (ds:List Nat) (h:LB w B gl ds) (hl:ds.length≤100000):Calls Tryz.prog 131 #[.pointer (some ⟨gl,0,none⟩)] w fun e w'=>e=.returned (.int .i64 ((32+ds.length:Nat):Int))∧w'=w:=by
 obtain ⟨v,hx⟩:=h
 obtain ⟨a,c,rfl⟩:=hx.row.form
 have c0:=hx.cell
 have hlI:(ds.length:Int)≤100000:=by omega
 clear hx hl
 go_enter Tryz.func131,Tryz.ntmps131
 go_wp2
 go_ret
 exact ⟨ret_int (by rw [Int.natCast_add];rfl),rfl⟩
theorem u8_wrap (b:Nat) (h:b < 256):IntKind.u8.wrap (b:Int)=(b:Int):=by
 unfold IntKind.wrap
 simp only [IntKind.bits,IntKind.signed]
 have h1:(b:Int) % (2 ^ 8:Int)=b:=Int.emod_eq_of_lt (by omega) (by omega)
 simp only [h1]
 simp
def clsW (t:TabN) (n:Nat):List Nat:=(List.range n).map fun b=>1+t.cl b
theorem clsW_succ (t:TabN) (n:Nat):clsW t (n+1)=clsW t n++[1+t.cl n]:=by unfold clsW;rw [List.range_succ,List.map_append];rfl
theorem clsW_len (t:TabN) (n:Nat):(clsW t n).length=n:=by unfold clsW;simp
set_option maxRecDepth 20000 in
set_option maxHeartbeats 1000000 in
theorem classes_any (w:World) (B gl gt:Nat) (t:TabN) (ds:List Nat) (h:LB w B gl ds) (ht:TbB w B gt t) (hl:ds.length≤50000) :
  Calls Tryz.prog 93 #[.pointer (some ⟨gl,0,none⟩),.pointer (some ⟨gt,0,none⟩)] w fun e w'=>e=.returned (arV (32+ds.length) (32+ds.length+256))∧PresL B w w'∧LB w' B gl (ds++clsW t 256):=by
 obtain ⟨v,hx⟩:=h
 have HSZ:Hid (B≤w.heap.size):=by have:=hx.hB;have:=hx.lt;show _≤_;omega
 have HA0:=hide (address_any _ B gl ds ⟨v,hx.alloc (Obj.cells #[.int .i64 0,.int .i64 0] 168)⟩ (by omega))
 have HP0:Hid (PresL B w (w.alloc (Obj.cells #[.int .i64 0,.int .i64 0] 168))):=PresL.alloc B w _ (unhide HSZ)
 have HX0:Hid (LB (w.alloc (Obj.cells #[.int .i64 0,.int .i64 0] 168)) B gl (ds++clsW t 0)):=by
  show LB _ _ _ _
  rw [show ds++clsW t 0=ds by simp [clsW]]
  exact ⟨v,hx.alloc _⟩
 have HBX:Hid ((w.alloc (Obj.cells #[.int .i64 0,.int .i64 0] 168)).heap[w.heap.size]?=some (Obj.cells #[.int .i64 0,.int .i64 0] 168 (0,0))):=heap_alloc_new _ _
 have HT:=hide ht
 have HL:=hide hl
 have hlI:(ds.length:Int)≤50000:=by omega
 clear hx ht hl
 go_enter Tryz.func93,Tryz.ntmps93
 go_wp2_with fail
 refine (unhide HA0).mono ?_
 rintro e w1 ⟨rfl,hww⟩
 rw [hww]
 clear hww
 go_wp2_with fail
 generalize hg4:w.heap.size=g4 at *
 have HG4:=hide hg4
 clear hg4
 generalize hwa:(w.alloc (Obj.cells #[.int .i64 0,.int .i64 0] 168))=wa at *
 clear hwa HA0
 go_loopw [6] (fun ix wr=>∃ b:Nat,ix=.int .i64 (b:Int)∧Hid (b≤256∧PresL B w wr∧LB wr B gl (ds++clsW t b)∧wr.heap[g4]?=some (Obj.cells #[.int .i64 0,.int .i64 0] 168 (0,0)))) (fun ix _=>lenLeft 256 ix)
 case atStart=>exact ⟨0,rfl,Nat.zero_le _,unhide HP0,unhide HX0,unhide HBX⟩
 case round =>
  clear HP0 HX0 HBX
  rename World=>wr
  obtain ⟨b,rfl,HH⟩:=hrel
  obtain ⟨hb,hP,⟨v,hx⟩,hbx⟩:=unhide HH
  obtain ⟨va,vc,rfl⟩:=hx.row.form
  have hdl:(ds++clsW t b).length=ds.length+b:=by rw [List.length_append,clsW_len]
  by_cases hlt:b < 256
  ·have hbI:(b:Int) < 256:=by omega
   have hwr:=u8_wrap b hlt
   have HC:=hide (Class_any wr B gt t ((unhide HT).presL hP) b hlt)
   have hcl:t.cl b < 24:=by have:=(unhide HT).ok.cl b hlt;have:=(unhide HT).ok.c2;omega
   have hclI:((t.cl b:Nat):Int) < 24:=by omega
   have c0:=hx.cell
   have hgl:=hx.lt
   have HXA:=hide (hx.alloc (Obj.cells #[.int .i64 (1+((t.cl b:Nat):Int))] 3))
   have HCE:Hid ((wr.alloc (Obj.cells #[.int .i64 (1+((t.cl b:Nat):Int))] 3)).cell? ⟨wr.heap.size,0,none⟩=some (.int .i64 ((1+t.cl b:Nat):Int))):=by show _=_;rw [new_cell rfl,Int.natCast_add];rfl
   have HPA:Hid (PresL B w (wr.alloc (Obj.cells #[.int .i64 (1+((t.cl b:Nat):Int))] 3))):=hP.trans (PresL.alloc B wr _ (by have:=hx.hB;omega))
   have HBA:Hid ((wr.alloc (Obj.cells #[.int .i64 (1+((t.cl b:Nat):Int))] 3)).heap[g4]?=some (Obj.cells #[.int .i64 0,.int .i64 0] 168 (0,0))):=(Fr.ofAlloc _ _).at hbx (by simp)
   have HLT:=hide hlt
   have HLEN:Hid ((ds++clsW t b).length≤3000000):=by have:=unhide HL;rw [hdl];show _≤_;omega
   have HBS:Hid (B≤wr.heap.size):=by have:=hx.hB;show _≤_;omega
   have HSN:Hid (ds++clsW t (b+1)=ds++clsW t b++[1+t.cl b]):=by show _=_;rw [clsW_succ,List.append_assoc]
   clear HH hb hP hx hbx hlt hcl hdl
   generalize ds++clsW t b=xs at *
   generalize t.cl b=x at *
   go_wp2_with (first
    | (go_at_call 134;refine (unhide HC).mono ?_;rintro e w' ⟨rfl,hww⟩;obtain rfl:wr=w':=hww.symm;clear hww)
    | (at_builtin;refine app1 rfl (.tmp 22) (.tmp 25) rfl B _ _ rfl (unhide HXA).row wr.heap.size (1+x) rfl (unhide HCE) (unhide HLEN) (by have:=unhide HBS;simp;omega) (wr.heap.size+1) (by simp) ?_;intro g5 cap5 w8 ho hgrow hlies hlt5;obtain ⟨c9,f9,hX9,hP9⟩:=(unhide HXA).push hgrow ho (hlies.elim Or.inl (fun e=>Or.inr (by rw [e];simp)));have HX9:=hide hX9;have HP9:=hide ((unhide HPA).trans hP9);have HB9:=hide (hP9.keep _ _ _ _ (unhide HBA) (by decide) (by decide));clear ho hgrow hlies hX9 hP9))
   go_roundw
   case rel=>exact ⟨b+1,by go_num,unhide HLT,unhide HP9,⟨_,by rw [unhide HSN];exact unhide HX9⟩,unhide HB9⟩
   case measure=>have:=unhide HLT;simp [lenLeft,intOf];omega
  ·have hb2:b=256:=by omega
   subst hb2
   have hgx:=(Array.getElem?_eq_some_iff.1 hbx).1
   have HA:=hide (address_any wr B gl _ ⟨_,hx⟩ (by rw [hdl];have:=unhide HL;omega))
   rw [hdl] at HA
   obtain ⟨b0,b1⟩:=boxA hbx
   have f0:wr.frozen? ⟨g4,0,none⟩=false:=frozen_of_row _ _ _ _ _ hbx
   have f1:wr.frozen? ⟨g4,1,none⟩=false:=frozen_of_row _ _ _ _ _ hbx
   have HP:=hide hP
   have HX:=hide hx
   have HBX:=hide hbx
   clear HH hb hP hx hbx hlt hdl
   go_wp2_with fail
   refine (unhide HA).mono ?_
   rintro e w9 ⟨rfl,hww⟩
   obtain rfl:wr=w9:=hww.symm
   clear hww
   go_wp2_with fail
   have hend:((wr.setCell ⟨g4,0,none⟩ (.int .i64 (32+(ds.length:Int)))).setCell ⟨g4,1,none⟩ (.int .i64 (32+((ds.length:Int)+256)))).heap[g4]?=some (Obj.cells #[.int .i64 (32+(ds.length:Int)),.int .i64 (32+((ds.length:Int)+256))] 168 (0,0)):=by
    rw [heap_setCell_same _ _ _ _ _ _ (heap_setCell_same _ _ _ _ _ _ (unhide HBX))];rfl
   refine bodyPost_ret (results_cell_row (p:=4) (ty:=168) rfl _ _ g4 168 _ (0,0) _ rfl hend Tryz.underlying168 rfl (by kernel_rfl)) rfl ?_
   refine ⟨?_,((unhide HP).res (Nat.le_of_eq (unhide HG4)) (unhide HSZ) _ _).res (Nat.le_of_eq (unhide HG4)) (unhide HSZ) _ _,_,((unhide HX).res (unhide HBX) _ _).res (heap_setCell_same _ _ _ _ _ _ (unhide HBX)) _ _⟩
   unfold arV
   push_cast
   rfl
end Mc
end Go.Proofs.YtobfpgoepaeknaaGreat
namespace Go.Proofs.YtobfpgoepaeknaaGreat
namespace Mc
open Go.RowKit
attribute [local go_sem ↓] Go.wp_at_zero Go.wp_at_succ
theorem app1s {ops:Array Oper} {o:Oper} {a:Act} {W:World} {K:Act→World→Prop} {Q:Exit→Act→World→Prop} {E:Prop} (hgd:o.guard=none) (s x:Operand)
  (ho:o.op=.call { callee:=.builtin .append,args:=#[s,x],argTypes:=#[37,37] }) (B:Nat) (v:Value) (xs:List Nat) (hs:a.eval s=v) (hown:NR W B v xs) (g0 y:Nat)
  (hx:a.eval x=.slice (some ⟨g0,0,none⟩) 1 1) (hc:W.cell? ⟨g0,0,none⟩=some (.int .i64 (y:Int))) (hlen:xs.length≤3000000) (hB:B≤W.heap.size) (H:Nat) (hH:W.heap.size=H)
  (h:∀ g cap w',w'.ownsRow B 3 1 (.slice (some ⟨g,0,none⟩) (xs.length+1) cap) (xs.length+1) (ncs xs++[.int .i64 (y:Int)])→W.grownBy w' v.ownBlock→(v.ownBlock=some g∨g=H)→g < w'.heap.size→K (a.put o.dst (.slice (some ⟨g,0,none⟩) (xs.length+1) cap)) w') :
  if Region.wanted o (yielded ops a.tmps)=true then Oper.wp Tryz.prog o a W K Q else E:=by
 obtain ⟨i,i0,i1,i2,i3⟩:=info_of infoI
 exact step_append_lies W hgd s x 37 ho B 3 i (.int .i64 0) 1 8 Tryz.underlying37 i0 i1 i2 i3 rfl (by decide) v xs.length (ncs xs) hs hown ⟨g0,0,none⟩ 1 1 [.int .i64 (y:Int)] hx rfl (one_cells hc) (by intro u hu;simp at hu;subst hu;rfl) (by decide) (by unfold maxLen;omega) (by omega) hB H hH h
set_option maxRecDepth 20000 in
theorem tat_any (w:World) (v:Value) (xs:List Nat) (k:Nat) (h:NR w 0 v xs) (hk:k < xs.length) (hl:xs.length≤100000):Calls Tryz.prog 71 #[v,.int .i64 (k:Int)] w fun e w'=>e=.returned (.int .i64 ((xs.getD k 0:Nat):Int))∧w'=w:=by
 obtain ⟨g,cap,rfl,hc⟩:=h.at hk
 have hkI:(k:Int) < (xs.length:Int):=by omega
 have hlI:(xs.length:Int)≤100000:=by omega
 clear h hk hl
 generalize xs.getD k 0=y at *
 go_enter Tryz.func71,Tryz.ntmps71
 go_wp2
 go_ret
 exact ⟨rfl,rfl⟩
set_option maxRecDepth 20000 in
set_option maxHeartbeats 1000000 in
theorem TNext_any (w:World) (B gt:Nat) (t:TabN) (h:TbB w B gt t) (q c:Nat) (hq:q < t.S) (hc:c < t.C):Calls Tryz.prog 138 #[.pointer (some ⟨gt,0,none⟩),.int .i64 (q:Int),.int .i64 (c:Int)] w fun e w'=>e=.returned (.int .i64 ((t.nx q c:Nat):Int))∧∃ n,w'=w.drewN n:=by
 obtain ⟨gv,nv,bs,ns,h1,h2,h3,q1,q2,hS,hg,hnl,hnx⟩:=h.ex
 obtain ⟨ga,gc,rfl⟩:=h2.form
 obtain ⟨na,nc,rfl⟩:=h3.form
 have hs2:=h.ok.s2
 have hc2:=h.ok.c2
 have c6:w.cell? ⟨gt,256,none⟩=some (.int .i64 (t.C:Int)):=by rw [cell_of_row _ _ _ _ _ _ h1];exact tbC_tail _ _ _ _ 0
 have c7:w.cell? ⟨gt,257,none⟩=some (.slice ga bs.length gc):=by rw [cell_of_row _ _ _ _ _ _ h1];exact tbC_tail _ _ _ _ 1
 have c8:w.cell? ⟨gt,258,none⟩=some (.slice na ns.length nc):=by rw [cell_of_row _ _ _ _ _ _ h1];exact tbC_tail _ _ _ _ 2
 rw [hS] at c7
 have hin:q * t.C+c < t.S * t.C:=by
  have:(q+1) * t.C≤t.S * t.C:=Nat.mul_le_mul_right _ hq
  rw [Nat.add_mul,Nat.one_mul] at this
  omega
 have hSC:t.S * t.C≤24 * 24:=Nat.mul_le_mul hs2 hc2
 have HA:Hid (∀ n,Calls Tryz.prog 71 #[.slice na ns.length nc,.int .i64 ((q * t.C+c:Nat):Int)] (w.drewN n) fun e w'=>e=.returned (.int .i64 ((t.nx q c:Nat):Int))∧w'=w.drewN n):=fun n=>by
  have:=tat_any (w.drewN n) _ ns (q * t.C+c) h3 (by omega) (by omega)
  rw [hnx q c hq hc] at this
  exact this
 have hqI:(q:Int) < (t.S:Int):=by omega
 have hcI:(c:Int) < (t.C:Int):=by omega
 have hsI:(t.S:Int)≤24:=by omega
 have hCI:(t.C:Int)≤24:=by omega
 have hm0:(q:Int) * (t.C:Int)=((q * t.C:Nat):Int):=by rw [Int.natCast_mul]
 have hm1:((q * t.C:Nat):Int)+(c:Int)=((q * t.C+c:Nat):Int):=by rw [Int.natCast_add]
 have hm2:((q * t.C+c:Nat):Int)≤576:=by omega
 have hm3:((q * t.C:Nat):Int)≤576:=by omega
 generalize q * t.C+c=k at *
 generalize q * t.C=k0 at *
 generalize t.nx q c=y at *
 clear h h1 h2 h3 q1 q2 hS hg hnl hnx hq hc hs2 hc2 hin hSC
 go_enter Tryz.func138,Tryz.ntmps138
 go_wp2_with fail
 go_quiet ((go_at_call 71;exact Calls.quiet_of_same (unhide HA _)))
 go_wp2_with fail
 go_ret
 exact ⟨rfl,_,rfl⟩
end Mc
end Go.Proofs.YtobfpgoepaeknaaGreat
namespace Go.Proofs.YtobfpgoepaeknaaGreat
namespace Mc
open Go.RowKit
attribute [local go_sem ↓] Go.wp_at_zero Go.wp_at_succ
def rowW (t:TabN) (b mark q c:Nat):List Nat:=[if t.gr q then mark else 0]++(List.range c).map fun k=>b+t.nx q k * (1+t.C)
def rowsW (t:TabN) (b mark:Nat):Nat→List Nat
 | 0=>[]
 | n+1=>rowsW t b mark n++rowW t b mark n t.C
theorem rowW_len (t:TabN) (b mark q c:Nat):(rowW t b mark q c).length=1+c:=by simp [rowW];omega
theorem rowsW_len (t:TabN) (b mark:Nat):∀ n,(rowsW t b mark n).length=n * (1+t.C)
 | 0=>by simp [rowsW]
 | n+1=>by rw [rowsW,List.length_append,rowsW_len t b mark n,rowW_len,Nat.add_mul,Nat.one_mul]
theorem rowW_succ (t:TabN) (b mark q c:Nat):rowW t b mark q (c+1)=rowW t b mark q c++[b+t.nx q c * (1+t.C)]:=by
 unfold rowW;rw [List.range_succ,List.map_append,List.append_assoc];rfl
theorem PresL.drewN {B:Nat} {w w':World} (h:PresL B w w') (n:Nat):PresL B w (w'.drewN n):=⟨⟨h.below.os,h.below.tape,h.below.output,h.below.size,h.below.block⟩,h.keep⟩
theorem LBx.drewN {w:World} {B gl:Nat} {v:Value} {ds:List Nat} (h:LBx w B gl v ds) (n:Nat):LBx (w.drewN n) B gl v ds:=⟨h.hB,h.heap,h.row⟩
set_option maxRecDepth 20000 in
set_option maxHeartbeats 2000000 in
theorem rows_any (w:World) (B gl gt:Nat) (t:TabN) (ds:List Nat) (mark:Nat) (h:LB w B gl ds) (ht:TbB w B gt t) (hl:ds.length≤50000) (hmk:mark≤1000) :
  Calls Tryz.prog 94 #[.pointer (some ⟨gl,0,none⟩),.pointer (some ⟨gt,0,none⟩),.int .i64 (mark:Int)] w fun e w'=>e=.returned (arV (32+ds.length) (32+ds.length+t.S * (1+t.C)))∧PresL B w w'∧LB w' B gl (ds++rowsW t (32+ds.length) mark t.S):=by
 obtain ⟨v,hx⟩:=h
 have HSZ:Hid (B≤w.heap.size):=by have:=hx.hB;have:=hx.lt;show _≤_;omega
 have HA0:=hide (address_any _ B gl ds ⟨v,hx.alloc (Obj.cells #[.int .i64 0,.int .i64 0] 168)⟩ (by omega))
 have HP0:Hid (PresL B w (w.alloc (Obj.cells #[.int .i64 0,.int .i64 0] 168))):=PresL.alloc B w _ (unhide HSZ)
 have HX0:Hid (LB (w.alloc (Obj.cells #[.int .i64 0,.int .i64 0] 168)) B gl (ds++rowsW t (32+ds.length) mark 0)):=by
  show LB _ _ _ _
  rw [show ds++rowsW t (32+ds.length) mark 0=ds by simp [rowsW]]
  exact ⟨v,hx.alloc _⟩
 have HBX:Hid ((w.alloc (Obj.cells #[.int .i64 0,.int .i64 0] 168)).heap[w.heap.size]?=some (Obj.cells #[.int .i64 0,.int .i64 0] 168 (0,0))):=heap_alloc_new _ _
 have HT:=hide ht
 have HL:=hide hl
 have hs2:=ht.ok.s2
 have hc2:=ht.ok.c2
 have hSI:(t.S:Int)≤24:=by omega
 have hCI:(t.C:Int)≤24:=by omega
 have HSC:Hid (t.S * (1+t.C)≤600):=Nat.le_trans (Nat.mul_le_mul hs2 (show 1+t.C≤25 by omega)) (by decide)
 have HS2:=hide hs2
 have HC2:=hide hc2
 have hb0I:((32+ds.length:Nat):Int)≤60000:=by omega
 have HDL:Hid (ds.length≤32+ds.length):=Nat.le_add_left _ _
 have HBL:Hid (32+ds.length≤60000):=by show _≤_;omega
 generalize hb0:32+ds.length=b0 at *
 have HB0:=hide hb0
 clear hx ht hl hs2 hc2 hb0
 go_enter Tryz.func94,Tryz.ntmps94
 go_wp2_with fail
 refine (unhide HA0).mono ?_
 rintro e w1 ⟨rfl,hww⟩
 rw [hww]
 clear hww
 go_wp2_with fail
 generalize hg4:w.heap.size=g4 at *
 have HG4:=hide hg4
 clear hg4
 generalize hwa:(w.alloc (Obj.cells #[.int .i64 0,.int .i64 0] 168))=wa at *
 clear hwa HA0
 go_loopw [8] (fun ix wr=>∃ q:Nat,ix=.int .i64 (q:Int)∧Hid (q≤t.S∧PresL B w wr∧LB wr B gl (ds++rowsW t b0 mark q)∧wr.heap[g4]?=some (Obj.cells #[.int .i64 0,.int .i64 0] 168 (0,0)))) (fun ix _=>lenLeft t.S ix)
 case atStart=>exact ⟨0,rfl,Nat.zero_le _,unhide HP0,unhide HX0,unhide HBX⟩
 case round =>
  clear HP0 HX0 HBX
  rename World=>wr
  obtain ⟨q,rfl,HH⟩:=hrel
  obtain ⟨hq,hP,⟨v,hx⟩,hbx⟩:=unhide HH
  obtain ⟨va,vc,rfl⟩:=hx.row.form
  have hdl:(ds++rowsW t b0 mark q).length=ds.length+q * (1+t.C):=by rw [List.length_append,rowsW_len]
  have HST:=hide (States_any wr B gt t ((unhide HT).presL hP))
  by_cases hlt:q < t.S
  ·have hqI:(q:Int) < (t.S:Int):=by omega
   have HGR:=hide (Granted_any wr B gt t ((unhide HT).presL hP) q hlt)
   have c0:=hx.cell
   have hgl:=hx.lt
   obtain ⟨f,hf,hfI⟩:∃ f:Nat,(if t.gr q then mark else 0)=f∧f≤1000:=⟨_,rfl,by split<;>omega⟩
   have HXA:=hide (hx.alloc (Obj.cells #[.int .i64 (f:Int)] 3))
   have HCE:Hid ((wr.alloc (Obj.cells #[.int .i64 (f:Int)] 3)).cell? ⟨wr.heap.size,0,none⟩=some (.int .i64 (f:Int))):=new_cell rfl
   have HPA:Hid (PresL B w (wr.alloc (Obj.cells #[.int .i64 (f:Int)] 3))):=hP.trans (PresL.alloc B wr _ (by have:=hx.hB;omega))
   have HBA:Hid ((wr.alloc (Obj.cells #[.int .i64 (f:Int)] 3)).heap[g4]?=some (Obj.cells #[.int .i64 0,.int .i64 0] 168 (0,0))):=(Fr.ofAlloc _ _).at hbx (by simp)
   have HLT:=hide hlt
   have hqc:q * (1+t.C)≤t.S * (1+t.C):=Nat.mul_le_mul_right _ hq
   have HLEN:Hid ((ds++rowsW t b0 mark q).length≤2000000):=by have:=unhide HL;have:=unhide HSC;rw [hdl];show _≤_;omega
   have HBS:Hid (B≤wr.heap.size):=by have:=hx.hB;show _≤_;omega
   have HSN:Hid (ds++rowsW t b0 mark q++[f]=ds++rowsW t b0 mark q++rowW t b0 mark q 0):=by show _=_;rw [←hf];rfl
   have HSE:Hid (ds++rowsW t b0 mark q++rowW t b0 mark q t.C=ds++rowsW t b0 mark (q+1)):=by show _=_;rw [rowsW,List.append_assoc]
   have HGF:Hid ((t.gr q=true→f=mark)∧(t.gr q=false→f=0)):=⟨fun e=>by rw [←hf,if_pos e],fun e=>by rw [←hf,e];rfl⟩
   clear HH hq hP hx hbx hlt hdl hqc hf
   generalize hxs:ds++rowsW t b0 mark q=xs at *
   clear hxs
   cases hgr:t.gr q
   all_goals
    rw [hgr] at HGR
    first
     | (have e0:f=0:=(by first | exact (unhide HGF).2 hgr | fail);subst e0)
     | (have e0:mark=f:=(by first | exact ((unhide HGF).1 hgr).symm | fail);subst e0)
    clear hgr HGF hfI
    go_wp2_with (first
     | (go_at_call 135;refine (unhide HST).mono ?_;rintro e w' ⟨rfl,hww⟩;obtain rfl:wr=w':=hww.symm;clear hww)
     | (go_at_call 136;refine (unhide HGR).mono ?_;rintro e w' ⟨rfl,hww⟩;obtain rfl:wr=w':=hww.symm;clear hww)
     | (at_builtin;refine app1 rfl (.tmp 28) (.tmp 30) rfl B _ _ rfl (unhide HXA).row wr.heap.size _ rfl (unhide HCE) (by have:=unhide HLEN;omega) (by have:=unhide HBS;simp;omega) (wr.heap.size+1) (by simp) ?_;intro g5 cap5 w8 ho hgrow hlies hlt5;obtain ⟨c9,f9,hX9,hP9⟩:=(unhide HXA).push hgrow ho (hlies.elim Or.inl (fun e=>Or.inr (by rw [e];simp)));have HX9:=hide hX9;have HP9:=hide ((unhide HPA).trans hP9);have HB9:=hide (hP9.keep _ _ _ _ (unhide HBA) (by decide) (by decide));clear ho hgrow hlies hX9 hP9))
    rename World=>w8
    have HX10:Hid (LB (w8.setCell ⟨gl,0,none⟩ (.slice (some ⟨g5,0,none⟩) (xs.length+1) cap5)) B gl (xs++rowW t b0 mark q 0)):=⟨_,by rw [←unhide HSN];exact unhide HX9⟩
    generalize w8.setCell ⟨gl,0,none⟩ (.slice (some ⟨g5,0,none⟩) (xs.length+1) cap5)=w9 at *
    clear HX9 HXA HCE HPA HBA HGR HST HBS c0 c9 f9 hgl
    go_loopw [10] (fun ix wx=>∃ c:Nat,ix=.int .i64 (c:Int)∧Hid (c≤t.C∧PresL B w wx∧LB wx B gl (xs++rowW t b0 mark q c)∧wx.heap[g4]?=some (Obj.cells #[.int .i64 0,.int .i64 0] 168 (0,0)))) (fun ix _=>lenLeft t.C ix)
    case atStart=>exact ⟨0,rfl,Nat.zero_le _,unhide HP9,unhide HX10,unhide HB9⟩
    case round =>
     clear HP9 HX10 HB9
     rename World=>wx
     obtain ⟨c,rfl,HH⟩:=hrel
     obtain ⟨hc,hP,⟨v,hx⟩,hbx⟩:=unhide HH
     obtain ⟨va2,vc2,rfl⟩:=hx.row.form
     have HCL:=hide (Classes_any wx B gt t ((unhide HT).presL hP))
     by_cases hlt:c < t.C
     ·have hcI:(c:Int) < (t.C:Int):=by omega
      have HNX:=hide (TNext_any wx B gt t ((unhide HT).presL hP) q c (unhide HLT) hlt)
      have hnx:=(unhide HT).ok.nx q c (unhide HLT) hlt
      have hnx2:t.nx q c < 24:=by have:=unhide HS2;omega
      have hnI:((t.nx q c:Nat):Int) < 24:=by omega
      have hlen:(xs++rowW t b0 mark q c).length=xs.length+(1+c):=by rw [List.length_append,rowW_len]
      have HLEN2:Hid ((xs++rowW t b0 mark q c).length≤3000000):=by have:=unhide HLEN;have:=unhide HC2;rw [hlen];show _≤_;omega
      have HSN2:Hid (xs++rowW t b0 mark q c++[b0+t.nx q c * (1+t.C)]=xs++rowW t b0 mark q (c+1)):=by show _=_;rw [rowW_succ,List.append_assoc]
      have HPx:=hide hP
      have HXx:=hide hx
      have HBx:=hide hbx
      have HLTc:=hide hlt
      have hy1:t.nx q c * (1+t.C)≤600:=by
       have:t.nx q c * (1+t.C)≤24 * 25:=Nat.mul_le_mul (by omega) (by have:=unhide HC2;omega)
       omega
      have w1':IntKind.i64.wrap (1+(t.C:Int))=1+(t.C:Int):=by
       have:=wrap_i64 (1+t.C) (by have:=unhide HC2;omega)
       rw [Int.natCast_add] at this;exact this
      have w2':IntKind.i64.wrap ((t.nx q c * (1+t.C):Nat):Int)=((t.nx q c * (1+t.C):Nat):Int):=wrap_i64 (t.nx q c * (1+t.C)) (by omega)
      have w2'':((t.nx q c:Nat):Int) * (1+(t.C:Int))=((t.nx q c * (1+t.C):Nat):Int):=by rw [Int.natCast_mul,Int.natCast_add];rfl
      have w3':IntKind.i64.wrap ((b0+t.nx q c * (1+t.C):Nat):Int)=((b0+t.nx q c * (1+t.C):Nat):Int):=wrap_i64 (b0+t.nx q c * (1+t.C)) (by have:=unhide HBL;omega)
      have w3'':(b0:Int)+((t.nx q c * (1+t.C):Nat):Int)=((b0+t.nx q c * (1+t.C):Nat):Int):=by rw [Int.natCast_add]
      have hyI:((t.nx q c * (1+t.C):Nat):Int)≤600:=by omega
      generalize xs++rowW t b0 mark q c=ys at *
      generalize b0+t.nx q c * (1+t.C)=y at *
      generalize t.nx q c * (1+t.C)=y1 at *
      generalize t.nx q c=x at *
      clear HH hc hP hx hbx hlt hnx hnx2 hlen hy1
      go_wp2_with (first
       | (go_at_call 137;refine (unhide HCL).mono ?_;rintro e w' ⟨rfl,hww⟩;obtain rfl:wx=w':=hww.symm;clear hww)
       | (go_at_call 138;refine (unhide HNX).mono ?_;rintro e w2 ⟨rfl,n,hww⟩;have hx2:LBx w2 B gl (.slice va2 ys.length vc2) ys:=(by rw [hww];exact (unhide HXx).drewN n);have hp2:PresL B w w2:=(by rw [hww];exact (unhide HPx).drewN n);have hb2:w2.heap[g4]?=some (Obj.cells #[.int .i64 0,.int .i64 0] 168 (0,0)):=(by rw [hww];exact unhide HBx);have HX2:=hide hx2;have HP2:=hide hp2;have HB2:=hide hb2;clear hww hx2 hp2 hb2))
      rename World=>w2
      have c2:=(unhide HX2).cell
      have hgl2:=(unhide HX2).lt
      have HCL2:=hide (Classes_any w2.drew B gt t ((unhide HT).presL (unhide HP2).drew))
      have HXA2:=hide ((unhide HX2).alloc (Obj.cells #[.int .i64 (y:Int)] 3)).drew
      have HCE2:Hid (((w2.alloc (Obj.cells #[.int .i64 (y:Int)] 3)).drew).cell? ⟨w2.heap.size,0,none⟩=some (.int .i64 (y:Int))):=by show _=_;rw [cell_drew];exact new_cell rfl
      have HBS2:Hid (B≤w2.heap.size):=by have:=(unhide HX2).hB;show _≤_;omega
      have HPA2:Hid (PresL B w ((w2.alloc (Obj.cells #[.int .i64 (y:Int)] 3)).drew)):=((unhide HP2).trans (PresL.alloc B w2 _ (unhide HBS2))).drew
      have HBA2:Hid (((w2.alloc (Obj.cells #[.int .i64 (y:Int)] 3)).drew).heap[g4]?=some (Obj.cells #[.int .i64 0,.int .i64 0] 168 (0,0))):=(Fr.ofAlloc _ _).at (unhide HB2) (by simp)
      clear HNX HCL HPx HXx HBx HX2 HP2 HB2
      go_region_law (first
       | (refine app1s (by rfl) _ _ (by rfl) B _ _ (by rfl) (by exact (unhide HXA2).row) w2.heap.size y (by rfl) (by exact unhide HCE2) (unhide HLEN2) (by have:=unhide HBS2;simp;omega) (w2.heap.size+1) (by simp) ?_;intro g6 cap6 w10 ho hgrow hlies hlt6;obtain ⟨c11,f11,hX11,hP11⟩:=(unhide HXA2).push hgrow ho (hlies.elim Or.inl (fun e=>Or.inr (by rw [e];simp)));have HX11:=hide hX11;have HP11:=hide ((unhide HPA2).trans hP11);have HB11:=hide (hP11.keep _ _ _ _ (unhide HBA2) (by decide) (by decide));clear ho hgrow hlies hX11 hP11)
       | (go_simp;go_at_call 137;refine (unhide HCL2).mono ?_;rintro e w' ⟨rfl,hww⟩;obtain rfl:w2.drew=w':=hww.symm;clear hww))
      all_goals
       go_wp2_with fail
       go_roundw
       case rel=>exact ⟨c+1,by go_num,unhide HLTc,unhide HP11,⟨_,by rw [←unhide HSN2];exact unhide HX11⟩,unhide HB11⟩
       case measure=>have:=unhide HLTc;simp [lenLeft,intOf];omega
     ·have hc3:c=t.C:=by omega
      subst hc3
      have HPx:=hide hP
      have HXx:Hid (LB wx B gl (ds++rowsW t b0 mark (q+1))):=⟨_,by rw [←unhide HSE];exact hx⟩
      have HBx:=hide hbx
      clear HH hc hP hx hbx hlt
      go_wp2_with (go_at_call 137;refine (unhide HCL).mono ?_;rintro e w' ⟨rfl,hww⟩;obtain rfl:wx=w':=hww.symm;clear hww)
      go_roundw
      case rel=>exact ⟨q+1,by go_num,unhide HLT,unhide HPx,unhide HXx,unhide HBx⟩
      case measure=>have:=unhide HLT;simp [lenLeft,intOf];omega
  ·have hq2:q=t.S:=by omega
   subst hq2
   have hgx:=(Array.getElem?_eq_some_iff.1 hbx).1
   have HA:=hide (address_any wr B gl _ ⟨_,hx⟩ (by rw [hdl];have:=unhide HL;have:=unhide HSC;omega))
   rw [hdl,←Nat.add_assoc,unhide HB0] at HA
   have hend2:((b0+t.S * (1+t.C):Nat):Int)≤70000:=by have:=unhide HSC;have:=unhide HBL;omega
   obtain ⟨b1,b2⟩:=boxA hbx
   have f0:wr.frozen? ⟨g4,0,none⟩=false:=frozen_of_row _ _ _ _ _ hbx
   have f1:wr.frozen? ⟨g4,1,none⟩=false:=frozen_of_row _ _ _ _ _ hbx
   have HP:=hide hP
   have HX:=hide hx
   have HBX:=hide hbx
   clear HH hq hP hx hbx hlt hdl
   generalize he0:b0+t.S * (1+t.C)=e0 at *
   have HE0:=hide he0
   clear he0
   go_wp2_with (go_at_call 135;refine (unhide HST).mono ?_;rintro e w' ⟨rfl,hww⟩;obtain rfl:wr=w':=hww.symm;clear hww)
   refine (unhide HA).mono ?_
   rintro e w9 ⟨rfl,hww⟩
   obtain rfl:wr=w9:=hww.symm
   clear hww
   go_wp2_with fail
   have hend:((wr.setCell ⟨g4,0,none⟩ (.int .i64 (b0:Int))).setCell ⟨g4,1,none⟩ (.int .i64 (e0:Int))).heap[g4]?=some (Obj.cells #[.int .i64 (b0:Int),.int .i64 (e0:Int)] 168 (0,0)):=by
    rw [heap_setCell_same _ _ _ _ _ _ (heap_setCell_same _ _ _ _ _ _ (unhide HBX))];rfl
   refine bodyPost_ret (results_cell_row (p:=6) (ty:=168) rfl _ _ g4 168 _ (0,0) _ rfl hend Tryz.underlying168 rfl (by kernel_rfl)) rfl ?_
   exact ⟨by rw [unhide HE0];rfl,((unhide HP).res (Nat.le_of_eq (unhide HG4)) (unhide HSZ) _ _).res (Nat.le_of_eq (unhide HG4)) (unhide HSZ) _ _,_,((unhide HX).res (unhide HBX) _ _).res (heap_setCell_same _ _ _ _ _ _ (unhide HBX)) _ _⟩
end Mc
end Go.Proofs.YtobfpgoepaeknaaGreat
namespace Go.Proofs.YtobfpgoepaeknaaGreat
namespace Mc
open Go.RowKit
attribute [local go_sem ↓] Go.wp_at_zero Go.wp_at_succ
theorem infoB:(Tryz.prog.info? 4).map (fun i=>(i.zero,i.size,i.bytes))=some (some (.bool false),1,1):=by kernel_rfl
theorem appB {ops:Array Oper} {rest:List Oper} {o:Oper} {a:Act} {W:World} {Q:Exit→Act→World→Prop} (hgd:o.guard=none) (s x:Operand)
  (ho:o.op=.call { callee:=.builtin .append,args:=#[s,x],argTypes:=#[45,45] }) (B:Nat) (v:Value) (xs:List Bool) (hs:a.eval s=v) (hown:BR W B v xs) (g0:Nat) (y:Bool)
  (hx:a.eval x=.slice (some ⟨g0,0,none⟩) 1 1) (hc:W.cell? ⟨g0,0,none⟩=some (.bool y)) (hlen:xs.length≤3000000) (hB:B≤W.heap.size) (H:Nat) (hH:W.heap.size=H)
  (h:∀ g cap w',BR w' B (.slice (some ⟨g,0,none⟩) (xs.length+1) cap) (xs++[y])→W.grownBy w' v.ownBlock→(v.ownBlock=some g∨g=H)→g < w'.heap.size→wpList Tryz.prog ops Q rest (a.put o.dst (.slice (some ⟨g,0,none⟩) (xs.length+1) cap)) w'):wpList Tryz.prog ops Q (o ::rest) a W:=by
 obtain ⟨i,i0,i1,i2,i3⟩:=info_of infoB
 refine wpList_append_lies W hgd s x 45 ho B 4 i (.bool false) 1 1 Tryz.underlying45 i0 i1 i2 i3 rfl (by decide) v xs.length (bcs xs) hs hown ⟨g0,0,none⟩ 1 1 [.bool y] hx rfl (one_cells hc) (by intro u hu;simp at hu;subst hu;rfl) (by decide) (by unfold maxLen;omega) (by omega) hB H hH ?_
 intro g cap w' h1 h2 h3 h4
 refine h g cap w' ?_ h2 h3 h4
 unfold BR bcs
 rw [List.length_append,List.map_append];exact h1
def bitsM:Nat→Nat→List Bool
 | _,0=>[]
 | s,m+1=>decide (s % 2=1) ::bitsM (s / 2) m
theorem bitsM_len:∀ (m s:Nat),(bitsM s m).length=m
 | 0,_=>rfl
 | m+1,s=>by rw [bitsM,List.length_cons,bitsM_len m]
set_option maxRecDepth 20000 in
set_option maxHeartbeats 1000000 in
theorem marked_any (w:World) (s0 m:Nat) (hs:s0≤1000) (hm:m≤16) :
  Calls Tryz.prog 132 #[.int .i64 (s0:Int),.int .i64 (m:Int)] w fun e w'=>∃ v,e=.returned v∧Below w.heap.size w w'∧BR w' w.heap.size v (bitsM s0 m):=by
 have hmI:(m:Int)≤16:=by omega
 have HM:=hide hm
 have H0:Hid (Below w.heap.size w (w.alloc (Obj.cells #[] 4))∧BR (w.alloc (Obj.cells #[] 4)) w.heap.size (.slice (some ⟨w.heap.size,0,none⟩) 0 0) []):=by
  refine ⟨(Below.refl _ _).alloc (Nat.le_refl _) _,?_⟩
  have h1:=World.ownsRow_made (base:=w.heap.size) (e:=4) (size:=1) w #[] 0 (by simp) (by simp) rfl
  simpa [BR,bcs] using h1
 have HS:=hide hs
 clear hm hs
 go_enter Tryz.func132,Tryz.ntmps132
 go_wp2_with fail
 go_loopw [0,5,6] (fun sx vx ix wr=>∃ (i s:Nat) (va:Option Addr) (vc:Nat) (bs:List Bool),sx=.int .i64 (s:Int)∧vx=.slice va bs.length vc∧ix=.int .i64 (i:Int)∧Hid (i≤m∧s≤1000∧bs.length=i∧Below w.heap.size w wr∧BR wr w.heap.size (.slice va bs.length vc) bs∧bs++bitsM s (m - i)=bitsM s0 m)) (fun _ _ ix _=>lenLeft m ix)
 case atStart=>exact ⟨0,s0,some ⟨w.heap.size,0,none⟩,0,[],rfl,rfl,rfl,Nat.zero_le _,unhide HS,rfl,(unhide H0).1,(unhide H0).2,by simp⟩
 case round =>
  clear H0
  rename World=>wr
  obtain ⟨i,s,va,vc,bs,rfl,rfl,rfl,HH⟩:=hrel
  obtain ⟨hi,hs,hbl,hBw,hR,he⟩:=unhide HH
  by_cases hlt:i < m
  ·have hiI:(i:Int) < (m:Int):=by omega
   have hsI:(s:Int)≤1000:=by omega
   have e1:(s:Int) % 2=((s % 2:Nat):Int):=by omega
   have e2:(s:Int) / 2=((s / 2:Nat):Int):=by omega
   have HBW:=hide hBw
   have HLT:=hide hlt
   have HBL:=hide hbl
   have hr2:s % 2=0∨s % 2=1:=by omega
   have HSN:Hid (bs++[decide (s % 2=1)]++bitsM (s / 2) (m - (i+1))=bitsM s0 m):=by
    show _=_
    rw [←he,show m - i=(m - (i+1))+1 by omega,bitsM,List.append_assoc];rfl
   have HS2:Hid (s / 2≤1000):=by show _≤_;omega
   have HRA:=hide (fun (y:Bool)=>((Fr.ofAlloc wr (Obj.cells #[.bool y] 4)).own hR (by simp):(wr.alloc (Obj.cells #[.bool y] 4)).ownsRow _ _ _ _ _ _))
   have HSZ:Hid (w.heap.size≤wr.heap.size):=hBw.size
   have HLEN:Hid (bs.length≤3000000):=by have:=unhide HM;show _≤_;omega
   have HRL:Hid (∀ q,(Value.slice va bs.length vc).ownBlock=some q→w.heap.size≤q):=fun q hq=>(hR.lt q hq).1
   generalize hs2:s / 2=s2 at *
   clear HH hi hs hbl hBw hR he hlt hs2
   rcases hr2 with hr | hr
   all_goals
    rw [hr] at e1 HSN
    clear hr
    go_wp2_with (at_builtin;refine appB rfl (.tmp 13) (.tmp 17) rfl w.heap.size _ bs rfl (unhide HRA _) wr.heap.size _ rfl (new_cell rfl) (unhide HLEN) (by have:=unhide HSZ;simp;omega) (wr.heap.size+1) (by simp) ?_;intro g5 cap5 w8 ho hgrow hlies hlt5;have HO:=hide ho;have HBW8:=hide (below_grown ((unhide HBW).alloc (unhide HSZ) _) hgrow (by have:=unhide HSZ;simp;omega) (fun q hq=>unhide HRL q hq));clear ho hgrow hlies)
    go_roundw
    case rel=>exact ⟨i+1,s2,some ⟨g5,0,none⟩,cap5,bs++[_],rfl,by simp,by go_num,unhide HLT,unhide HS2,by simp [unhide HBL],unhide HBW8,by simpa using unhide HO,by simpa using unhide HSN⟩
    case measure=>have:=unhide HLT;simp [lenLeft,intOf];omega
  ·have hi2:i=m:=by omega
   subst hi2
   have HR:Hid (BR wr w.heap.size (.slice va bs.length vc) (bitsM s0 i)):=by
    show BR _ _ _ _
    rw [Nat.sub_self] at he
    have e:bs=bitsM s0 i:=by rw [←he];simp [bitsM]
    rw [←e];exact hR
   have HBW:=hide hBw
   clear HH hi hs hbl hBw hR he hlt
   go_wp2_with fail
   go_ret
   exact ⟨_,rfl,unhide HBW,unhide HR⟩
structure ImB (w:World) (gi:Nat) (N:Nat) (f:ByteArray) (ta:Option Addr) (m tc:Nat):Prop where
 heap:w.heap[gi]?=some (.cells #[.int .i64 (N:Int),.string f,.slice ta m tc] 76 (0,0))
theorem ImB.below {w w':World} {gi N m tc:Nat} {f:ByteArray} {ta:Option Addr} {B:Nat} (h:ImB w gi N f ta m tc) (hb:Below B w w') (hg:gi < B):ImB w' gi N f ta m tc:=⟨(hb.block _ hg).trans h.heap⟩
set_option maxRecDepth 20000 in
theorem Most_any (w:World) (gi N m tc:Nat) (f:ByteArray) (ta:Option Addr) (h:ImB w gi N f ta m tc):Calls Tryz.prog 54 #[.pointer (some ⟨gi,0,none⟩)] w fun e w'=>e=.returned (.int .i64 (N:Int))∧w'=w:=by
 have c0:w.cell? ⟨gi,0,none⟩=some (.int .i64 (N:Int)):=by rw [cell_of_row _ _ _ _ _ _ h.heap];rfl
 clear h
 go_enter Tryz.func54,Tryz.ntmps54
 go_wp2
 go_ret
 exact ⟨rfl,rfl⟩
set_option maxRecDepth 20000 in
theorem Rules_any (w:World) (gi N m tc:Nat) (f:ByteArray) (ta:Option Addr) (h:ImB w gi N f ta m tc):Calls Tryz.prog 91 #[.pointer (some ⟨gi,0,none⟩)] w fun e w'=>e=.returned (.int .i64 (m:Int))∧w'=w:=by
 have c0:w.cell? ⟨gi,2,none⟩=some (.slice ta m tc):=by rw [cell_of_row _ _ _ _ _ _ h.heap];rfl
 clear h
 go_enter Tryz.func91,Tryz.ntmps91
 go_wp2
 go_ret
 exact ⟨rfl,rfl⟩
end Mc
end Go.Proofs.YtobfpgoepaeknaaGreat
