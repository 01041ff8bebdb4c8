/-
  The document's reader of formulas and the program's agree; veilref.step, veilref.granted.
  veilref.Read.
  The law Policies.
  The look over a text: among, digit, hex, outside, inside, goes.
-/
import Derived.Test.YtobfpgoepaeknaaGreatPO23
import Derived.Test.YtobfpgoepaeknaaGreatPO21
import Derived.Test.YtobfpgoepaeknaaGreatPO07
import Derived.Test.YtobfpgoepaeknaaGreatPO04
namespace Go.Proofs.YtobfpgoepaeknaaGreat
namespace Mc
open Go.RowKit
attribute [local go_sem ↓] Go.wp_at_zero Go.wp_at_succ
def tblX (x:ByteArray) (p:Nat):ByteArray:=x.extract p (p+tsz x p)
end Mc
end Go.Proofs.YtobfpgoepaeknaaGreat
namespace Go.Proofs.YtobfpgoepaeknaaGreat
namespace Mc
open Go.RowKit
theorem infoSt:(Tryz.prog.info? 9).map (fun i=>(i.zero,i.size,i.bytes))=some (some (.string ⟨#[]⟩),1,16):=by kernel_rfl
theorem infoVi:(Tryz.prog.info? 111).map (·.size)=some 3:=by kernel_rfl
def scs (xs:List ByteArray):List Value:=xs.map .string
def SR (w:World) (B:Nat) (v:Value) (xs:List ByteArray):Prop:=w.ownsRow B 9 1 v xs.length (scs xs)
theorem SR.of {w:World} {B:Nat} {v:Value} {xs:List ByteArray} {y:ByteArray} (h:w.ownsRow B 9 1 v (xs.length+1) (scs xs++[.string y])):SR w B v (xs++[y]):=by
 unfold SR scs;rw [List.length_append,List.map_append];exact h
theorem appS {ops:Array Oper} {o:Oper} {a:Act} {W:World} {K:Act→World→Prop} {Q:Exit→Act→World→Prop} {E:Prop} (hgd:o.guard=none) (s x:Operand)
  (ho:o.op=.call { callee:=.builtin .append,args:=#[s,x],argTypes:=#[60,60] }) (B:Nat) (v:Value) (xs:List ByteArray) (hs:a.eval s=v) (hown:SR W B v xs) (g0:Nat) (y:ByteArray)
  (hx:a.eval x=.slice (some ⟨g0,0,none⟩) 1 1) (hc:W.cell? ⟨g0,0,none⟩=some (.string y)) (hlen:xs.length≤3000000) (hB:B≤W.heap.size) (H:Nat) (hH:W.heap.size=H)
  (h:∀ g cap w',w'.ownsRow B 9 1 (.slice (some ⟨g,0,none⟩) (xs.length+1) cap) (xs.length+1) (scs xs++[.string y])→W.grownBy w' v.ownBlock→(v.ownBlock=some g∨g=H)→g < w'.heap.size→K (a.put o.dst (.slice (some ⟨g,0,none⟩) (xs.length+1) cap)) w') :
  if Region.wanted o (yielded ops a.tmps)=true then Oper.wp Tryz.prog o a W K Q else E:=by
 obtain ⟨i,i0,i1,i2,i3⟩:=info_of infoSt
 exact step_append_lies W hgd s x 60 ho B 9 i (.string ⟨#[]⟩) 1 16 Tryz.underlying60 i0 i1 i2 i3 rfl (by decide) v xs.length (scs xs) hs hown ⟨g0,0,none⟩ 1 1 [.string y] hx rfl (one_cells hc) (by intro u hu;simp at hu;subst hu;rfl) (by decide) (by unfold maxLen;omega) (by omega) hB H hH h
structure ViI (B g:Nat) (w wr:World) (N:Nat) (f:ByteArray) (ta:Option Addr) (tc:Nat) (ss:List ByteArray):Prop where
 below:Below B w wr
 hB:B≤g
 im:wr.heap[g]?=some (.cells #[.int .i64 (N:Int),.string f,.slice ta ss.length tc] 111 (0,0))
 row:SR wr B (.slice ta ss.length tc) ss
section
variable {B g : Nat} {w wr w2 : World} {N : Nat} {f : ByteArray} {ta : Option Addr} {tc : Nat} {ss : List ByteArray}
theorem ViI.lt (h:ViI B g w wr N f ta tc ss):g < wr.heap.size:=(Array.getElem?_eq_some_iff.1 h.im).1
theorem ViI.le (h:ViI B g w wr N f ta tc ss):B≤wr.heap.size:=by have:=h.lt;have:=h.hB;omega
theorem ViI.drew (h:ViI B g w wr N f ta tc ss):ViI B g w wr.drew N f ta tc ss:=⟨h.below.drew,h.hB,h.im,h.row⟩
theorem ViI.alloc (h:ViI B g w wr N f ta tc ss) (o:Obj):ViI B g w (wr.alloc o) N f ta tc ss:=⟨h.below.alloc h.le _,h.hB,(Fr.ofAlloc wr o).at h.im (by simp),(Fr.ofAlloc wr o).own h.row (by simp)⟩
theorem ViI.push (h:ViI B g w wr N f ta tc ss) {g5 cap:Nat} {y:ByteArray} (hgrow:wr.grownBy w2 (.slice ta ss.length tc:Value).ownBlock) (ho:w2.ownsRow B 9 1 (.slice (some ⟨g5,0,none⟩) (ss.length+1) cap) (ss.length+1) (scs ss++[.string y])) :
  w2.cell? ⟨g,2,none⟩=some (.slice ta ss.length tc)∧w2.frozen? ⟨g,2,none⟩=false∧ViI B g w (w2.setCell ⟨g,2,none⟩ (.slice (some ⟨g5,0,none⟩) (ss.length+1) cap)) N f (some ⟨g5,0,none⟩) cap (ss++[y]):=by
 have e2:=own_off h.row h.im (by decide)
 have g2:w2.heap[g]?=_:=(Fr.ofGrown hgrow).at h.im (fun hm=>e2 _ (Option.mem_toList.1 hm) rfl)
 refine ⟨by rw [cell_of_row _ _ _ _ _ _ g2];rfl,frozen_of_row _ _ _ _ _ g2,below_set (below_grown h.below hgrow h.le (fun q hq=>(h.row.lt q hq).1)) h.hB,h.hB,by rw [heap_setCell_same _ _ _ _ _ _ g2,List.length_append];rfl,?_⟩
 have:SR w2 B (.slice (some ⟨g5,0,none⟩) (ss++[y]).length cap) (ss++[y]):=by rw [List.length_append];exact SR.of ho
 exact (Fr.ofSet _ _ _ _).own this (fun q hq=>by simpa using own_off this g2 (by decide) q hq)
end
def RdA (w':World) (B:Nat) (x:ByteArray) (e:Ending):Prop :=
 (ImOk x∧∃ g tc,B≤g∧g < w'.heap.size∧e=.returned (.tuple #[.agg #[.int .i64 ((bt x 2:Nat):Int),.string (imF x),.slice (some ⟨g,0,none⟩) (bt x 3) tc],.bool true])∧∀ i,i < bt x 3→w'.cell? ⟨g,i,none⟩=some (.string (tblX x (tpos x (5+bt x 4) i)))) ∨
 (¬ImOk x∧∃ (N:Int) (f:ByteArray) (ta:Option Addr) (n tc:Nat),e=.returned (.tuple #[.agg #[.int .i64 N,.string f,.slice ta n tc],.bool false]))
theorem below2 (w:World) (a b:Obj):Below w.heap.size w ((w.alloc a).alloc b):=((Below.refl _ _).alloc (Nat.le_refl _) _).alloc (by simp) _
theorem fpl_none {o:Option Nat}:(o=none∧fpl o=-1)∨(o≠none∧0≤fpl o):=by
 cases o with
 | none=>exact .inl ⟨rfl,rfl⟩
 | some k=>exact .inr ⟨by simp,by show (0:Int)≤(k:Int);omega⟩
section
attribute [local go_sem ↓] Go.wp_at_zero Go.wp_at_succ
set_option maxRecDepth 20000 in
set_option maxHeartbeats 4000000 in
theorem VRead_any (w:World) (x:ByteArray) (hx:x.size≤9223372036854775807) :
  Calls Tryz.prog 49 #[.string x] w fun e w'=>Below w.heap.size w w'∧RdA w' w.heap.size x e:=by
 have hxI:(x.size:Int)≤9223372036854775807:=by omega
 by_cases h5:x.size < 5
 ·have hI:(x.size:Int) < 5:=by omega
  have HF:Hid (¬ImOk x):=fun h=>by have:=h.len;omega
  clear h5 hx
  go_enter Tryz.func49,Tryz.ntmps49
  go_wp2_with fail
  exact bodyPost_ret (res_row_tmp (p:=2) (u:=3) (ty:=111) rfl _ _ w.heap.size 111 _ (0,0) _ rfl (heap_alloc2_old _ _ _) Tryz.underlying111 rfl (by exact infoVi) _ rfl) rfl ⟨below2 _ _ _,.inr ⟨unhide HF,_,_,_,_,_,rfl⟩⟩
 ·have hI:(5:Int)≤(x.size:Int):=by omega
  have l0:0 < x.size:=by omega
  have l1:1 < x.size:=by omega
  have b0:=bt_at x 0
  have b1:=bt_at x 1
  have b0I:((bt x 0:Nat):Int) < 256:=by have:=bt_le x 0;omega
  have b1I:((bt x 1:Nat):Int) < 256:=by have:=bt_le x 1;omega
  have hvp:(¬((bt x 0:Nat):Int)=86∧bt x 0≠86)∨(bt x 0=86∧¬((bt x 1:Nat):Int)=80∧bt x 1≠80)∨(bt x 0=86∧bt x 1=80):=by omega
  rcases hvp with ⟨i1,i2⟩ | ⟨i0,i1,i2⟩ | ⟨i0,i1⟩
  ·have HF:Hid (¬ImOk x):=fun h=>i2 h.b0
   have i3:(((bt x 0:Nat):Int) != 86)=true:=bne_iff_ne.2 i1
   clear h5 hx i2
   generalize bt x 0=v0 at *
   go_enter Tryz.func49,Tryz.ntmps49
   go_wp2_with fail
   exact bodyPost_ret (res_row_tmp (p:=2) (u:=3) (ty:=111) rfl _ _ w.heap.size 111 _ (0,0) _ rfl (heap_alloc2_old _ _ _) Tryz.underlying111 rfl (by exact infoVi) _ rfl) rfl ⟨below2 _ _ _,.inr ⟨unhide HF,_,_,_,_,_,rfl⟩⟩
  ·have HF:Hid (¬ImOk x):=fun h=>i2 h.b1
   rw [i0] at b0
   have i3:(((bt x 1:Nat):Int) != 80)=true:=bne_iff_ne.2 i1
   clear h5 hx i2 i0 b0I
   generalize bt x 1=v1 at *
   go_enter Tryz.func49,Tryz.ntmps49
   go_wp2_with fail
   exact bodyPost_ret (res_row_tmp (p:=2) (u:=3) (ty:=111) rfl _ _ w.heap.size 111 _ (0,0) _ rfl (heap_alloc2_old _ _ _) Tryz.underlying111 rfl (by exact infoVi) _ rfl) rfl ⟨below2 _ _ _,.inr ⟨unhide HF,_,_,_,_,_,rfl⟩⟩
  have HV0:=hide i0
  have HV1:=hide i1
  rw [i0] at b0
  rw [i1] at b1
  clear i0 i1 b0I b1I
  have l2:2 < x.size:=by omega
  have l3:3 < x.size:=by omega
  have l4:4 < x.size:=by omega
  have b2:=bt_at x 2
  have b3:=bt_at x 3
  have b4:=bt_at x 4
  have b2I:((bt x 2:Nat):Int) < 256:=by have:=bt_le x 2;omega
  have b3I:((bt x 3:Nat):Int) < 256:=by have:=bt_le x 3;omega
  have b4I:((bt x 4:Nat):Int) < 256:=by have:=bt_le x 4;omega
  obtain ⟨N,hN⟩:∃ N,bt x 2=N:=⟨_,rfl⟩
  obtain ⟨r,hr⟩:∃ r,bt x 3=r:=⟨_,rfl⟩
  obtain ⟨F,hF⟩:∃ F,bt x 4=F:=⟨_,rfl⟩
  rw [hN] at b2 b2I
  rw [hr] at b3 b3I
  rw [hF] at b4 b4I
  have e5:(5:Int)+(F:Int)=((5+F:Nat):Int):=by omega
  have w5:=wrap_i64 (5+F) (by omega)
  have n5:(((5+F:Nat):Int)).toNat=5+F:=by omega
  have hsc:(16 < (N:Int))∨((N:Int)≤16∧(r:Int) < 1)∨((N:Int)≤16∧1≤(r:Int)∧4 < (r:Int))∨((N:Int)≤16∧1≤(r:Int)∧(r:Int)≤4∧(F:Int) < 1)∨((N:Int)≤16∧1≤(r:Int)∧(r:Int)≤4∧1≤(F:Int)∧40 < (F:Int))∨((N:Int)≤16∧1≤(r:Int)∧(r:Int)≤4∧1≤(F:Int)∧(F:Int)≤40∧(x.size:Int) < ((5+F:Nat):Int))∨((N:Int)≤16∧1≤(r:Int)∧(r:Int)≤4∧1≤(F:Int)∧(F:Int)≤40∧((5+F:Nat):Int)≤(x.size:Int)):=by omega
  rcases hsc with i1 | ⟨i1,i2⟩ | ⟨i1,i2,i3⟩ | ⟨i1,i2,i3,i4⟩ | ⟨i1,i2,i3,i4,i5⟩ | ⟨i1,i2,i3,i4,i5,i6⟩ | ⟨i1,i2,i3,i4,i5,i6⟩
  iterate 6
   ·have HF:Hid (¬ImOk x):=fun h=>by have:=h.n;have:=h.r1;have:=h.r2;have:=h.fl;have:=h.f1;have:=h.f2;omega
    clear h5 hx hN hr hF
    generalize 5+F=y at *
    go_enter Tryz.func49,Tryz.ntmps49
    go_wp2_with fail
    exact bodyPost_ret (res_row_tmp (p:=2) (u:=3) (ty:=111) rfl _ _ w.heap.size 111 _ (0,0) _ rfl (heap_alloc2_old _ _ _) Tryz.underlying111 rfl (by exact infoVi) _ rfl) rfl ⟨below2 _ _ _,.inr ⟨unhide HF,_,_,_,_,_,rfl⟩⟩
  have hy0:(5:Int)≤((5+F:Nat):Int):=by omega
  have himf:imF x=x.extract 5 (5+F):=by unfold imF;rw [hF]
  have hfs:(x.extract 5 (5+F)).size=F:=by rw [ByteArray.size_extract];omega
  have HFP:=hide (fun W=>formPlace_any W (x.extract 5 (5+F)) r (by omega) (by omega))
  have hfp:=fpl_none (o:=fscan r (x.extract 5 (5+F)) (x.extract 5 (5+F)).size 0 0 0)
  have HIM:Hid (ImOk x↔fscan r (x.extract 5 (5+F)) (x.extract 5 (5+F)).size 0 0 0=none∧TsOk x (5+F) r):=by
   constructor
   ·intro h
    have h1:=h.fm
    have h2:=h.ts
    rw [himf,hr] at h1
    rw [hF,hr] at h2
    exact ⟨h1,h2⟩
   ·rintro ⟨h1,h3⟩
    exact ⟨by omega,unhide HV0,unhide HV1,by omega,by omega,by omega,by omega,by omega,by omega,by rw [himf,hr];exact h1,by rw [hF,hr];exact h3⟩
  have HAN:Hid (bt x 2=N∧imF x=x.extract 5 (5+F)∧bt x 3=r∧5+bt x 4=5+F):=⟨hN,himf,hr,by rw [hF]⟩
  have HP:Hid (5+F≤x.size∧5+F≤45):=⟨by omega,by omega⟩
  have HRR:Hid (1≤r∧r≤4):=⟨by omega,by omega⟩
  have HX:=hide hx
  clear h5 hx hN hr hF himf hfs HV0 HV1
  generalize hy:5+F=y at *
  go_enter Tryz.func49,Tryz.ntmps49
  go_wp2_with fail
  refine (unhide HFP _).mono ?_
  rintro e w' ⟨rfl,hww⟩
  rw [hww]
  clear hww HFP
  rcases hfp with ⟨hf1,hf2⟩ | ⟨hf1,hf2⟩
  case inr =>
   have HF:Hid (¬ImOk x):=fun h=>hf1 ((unhide HIM).1 h).1
   clear hf1
   generalize fpl (fscan r (x.extract 5 y) (x.extract 5 y).size 0 0 0)=fv at *
   go_wp2_with fail
   exact bodyPost_ret (res_row_tmp (p:=2) (u:=3) (ty:=111) rfl _ _ w.heap.size 111 _ (0,0) _ rfl (heap_alloc2_old _ _ _) Tryz.underlying111 rfl (by exact infoVi) _ rfl) rfl ⟨below2 _ _ _,.inr ⟨unhide HF,_,_,_,_,_,rfl⟩⟩
  have HF1:=hide hf1
  rw [hf2]
  clear hf1 hf2
  generalize x.extract 5 y=fm at *
  have HV:Hid (ViI (w.heap.size+1) (w.heap.size+1) (w.alloc (.cells #[.int .i64 0,.string ⟨#[]⟩,.slice none 0 0] 111)) ((w.alloc (.cells #[.int .i64 0,.string ⟨#[]⟩,.slice none 0 0] 111)).alloc (.cells #[.int .i64 (N:Int),.string fm,.slice none 0 0] 111)) N fm none 0 []):=by
   refine ⟨?_,Nat.le_refl _,heap_alloc2_new w _ _,World.ownsRow_nil _ _ _ _⟩
   have h:Below (w.alloc (.cells #[.int .i64 0,.string ⟨#[]⟩,.slice none 0 0] 111)).heap.size _ _:=(Below.refl _ (w.alloc (.cells #[.int .i64 0,.string ⟨#[]⟩,.slice none 0 0] 111))).alloc (Nat.le_refl _) (.cells #[.int .i64 (N:Int),.string fm,.slice none 0 0] 111)
   simpa using h
  have HRC:Hid ((w.alloc (.cells #[.int .i64 0,.string ⟨#[]⟩,.slice none 0 0] 111)).heap[w.heap.size]?=some (.cells #[.int .i64 0,.string ⟨#[]⟩,.slice none 0 0] 111 (0,0))):=heap_alloc_new _ _
  have HB1:Hid (Below w.heap.size w (w.alloc (.cells #[.int .i64 0,.string ⟨#[]⟩,.slice none 0 0] 111))):=(Below.refl _ _).alloc (Nat.le_refl _) _
  go_wp2_with fail
  generalize (w.alloc (.cells #[.int .i64 0,.string ⟨#[]⟩,.slice none 0 0] 111)).alloc (.cells #[.int .i64 (N:Int),.string fm,.slice none 0 0] 111)=w2 at *
  generalize w.alloc (.cells #[.int .i64 0,.string ⟨#[]⟩,.slice none 0 0] 111)=w1 at *
  generalize hH1:w.heap.size+1=H1 at *
  have HH1:=hide hH1
  clear hH1
  go_loopw [8,9] (fun ax kx wr=>∃ (i:Nat) (ta:Option Addr) (tc:Nat) (ss:List ByteArray),ax=.int .i64 ((tpos x y i:Nat):Int)∧kx=.int .i64 (i:Int)∧Hid (i≤r∧ss=(List.range i).map (fun j=>tblX x (tpos x y j))∧(∀ j,j < i→TOk x (tpos x y j))∧ViI H1 H1 w1 wr N fm ta tc ss)) (fun _ kx _=>lenLeft r kx)
  case atStart=>exact ⟨0,none,0,[],rfl,rfl,Nat.zero_le _,rfl,fun j hj=>by omega,unhide HV⟩
  case round =>
   clear HV
   rename World=>wr
   obtain ⟨i,ta,tc,ss,rfl,rfl,HH⟩:=hrel
   obtain ⟨hir,hss,hok,hI⟩:=unhide HH
   clear HH
   have hrc:wr.heap[w.heap.size]?=_:=(hI.below.block _ (by have:=unhide HH1;omega)).trans (unhide HRC)
   have HRW:=hide hrc
   have HBW:Hid (Below w.heap.size w wr):=(unhide HB1).trans (hI.below.mono (by have:=unhide HH1;omega))
   have y0:wr.cell? ⟨w.heap.size,0,none⟩=some (.int .i64 0):=by rw [cell_of_row _ _ _ _ _ _ hrc];rfl
   have z0:wr.frozen? ⟨w.heap.size,0,none⟩=false:=frozen_of_row _ _ _ _ _ hrc
   have y1:wr.cell? ⟨w.heap.size,1,none⟩=some (.string ⟨#[]⟩):=by rw [cell_of_row _ _ _ _ _ _ hrc];rfl
   have z1:wr.frozen? ⟨w.heap.size,1,none⟩=false:=frozen_of_row _ _ _ _ _ hrc
   have y2:wr.cell? ⟨w.heap.size,2,none⟩=some (.slice none 0 0):=by rw [cell_of_row _ _ _ _ _ _ hrc];rfl
   have z2:wr.frozen? ⟨w.heap.size,2,none⟩=false:=frozen_of_row _ _ _ _ _ hrc
   have c0:wr.cell? ⟨H1,0,none⟩=some (.int .i64 (N:Int)):=by rw [cell_of_row _ _ _ _ _ _ hI.im];rfl
   have c1:wr.cell? ⟨H1,1,none⟩=some (.string fm):=by rw [cell_of_row _ _ _ _ _ _ hI.im];rfl
   have c2:wr.cell? ⟨H1,2,none⟩=some (.slice ta ss.length tc):=by rw [cell_of_row _ _ _ _ _ _ hI.im];rfl
   have hpl:tpos x y i≤x.size:=tpos_le (unhide HP).1 i hok
   have hpb:=tpos_bound i hok
   have hpb2:tpos x y i≤4000:=by have:=(unhide HP).2;have:=(unhide HRR).2;omega
   have hpI:((tpos x y i:Nat):Int)≤4000:=by omega
   have hlH:H1 < wr.heap.size:=hI.lt
   by_cases hlt:i < r
   ·have hltI:(i:Int) < (r:Int):=by omega
    have HTS:=hide (tableSize_any wr x (tpos x y i) (unhide HX) hpl (by omega))
    have HI:=hide hI
    have HSS:=hide hss
    have HOKJ:=hide hok
    have HLT:=hide hlt
    have HNXT:Hid (tpos x y i+tsz x (tpos x y i)=tpos x y (i+1)):=rfl
    have HTB:Hid (x.extract (tpos x y i) (tpos x y i+tsz x (tpos x y i))=tblX x (tpos x y i)):=rfl
    have HPL:=hide hpl
    clear hir hss hok hI hlt hpl hpb hrc
    generalize hpe:tpos x y i=p at *
    have HPE:=hide hpe
    clear hpe
    go_wp2_with fail
    refine (unhide HTS).mono ?_
    rintro e w' ⟨⟨n,rfl,hn⟩,hww⟩
    obtain rfl:wr=w':=hww.symm
    clear hww HTS
    rcases hn with ⟨hto,rfl⟩ | ⟨hno,rfl⟩
    ·have HTO:=hide hto
     have hn1:(((tsz x p:Nat):Int) == 0)=false:=beq_eq_false_iff_ne.2 (by have:=tsz_pos x p;omega)
     have hn2:((tsz x p:Nat):Int)≤858:=by have:=hto.tsz_le;omega
     have e1:(p:Int)+((tsz x p:Nat):Int)=((p+tsz x p:Nat):Int):=by omega
     have w1':=wrap_i64 (p+tsz x p) (by have:=hto.tsz_le;omega)
     have g1:(p:Int)≤((p+tsz x p:Nat):Int):=by omega
     have g2:((p+tsz x p:Nat):Int)≤(x.size:Int):=by have:=hto.size;omega
     have g3:(0:Int)≤(p:Int):=by omega
     have m1:((p:Int)).toNat=p:=by omega
     have m2:(((p+tsz x p:Nat):Int)).toNat=p+tsz x p:=by omega
     have HTB2:Hid (x.extract p (p+tsz x p)=tblX x p):=unhide HTB
     have HXA:=hide ((unhide HI).alloc (Obj.cells #[.string (x.extract p (p+tsz x p))] 9)).drew
     have HCE:Hid (((wr.alloc (Obj.cells #[.string (x.extract p (p+tsz x p))] 9)).drew).cell? ⟨wr.heap.size,0,none⟩=some (.string (x.extract p (p+tsz x p)))):=by show _=_;rw [cell_drew];exact new_cell rfl
     have HLEN:Hid (ss.length≤3000000):=by show _≤_;rw [unhide HSS];have:=(unhide HRR).2;have:=unhide HLT;simp;omega
     clear hto HTB y0 y1 y2 z0 z1 z2 c0 c1
     generalize hpn:p+tsz x p=pn at *
     generalize tsz x p=n at *
     go_wp2_with fail
     go_region_law (refine appS (by rfl) _ _ (by rfl) H1 _ ss (by rfl) (by exact (unhide HXA).row) wr.heap.size _ (by rfl) (by exact unhide HCE) (unhide HLEN) (by simp;omega) (wr.heap.size+1) (by simp) ?_;intro g5 cap5 w8 ho hgrow hlies hlt5;obtain ⟨c9,f9,hP9⟩:=(unhide HXA).push hgrow ho;have HP9:=hide hP9;clear ho hgrow hlies hP9)
     all_goals
      go_wp2_with fail
      go_roundw
      case rel=>exact ⟨i+1,_,_,_,by rw [←unhide HNXT],by go_num,unhide HLT,by rw [map_snoc,←unhide HSS,unhide HTB2,unhide HPE],fun j hj=>(by
       by_cases e:j=i
       ·rw [e,unhide HPE];exact unhide HTO
       ·exact unhide HOKJ j (by omega)),unhide HP9⟩
      case measure=>have:=unhide HLT;simp [lenLeft,intOf];omega
    ·have HF:Hid (¬ImOk x):=fun h=>hno (by rw [←unhide HPE];exact ((unhide HIM).1 h).2.1 i (unhide HLT))
     clear hno HI
     go_wp2_with fail
     exact bodyPost_ret (res_row_tmp (p:=2) (u:=3) (ty:=111) rfl _ _ w.heap.size 111 _ (0,0) _ rfl (set3_heap (unhide HRW) _ _ _) Tryz.underlying111 rfl infoVi _ rfl) rfl ⟨(set3_fr _ w.heap.size _ _ _).belowOf (unhide HBW) (unhide HBW).size (Nat.le_refl _),.inr ⟨unhide HF,_,_,_,_,_,rfl⟩⟩
   ·have hir2:i=r:=by omega
    subst hir2
    have hltI:¬(i:Int) < (i:Int):=by omega
    by_cases hE:tpos x y i=x.size
    ·have HIO:Hid (ImOk x):=(unhide HIM).2 ⟨unhide HF1,hok,hE⟩
     have hE2:(((tpos x y i:Nat):Int) == (x.size:Int))=true:=by rw [hE];exact beq_self_eq_true _
     have hsl:ss.length=i:=by rw [hss];simp
     obtain ⟨g0,cap0,he⟩:=own_form hI.row (by rw [hsl];exact (unhide HRR).1)
     simp only [Value.slice.injEq,true_and] at he
     obtain ⟨rfl,rfl⟩:=he
     have HNE:Hid (g0≠w.heap.size):=own_off hI.row hrc (by decide) g0 rfl
     have HCS:Hid (∀ j,j < i→wr.cell? ⟨g0,j,none⟩=some (.string (tblX x (tpos x y j)))):=fun j hj=>by
      have h3:=World.ownsRow.cells hI.row (g:=g0) rfl j (.string (tblX x (tpos x y j))) (by rw [hss];unfold scs;rw [List.getElem?_map,List.getElem?_map,List.getElem?_range hj];rfl)
      rwa [add0] at h3
     have HGL:Hid (H1≤g0∧g0 < wr.heap.size):=hI.row.lt g0 rfl
     clear hir hok hI hlt hpl hpb hpb2 hrc hss
     rw [hsl] at c2
     rw [hE] at hpI hE2 ⊢
     clear hE hsl
     go_wp2_with fail
     refine bodyPost_ret (res_row_tmp (p:=2) (u:=3) (ty:=111) rfl _ _ w.heap.size 111 _ (0,0) _ rfl (set3_heap (unhide HRW) _ _ _) Tryz.underlying111 rfl infoVi _ rfl) rfl ⟨(set3_fr _ w.heap.size _ _ _).belowOf (unhide HBW) (unhide HBW).size (Nat.le_refl _),.inl ⟨unhide HIO,g0,tc,?_,?_,?_,?_⟩⟩
     ·have:=(unhide HGL).1;have:=unhide HH1;omega
     ·exact Nat.lt_of_lt_of_le (unhide HGL).2 (set3_fr _ w.heap.size _ _ _).size
     ·rw [(unhide HAN).1,(unhide HAN).2.1,(unhide HAN).2.2.1];rfl
     ·rw [(unhide HAN).2.2.1,(unhide HAN).2.2.2]
      exact fun j hj=>(set3_fr _ w.heap.size _ _ _).cell (unhide HCS j hj) (by simpa using unhide HNE)
    ·have HF:Hid (¬ImOk x):=fun h=>hE ((unhide HIM).1 h).2.2
     have hE2:(((tpos x y i:Nat):Int) == (x.size:Int))=false:=beq_eq_false_iff_ne.2 (by omega)
     clear hir hok hI hlt hpl hpb hpb2 hrc hss hE
     generalize tpos x y i=p at *
     go_wp2_with fail
     exact bodyPost_ret (res_row_tmp (p:=2) (u:=3) (ty:=111) rfl _ _ w.heap.size 111 _ (0,0) _ rfl (set3_heap (unhide HRW) _ _ _) Tryz.underlying111 rfl infoVi _ rfl) rfl ⟨(set3_fr _ w.heap.size _ _ _).belowOf (unhide HBW) (unhide HBW).size (Nat.le_refl _),.inr ⟨unhide HF,_,_,_,_,_,rfl⟩⟩
end
end Mc
end Go.Proofs.YtobfpgoepaeknaaGreat
namespace Go.Proofs.YtobfpgoepaeknaaGreat
namespace Mc
open Go.RowKit
attribute [local go_sem ↓] Go.wp_at_zero Go.wp_at_succ
def OpIs (x:ByteArray) (o:Int):Prop:=(ImOk x→o=0)∧(¬ImOk x→o=7)
theorem opIs_ex (x:ByteArray):∃ o,OpIs x o:=by
 by_cases h:ImOk x
 ·exact ⟨0,fun _=>rfl,fun k=>absurd h k⟩
 ·exact ⟨7,fun k=>absurd k h,fun _=>rfl⟩
set_option maxRecDepth 20000 in
set_option maxHeartbeats 2000000 in
theorem VOpen_any (w:World) (x:ByteArray) (hx:x.size≤9223372036854775807) (o:Int) (ho:OpIs x o) :
  Calls Tryz.prog 28 #[.string x] w fun e w'=>e=.returned (.int .i64 o)∧Below w.heap.size w w':=by
 have HO:=hide (Open_any w x hx)
 clear hx
 go_enter Tryz.func28,Tryz.ntmps28
 go_wp2_with fail
 refine (unhide HO).mono ?_
 clear HO
 rintro e w1 ⟨hb,⟨hI,g,tc,rfl,hT⟩ | ⟨hI,rfl⟩⟩
 ·have HB:=hide (fun o=>hb.alloc hb.size o)
  have HE:Hid (o=0):=ho.1 hI
  clear ho hb hT hI
  unfold imC
  go_wp2_with fail
  go_ret
  exact ⟨by rw [unhide HE];rfl,unhide HB _⟩
 ·have HB:=hide (fun o=>hb.alloc hb.size o)
  have HE:Hid (o=7):=ho.2 hI
  clear ho hb hI
  unfold zIm
  go_wp2_with fail
  go_ret
  exact ⟨by rw [unhide HE];rfl,unhide HB _⟩
set_option maxRecDepth 20000 in
set_option maxHeartbeats 2000000 in
theorem ROpen_any (w:World) (x:ByteArray) (hx:x.size≤9223372036854775807) (o:Int) (ho:OpIs x o) :
  Calls Tryz.prog 29 #[.string x] w fun e w'=>e=.returned (.int .i64 o)∧Below w.heap.size w w':=by
 have HO:=hide (VRead_any w x hx)
 clear hx
 go_enter Tryz.func29,Tryz.ntmps29
 go_wp2_with fail
 refine (unhide HO).mono ?_
 clear HO
 rintro e w1 ⟨hb,⟨hI,g,tc,h1,h2,rfl,h3⟩ | ⟨hI,N,f,ta,n,tc,rfl⟩⟩
 ·have HB:=hide (fun o=>hb.alloc hb.size o)
  have HE:Hid (o=0):=ho.1 hI
  clear ho hb h1 h2 h3 hI
  go_wp2_with fail
  go_ret
  exact ⟨by rw [unhide HE];rfl,unhide HB _⟩
 ·have HB:=hide (fun o=>hb.alloc hb.size o)
  have HE:Hid (o=7):=ho.2 hI
  clear ho hb hI
  go_wp2_with fail
  go_ret
  exact ⟨by rw [unhide HE];rfl,unhide HB _⟩
set_option maxHeartbeats 400000 in
theorem numP_any (n:Int) (w:World):Calls Tryz.prog 8 #[.int .i64 n] w fun e w'=>e=.returned (.int .i64 n)∧w'=w:=by
 go_enter Tryz.func8,Tryz.ntmps8
 go_wp2
 go_ret
 exact ⟨rfl,rfl⟩
set_option maxRecDepth 20000 in
set_option maxHeartbeats 2000000 in
theorem opens_any (w:World) (x:ByteArray) (hx:x.size≤9223372036854775807) :
  Calls Tryz.prog 10 #[.string x] w fun e w'=>e=.returned (.bool true)∧Below w.heap.size w w':=by
 obtain ⟨o,ho⟩:=opIs_ex x
 have HV:=hide (VOpen_any w x hx o ho)
 have HR:=hide (fun w=>ROpen_any w x hx o ho)
 clear hx ho
 go_enter Tryz.func10,Tryz.ntmps10
 go_wp2_with fail
 refine (unhide HV).mono ?_
 rintro e w1 ⟨rfl,hb1⟩
 go_wp2_with fail
 refine (unhide HR w1).mono ?_
 rintro e w2 ⟨rfl,hb2⟩
 have HB:=hide (below_tr hb1 hb2)
 clear hb1 hb2 HV HR
 go_wp2_with (go_at_call 8;refine (numP_any _ _).mono ?_;rintro e w' ⟨rfl,rfl⟩)
 go_ret
 exact ⟨by first | rfl | exact ret_bool (by simp),unhide HB⟩
theorem imB_le {p:ByteArray} {n:Int} {N:Nat} {ts:Nat→TabN} (h:CpO p n N ts):(imB N (cutR p) (cutL p).length (fun j=>tbS (ts j))).size≤9223372036854775807:=by
 rw [imB_size]
 have h1:=joinT_size (fun j=>tbS (ts j)) (cutL p).length (fun j hj=>tbS_le (h.ok j hj))
 have h2:=(fcheck_ok.1.1 h.form).1
 have h3:=h.l4
 omega
set_option maxRecDepth 20000 in
set_option maxHeartbeats 2000000 in
theorem compiles_any (hTO:TabsOk) (w:World) (p:ByteArray) (n:Int) (hx:p.size≤9223372036854775807) :
  Calls Tryz.prog 9 #[.string p,.int .i64 n] w fun e w'=>e=.returned (.bool true)∧Below w.heap.size w w':=by
 have HV:=hide (VCompile_any w p n hx)
 have HTO:=hide hTO
 have HX:=hide hx
 clear hx hTO
 go_enter Tryz.func9,Tryz.ntmps9
 go_wp2_with fail
 refine (unhide HV).mono ?_
 rintro e w1 ⟨hb1,s,er,at_,rfl,hA⟩
 have HR:=hide (RCompile_of (unhide HTO) w1 (unhide HX) hA)
 have HB1:=hide hb1
 have HOP:Hid (er=0→∀ w,Calls Tryz.prog 28 #[.string s] w fun e w'=>e=.returned (.int .i64 0)∧Below w.heap.size w w'):=fun he w=>by
  rcases hA with ⟨hE,-⟩ | ⟨N,ts,hO,rfl,-,-⟩
  ·exact absurd he hE.ne
  ·have hI:=(imB_ok hO.n16 hO.l1 hO.l4 hO.form hO.ok).1
   exact VOpen_any w _ (imB_le hO) 0 ⟨fun _=>rfl,fun h=>absurd hI h⟩
 clear hb1 hA HV
 go_wp2_with fail
 refine (unhide HR).mono ?_
 rintro e w2 ⟨rfl,hb2⟩
 have HB2:=hide (below_tr (unhide HB1) hb2)
 clear hb2 HR HB1
 by_cases he:er=0
 ·have HO2:=hide (unhide HOP he)
  subst he
  clear HOP
  go_wp2_with (first
   | (go_at_call 8;refine (numP_any _ _).mono ?_;rintro e w' ⟨rfl,rfl⟩)
   | (go_at_call 28;refine (unhide HO2 _).mono ?_;rintro e w4 ⟨rfl,hb4⟩;have HB4:=hide (below_tr (unhide HB2) hb4);clear hb4))
  all_goals go_ret
  all_goals exact ⟨by first | rfl | exact ret_bool (by simp),unhide HB4⟩
 ·clear HOP
  go_wp2_with (go_at_call 8;refine (numP_any _ _).mono ?_;rintro e w' ⟨rfl,rfl⟩)
  all_goals go_ret
  all_goals exact ⟨by first | rfl | exact ret_bool (by simp),unhide HB2⟩
set_option maxRecDepth 20000 in
set_option maxHeartbeats 2000000 in
theorem Policies_of (hTO:TabsOk) (p:ByteArray) (n:Int) (x:ByteArray) (w:World) (hp:p.size≤9223372036854775807) (hx:x.size≤9223372036854775807) :
  Calls Tryz.prog 4 #[.string p,.int .i64 n,.string x] w fun e w'=>e=.returned (.bool true)∧Below w.heap.size w w':=by
 have HC:=hide (compiles_any hTO w p n hp)
 have HO:=hide (fun w=>opens_any w x hx)
 clear hTO hp hx
 go_enter Tryz.func4,Tryz.ntmps4
 go_wp2_with fail
 refine (unhide HC).mono ?_
 rintro e w1 ⟨rfl,hb1⟩
 go_wp2_with fail
 refine (unhide HO w1).mono ?_
 rintro e w2 ⟨rfl,hb2⟩
 have HB:=hide (below_tr hb1 hb2)
 clear hb1 hb2 HC HO
 go_wp2_with fail
 go_ret
 exact ⟨rfl,unhide HB⟩
end Mc
end Go.Proofs.YtobfpgoepaeknaaGreat
namespace Go.Proofs.YtobfpgoepaeknaaGreat
open Go.RowKit
def anyB (s:ByteArray) (c:Int):Bool:=s.data.toList.any fun b=>(b.toNat:Int) == c
set_option maxHeartbeats 400000 in
theorem among_any (c:Int) (s:ByteArray) (w:World) (hs:s.size≤60) :
  Calls Tryz.prog 119 #[.int .u8 c,.string s] w fun e w'=>e=.returned (.bool (anyB s c))∧w'=w:=by
 have hs':(s.size:Int)≤60:=by omega
 have HS:=hide hs
 clear hs
 go_enter Tryz.func119,Tryz.ntmps119
 go_wp2
 go_loop [5] (fun i=>∃ k:Nat,k≤s.size∧i=.int .i64 k∧Hid (∀ j (h:j < s.size),j < k→((s[j].toNat:Int) == c)=false)) (fun i=>s.size - (intOf i).toNat)
 case atStart=>exact ⟨0,Nat.zero_le _,rfl,fun j _ hj=>absurd hj (Nat.not_lt_zero j)⟩
 case round =>
  obtain ⟨k,hk,rfl,H⟩:=hrel
  by_cases hlt:k < s.size
  ·by_cases hc:((s[k].toNat:Int) == c)=true
   ·go_wp2
    go_ret
    refine ⟨ret_bool ?_,rfl⟩
    symm
    unfold anyB
    rw [List.any_eq_true]
    exact ⟨s[k],by simp [ByteArray.getElem_eq_getElem_data],hc⟩
   ·have hc':((s[k].toNat:Int) == c)=false:=by simpa using hc
    clear hc
    have HC:=hide hc'
    go_wp2
    go_round
    case rel =>
     refine ⟨k+1,by omega,by go_num,fun j hj hjk=>?_⟩
     by_cases e:j=k
     ·subst e;exact unhide HC
     ·exact unhide H j hj (by omega)
    case measure=>simp [intOf];omega
  ·go_wp2
   go_ret
   refine ⟨ret_bool ?_,rfl⟩
   symm
   unfold anyB
   rw [List.any_eq_false]
   intro b hb
   rw [List.mem_iff_getElem] at hb
   obtain ⟨j,hj,rfl⟩:=hb
   have hj':j < s.size:=by simpa using hj
   have:=unhide H j hj' (by omega)
   rw [ByteArray.getElem_eq_getElem_data] at this
   simpa using this
theorem anyB_marks (c:Int):anyB { data:=#[124,42,43,63,123,125,40,41,91,93,46,92,45,94] } c=mayBeEscapedB c:=by
 rw [Bool.eq_iff_iff]
 simp [anyB,mayBeEscapedB,isMarkB]
 omega
theorem marks_any (c:Int) (w:World) :
  Calls Tryz.prog 119 #[.int .u8 c,.string { data:=#[124,42,43,63,123,125,40,41,91,93,46,92,45,94] }] w fun e w'=>e=.returned (.bool (mayBeEscapedB c))∧w'=w:=by
 rw [←anyB_marks]
 exact among_any c _ w (by decide)
set_option maxHeartbeats 400000 in
theorem dec_any (c:Int) (w:World):Calls Tryz.prog 84 #[.int .u8 c] w fun e w'=>e=.returned (.bool (decB c))∧w'=w:=by
 go_enter Tryz.func84,Tryz.ntmps84
 go_wp2
 all_goals
  go_ret
  exact ⟨ret_bool (by simp_all [decB];try (intros;omega)),rfl⟩
set_option maxHeartbeats 400000 in
theorem hex_any (c:Int) (w:World):Calls Tryz.prog 120 #[.int .u8 c] w fun e w'=>e=.returned (.bool (hexB c))∧w'=w:=by
 go_enter Tryz.func120,Tryz.ntmps120
 go_wp2_with (go_at_call 84;refine (dec_any _ _).mono ?_;rintro e w' ⟨rfl,rfl⟩)
 all_goals
  go_ret
  exact ⟨ret_bool (by simp_all [hexB];try (intros;omega)),rfl⟩
end Go.Proofs.YtobfpgoepaeknaaGreat
