/-
  policies.Open.
  policies.Compile: what is to be answered; what the walk wants.
  policies.Compile: the walk.
  policies.Image.Bytes.
-/
import Derived.Test.YtjooemengpeaaaaGreatM26
import Derived.Test.YtjooemengpeaaaaGreatM25
namespace Go.Proofs.YtjooemengpeaaaaGreat
namespace Mc
open Go.RowKit
theorem fcheck_ok {R:Nat} {T:ByteArray}:((fcheck R T).1=0↔T.size≤40∧fscan R T T.size 0 0 0=none)∧((fcheck R T).1=0∨(fcheck R T).1=6):=by
 unfold fcheck
 by_cases h:40 < T.size
 ·rw [if_pos h];simp;omega
 ·rw [if_neg h]
  cases hf:fscan R T T.size 0 0 0 with
  | none=>simp [fans];omega
  | some k=>simp [fans]
def zIm:Array Value:=#[.int .i64 0,.string ⟨#[]⟩,.slice none 0 0]
def imC (N:Nat) (f:ByteArray) (ta:Option Addr) (m tc:Nat):Array Value:=#[.int .i64 (N:Int),.string f,.slice ta m tc]
theorem infoIm:(Tryz.prog.info? 48).map (·.size)=some 3:=by kernel_rfl
def OpA (w':World) (x:ByteArray) (e:Ending):Prop :=
 (ImOk x∧∃ g tc,e=.returned (.tuple #[.agg (imC (bt x 2) (imF x) (some ⟨g,0,none⟩) (bt x 3) tc),.int .i64 0])∧Tbs w' w'.heap.size g (bt x 3) (imT x)) ∨
 (¬ImOk x∧e=.returned (.tuple #[.agg zIm,.int .i64 7]))
theorem two_bytes {t:ByteArray} (hs:t.size=2) (h0:bt t 0=86) (h1:bt t 1=80):t=⟨#[86,80]⟩:=by
 rw [←bt_at t 0 (by omega)] at h0
 rw [←bt_at t 1 (by omega)] at h1
 apply ByteArray.ext
 apply Array.ext
 ·exact hs
 ·intro i hi hi2
  have hi3:i < 2:=by have:t.data.size=2:=hs;omega
  match i,hi3 with
  | 0,_=>exact UInt8.toNat.inj h0
  | 1,_=>exact UInt8.toNat.inj h1
theorem vp_of {x:ByteArray} (hl:5≤x.size) (h0:bt x 0=86) (h1:bt x 1=80):((x.extract 0 2).toList == [86,80])=true:=by
 rw [two_bytes (t:=x.extract 0 2) (by rw [ByteArray.size_extract];omega) (by rw [bt_ext,if_pos (by omega)];exact h0) (by rw [bt_ext,if_pos (by omega)];exact h1)]
 rw [ByteArray.toList_eq]
 rfl
theorem vp_not {x:ByteArray} (h:¬(bt x 0=86∧bt x 1=80)):((x.extract 0 2).toList == [86,80])=false:=by
 refine beq_eq_false_iff_ne.2 fun e=>h ?_
 have e':x.extract 0 2=⟨#[86,80]⟩:=by
  apply ByteArray.ext
  rw [ByteArray.toList_eq] at e
  exact Array.toList_inj.1 e
 have e0:bt (x.extract 0 2) 0=86:=by rw [e'];rfl
 have e1:bt (x.extract 0 2) 1=80:=by rw [e'];rfl
 rw [bt_ext,if_pos (by omega)] at e0 e1
 exact ⟨e0,e1⟩
theorem Tbs.setIm {w w':World} {g m:Nat} {ts:Nat→TabN} (h:Tbs w w.heap.size g m ts) {gi:Nat} {old:Array Value} (hi:w.heap[gi]?=some (.cells old 48 (0,0))) (f:Fr [gi] w w') (hg:g≠gi):Tbs w' w'.heap.size g m ts:=by
 refine ⟨fun j hj=>?_,Nat.lt_of_lt_of_le h.lt f.size⟩
 obtain ⟨gv,nv,h1,h2⟩:=h.at_ j hj
 refine ⟨gv,nv,fun k v hv=>f.cell (h1 k v hv) (by simpa using hg),h2.fr f (fun q hq cs' ty fr hc=>?_) f.size⟩
 rw [List.mem_singleton.1 hq,hi] at hc
 simp at hc
 rw [←hc.2.1];decide
theorem set3_heap {w:World} {g:Nat} {t:TypeId} {a0 b0 c0:Value} (h:w.heap[g]?=some (.cells #[a0,b0,c0] t (0,0))) (a b c:Value):(((w.setCell ⟨g,0,none⟩ a).setCell ⟨g,1,none⟩ b).setCell ⟨g,2,none⟩ c).heap[g]?=some (.cells #[a,b,c] t (0,0)):=by
 have h1:(w.setCell ⟨g,0,none⟩ a).heap[g]?=some (.cells #[a,b0,c0] t (0,0)):=by rw [heap_setCell_same _ _ _ _ _ _ h];rfl
 have h2:((w.setCell ⟨g,0,none⟩ a).setCell ⟨g,1,none⟩ b).heap[g]?=some (.cells #[a,b,c0] t (0,0)):=by rw [heap_setCell_same _ _ _ _ _ _ h1];rfl
 rw [heap_setCell_same _ _ _ _ _ _ h2];rfl
theorem set3_fr (w:World) (g:Nat) (a b c:Value):Fr [g] w (((w.setCell ⟨g,0,none⟩ a).setCell ⟨g,1,none⟩ b).setCell ⟨g,2,none⟩ c) :=
 (((Fr.refl [g] w).set (Or.inl (by simp)) _ _).set (Or.inl (by simp)) _ _).set (Or.inl (by simp)) _ _
section
attribute [local go_sem ↓] Go.wp_at_zero Go.wp_at_succ
set_option maxRecDepth 20000 in
set_option maxHeartbeats 2000000 in
theorem Open_any (w:World) (x:ByteArray) (hx:x.size≤9223372036854775807) :
  Calls Tryz.prog 22 #[.string x] w fun e w'=>Below w.heap.size w w'∧OpA w' x e:=by
 have hxI:(x.size:Int)≤9223372036854775807:=by omega
 have HR1:Hid ((w.alloc (.cells zIm 48)).heap[w.heap.size]?=some (.cells zIm 48 (0,0))):=heap_alloc_new _ _
 have HB1:Hid (Below w.heap.size w (w.alloc (.cells zIm 48))):=(Below.refl _ _).alloc (Nat.le_refl _) _
 by_cases h5:x.size < 5
 ·have hI:(x.size:Int) < 5:=by omega
  have HF:Hid (¬ImOk x):=fun h=>by have:=h.len;omega
  clear h5 hx
  unfold zIm at *
  go_enter Tryz.func22,Tryz.ntmps22
  go_wp2_with fail
  exact bodyPost_ret (v:=.tuple #[.agg zIm,.int .i64 7]) (res_row_tmp (p:=2) (u:=3) (ty:=48) rfl _ _ w.heap.size 48 _ (0,0) _ rfl (unhide HR1) Tryz.underlying48 rfl infoIm _ rfl) rfl ⟨unhide HB1,.inr ⟨unhide HF,rfl⟩⟩
 ·have hI:(5:Int)≤(x.size:Int):=by omega
  by_cases hv:bt x 0=86∧bt x 1=80
  ·have hE:=vp_of (by omega) hv.1 hv.2
   have l2:2 < x.size:=by omega
   have l3:3 < x.size:=by omega
   have l4:4 < x.size:=by omega
   have b2:=bt_at x 2
   have b3:=bt_at x 3
   have b4:=bt_at x 4
   have b2I:((bt x 2:Nat):Int) < 256:=by have:=bt_le x 2;omega
   have b3I:((bt x 3:Nat):Int) < 256:=by have:=bt_le x 3;omega
   have b4I:((bt x 4:Nat):Int) < 256:=by have:=bt_le x 4;omega
   obtain ⟨N,hN⟩:∃ N,bt x 2=N:=⟨_,rfl⟩
   obtain ⟨r,hr⟩:∃ r,bt x 3=r:=⟨_,rfl⟩
   obtain ⟨F,hF⟩:∃ F,bt x 4=F:=⟨_,rfl⟩
   rw [hN] at b2 b2I
   rw [hr] at b3 b3I
   rw [hF] at b4 b4I
   have e5:(5:Int)+(F:Int)=((5+F:Nat):Int):=by omega
   have w5:=wrap_i64 (5+F) (by omega)
   have n5:(((5+F:Nat):Int)).toNat=5+F:=by omega
   have hsc:(16 < (N:Int))∨((N:Int)≤16∧(r:Int) < 1)∨((N:Int)≤16∧1≤(r:Int)∧4 < (r:Int))∨((N:Int)≤16∧1≤(r:Int)∧(r:Int)≤4∧(x.size:Int) < ((5+F:Nat):Int))∨((N:Int)≤16∧1≤(r:Int)∧(r:Int)≤4∧((5+F:Nat):Int)≤(x.size:Int)):=by omega
   rcases hsc with i1 | ⟨i1,i2⟩ | ⟨i1,i2,i3⟩ | ⟨i1,i2,i3,i4⟩ | ⟨i1,i2,i3,i4⟩
   iterate 4
    ·have HF:Hid (¬ImOk x):=fun h=>by have:=h.n;have:=h.r1;have:=h.r2;have:=h.fl;omega
     clear h5 hx hv hN hr hF
     unfold zIm at *
     generalize 5+F=y at *
     go_enter Tryz.func22,Tryz.ntmps22
     go_wp2_with fail
     exact bodyPost_ret (v:=.tuple #[.agg zIm,.int .i64 7]) (res_row_tmp (p:=2) (u:=3) (ty:=48) rfl _ _ w.heap.size 48 _ (0,0) _ rfl (unhide HR1) Tryz.underlying48 rfl infoIm _ rfl) rfl ⟨unhide HB1,.inr ⟨unhide HF,rfl⟩⟩
   have hy0:(5:Int)≤((5+F:Nat):Int):=by omega
   have himf:imF x=x.extract 5 (5+F):=by unfold imF;rw [hF]
   have hfs:(x.extract 5 (5+F)).size=F:=by rw [ByteArray.size_extract];omega
   have HCF:=hide (fun W=>checkFormula_any W (x.extract 5 (5+F)) r (by omega) (by omega))
   obtain ⟨hfc,hfc2⟩:=fcheck_ok (R:=r) (T:=x.extract 5 (5+F))
   have HRT:=hide (fun W gi hi=>readTables_any W gi N (x.extract 5 (5+F)) x (5+F) r hi (by omega) hx (by omega))
   have HIM:Hid (ImOk x↔fscan r (x.extract 5 (5+F)) (x.extract 5 (5+F)).size 0 0 0=none∧(x.extract 5 (5+F)).size≤40∧TsOk x (5+F) r):=by
    constructor
    ·intro h
     have h1:=h.fm
     have h2:=h.ts
     have h3:=h.f2
     rw [himf,hr] at h1
     rw [hF,hr] at h2
     rw [hF] at h3
     exact ⟨h1,by rw [hfs];exact h3,h2⟩
    ·rintro ⟨h1,h2,h3⟩
     rw [hfs] at h2
     refine ⟨by omega,hv.1,hv.2,by omega,by omega,by omega,?_,by omega,by omega,by rw [himf,hr];exact h1,by rw [hF,hr];exact h3⟩
     rw [hF]
     cases F with
     | zero=>rw [hfs] at h1;unfold fscan at h1;rw [if_pos (Or.inr (by decide))] at h1;cases h1
     | succ F=>omega
   have HGI:Hid (((w.alloc (.cells zIm 48)).alloc (.cells #[.int .i64 (N:Int),.string (x.extract 5 (5+F)),.slice none 0 0] 48)).heap[w.heap.size+1]?=some (.cells #[.int .i64 (N:Int),.string (x.extract 5 (5+F)),.slice none 0 0] 48 (0,0))):=heap_alloc2_new _ _ _
   have HR2:Hid (((w.alloc (.cells zIm 48)).alloc (.cells #[.int .i64 (N:Int),.string (x.extract 5 (5+F)),.slice none 0 0] 48)).heap[w.heap.size]?=some (.cells zIm 48 (0,0))):=heap_alloc2_old _ _ _
   have HB2:Hid (Below w.heap.size w ((w.alloc (.cells zIm 48)).alloc (.cells #[.int .i64 (N:Int),.string (x.extract 5 (5+F)),.slice none 0 0] 48))):=(unhide HB1).alloc (unhide HB1).size _
   have HS2:Hid (((w.alloc (.cells zIm 48)).alloc (.cells #[.int .i64 (N:Int),.string (x.extract 5 (5+F)),.slice none 0 0] 48)).heap.size=w.heap.size+2):=by show _=_;simp
   have HAN:Hid (imC (bt x 2) (imF x)=imC N (x.extract 5 (5+F))∧bt x 3=r∧imT x=fun i=>tabAt x (tpos x (5+F) i)):=⟨by rw [hN,himf],hr,by funext i;unfold imT;rw [hF]⟩
   have HF40:=hide hfc
   have hr1:1≤r:=by omega
   have HR1':=hide hr1
   clear h5 hx hv hN hr hF himf hfs hfc HR1 HB1 hr1
   unfold zIm at *
   go_enter Tryz.func22,Tryz.ntmps22
   generalize 5+F=y at *
   go_wp2_with fail
   generalize (w.alloc (.cells #[.int .i64 0,.string ⟨#[]⟩,.slice none 0 0] 48)).alloc (.cells #[.int .i64 (N:Int),.string (x.extract 5 y),.slice none 0 0] 48)=w2 at *
   generalize x.extract 5 y=fm at *
   refine (unhide HCF _).mono ?_
   rintro e w3 ⟨rfl,hb3⟩
   have HR3:Hid (w3.heap[w.heap.size]?=some (.cells #[.int .i64 0,.string ⟨#[]⟩,.slice none 0 0] 48 (0,0))):=(hb3.block _ (by have:=unhide HS2;omega)).trans (unhide HR2)
   have HG3:Hid (w3.heap[w.heap.size+1]?=some (.cells #[.int .i64 (N:Int),.string fm,.slice none 0 0] 48 (0,0))):=(hb3.block _ (by have:=unhide HS2;omega)).trans (unhide HGI)
   have HB3:Hid (Below w.heap.size w w3):=(unhide HB2).trans (hb3.mono (by have:=unhide HS2;omega))
   clear hb3 HCF HR2 HGI HB2 HS2
   rcases hfc2 with hc0 | hc6
   ·have HC0:=hide ((unhide HF40).1 hc0)
    have HRT3:=hide (unhide HRT w3 (w.heap.size+1) (unhide HG3))
    rw [hc0]
    clear hc0
    generalize (fcheck r fm).2=k at *
    go_wp2_with fail
    refine (unhide HRT3).mono ?_
    rintro e w4 ⟨hfr,hts⟩
    have HR4:Hid (w4.heap[w.heap.size]?=some (.cells #[.int .i64 0,.string ⟨#[]⟩,.slice none 0 0] 48 (0,0))):=hfr.at (unhide HR3) (by simp)
    have HB4:Hid (Below w.heap.size w w4):=hfr.belowOf (unhide HB3) (unhide HB3).size (by omega)
    clear HRT HRT3 HR3 HB3 HG3
    rcases hts with ⟨hts,rfl,ta,tc,cs,hI⟩ | ⟨hno,rfl⟩
    ·have HIO:=hide ((unhide HIM).2 ⟨(unhide HC0).2,(unhide HC0).1,hts⟩)
     obtain ⟨g0,cap0,he⟩:=own_form hI.own (unhide HR1')
     simp only [Value.slice.injEq,true_and] at he
     obtain ⟨rfl,rfl⟩:=he
     have HIM4:=hide hI.im
     have HTB:=hide hI.tbs
     have HNE:Hid (g0≠w.heap.size):=own_off hI.own (unhide HR4) (by decide) g0 rfl
     clear hts hI hfr
     have y0:w4.cell? ⟨w.heap.size,0,none⟩=some (.int .i64 0):=by rw [cell_of_row _ _ _ _ _ _ (unhide HR4)];rfl
     have z0:w4.frozen? ⟨w.heap.size,0,none⟩=false:=frozen_of_row _ _ _ _ _ (unhide HR4)
     have y1:w4.cell? ⟨w.heap.size,1,none⟩=some (.string ⟨#[]⟩):=by rw [cell_of_row _ _ _ _ _ _ (unhide HR4)];rfl
     have z1:w4.frozen? ⟨w.heap.size,1,none⟩=false:=frozen_of_row _ _ _ _ _ (unhide HR4)
     have y2:w4.cell? ⟨w.heap.size,2,none⟩=some (.slice none 0 0):=by rw [cell_of_row _ _ _ _ _ _ (unhide HR4)];rfl
     have z2:w4.frozen? ⟨w.heap.size,2,none⟩=false:=frozen_of_row _ _ _ _ _ (unhide HR4)
     go_wp2_with (refine wpList_load_row rfl 48 _ rfl (w.heap.size+1) rfl 48 _ (0,0) _ (unhide HIM4) Tryz.underlying48 rfl infoIm ?_)
     refine bodyPost_ret (res_row_tmp (p:=2) (u:=3) (ty:=48) rfl _ _ w.heap.size 48 _ (0,0) _ rfl (set3_heap (unhide HR4) _ _ _) Tryz.underlying48 rfl infoIm _ rfl) rfl ?_
     refine ⟨(set3_fr _ w.heap.size _ _ _).belowOf (unhide HB4) (unhide HB4).size (Nat.le_refl _),.inl ⟨unhide HIO,g0,tc,by rw [(unhide HAN).1,(unhide HAN).2.1];rfl,?_⟩⟩
     rw [(unhide HAN).2.1,(unhide HAN).2.2]
     exact (unhide HTB).setIm (unhide HR4) (set3_fr _ _ _ _ _) (unhide HNE)
    ·have HF:Hid (¬ImOk x):=fun h=>hno ((unhide HIM).1 h).2.2
     clear hno hfr
     have y0:w4.cell? ⟨w.heap.size,0,none⟩=some (.int .i64 0):=by rw [cell_of_row _ _ _ _ _ _ (unhide HR4)];rfl
     have z0:w4.frozen? ⟨w.heap.size,0,none⟩=false:=frozen_of_row _ _ _ _ _ (unhide HR4)
     have y1:w4.cell? ⟨w.heap.size,1,none⟩=some (.string ⟨#[]⟩):=by rw [cell_of_row _ _ _ _ _ _ (unhide HR4)];rfl
     have z1:w4.frozen? ⟨w.heap.size,1,none⟩=false:=frozen_of_row _ _ _ _ _ (unhide HR4)
     have y2:w4.cell? ⟨w.heap.size,2,none⟩=some (.slice none 0 0):=by rw [cell_of_row _ _ _ _ _ _ (unhide HR4)];rfl
     have z2:w4.frozen? ⟨w.heap.size,2,none⟩=false:=frozen_of_row _ _ _ _ _ (unhide HR4)
     go_wp2_with fail
     exact bodyPost_ret (v:=.tuple #[.agg zIm,.int .i64 7]) (res_row_tmp (p:=2) (u:=3) (ty:=48) rfl _ _ w.heap.size 48 _ (0,0) _ rfl (set3_heap (unhide HR4) _ _ _) Tryz.underlying48 rfl infoIm _ rfl) rfl ⟨(set3_fr _ w.heap.size _ _ _).belowOf (unhide HB4) (unhide HB4).size (Nat.le_refl _),.inr ⟨unhide HF,rfl⟩⟩
   ·have HF:Hid (¬ImOk x):=fun h=>by
     have h1:=(unhide HIM).1 h
     have:=(unhide HF40).2 ⟨h1.2.1,h1.1⟩
     omega
    rw [hc6]
    clear hc6 HRT
    generalize (fcheck r fm).2=k at *
    have y0:w3.cell? ⟨w.heap.size,0,none⟩=some (.int .i64 0):=by rw [cell_of_row _ _ _ _ _ _ (unhide HR3)];rfl
    have z0:w3.frozen? ⟨w.heap.size,0,none⟩=false:=frozen_of_row _ _ _ _ _ (unhide HR3)
    have y1:w3.cell? ⟨w.heap.size,1,none⟩=some (.string ⟨#[]⟩):=by rw [cell_of_row _ _ _ _ _ _ (unhide HR3)];rfl
    have z1:w3.frozen? ⟨w.heap.size,1,none⟩=false:=frozen_of_row _ _ _ _ _ (unhide HR3)
    have y2:w3.cell? ⟨w.heap.size,2,none⟩=some (.slice none 0 0):=by rw [cell_of_row _ _ _ _ _ _ (unhide HR3)];rfl
    have z2:w3.frozen? ⟨w.heap.size,2,none⟩=false:=frozen_of_row _ _ _ _ _ (unhide HR3)
    go_wp2_with fail
    exact bodyPost_ret (v:=.tuple #[.agg zIm,.int .i64 7]) (res_row_tmp (p:=2) (u:=3) (ty:=48) rfl _ _ w.heap.size 48 _ (0,0) _ rfl (set3_heap (unhide HR3) _ _ _) Tryz.underlying48 rfl infoIm _ rfl) rfl ⟨(set3_fr _ w.heap.size _ _ _).belowOf (unhide HB3) (unhide HB3).size (Nat.le_refl _),.inr ⟨unhide HF,rfl⟩⟩
  ·have hE:=vp_not hv
   have HF:Hid (¬ImOk x):=fun h=>hv ⟨h.b0,h.b1⟩
   clear h5 hx hv
   unfold zIm at *
   go_enter Tryz.func22,Tryz.ntmps22
   go_wp2_with fail
   exact bodyPost_ret (v:=.tuple #[.agg zIm,.int .i64 7]) (res_row_tmp (p:=2) (u:=3) (ty:=48) rfl _ _ w.heap.size 48 _ (0,0) _ rfl (unhide HR1) Tryz.underlying48 rfl infoIm _ rfl) rfl ⟨unhide HB1,.inr ⟨unhide HF,rfl⟩⟩
end
end Mc
end Go.Proofs.YtjooemengpeaaaaGreat
namespace Go.Proofs.YtjooemengpeaaaaGreat
namespace Mc
open Go.RowKit
theorem below_tr {w w1 w2:World} (h:Below w.heap.size w w1) (k:Below w1.heap.size w1 w2):Below w.heap.size w w2:=h.trans (k.mono h.size)
theorem tabA_tbC (cl:Nat→Nat) (C:Nat) (gv nv:Value):tabA cl C gv nv=tbC cl C gv nv:=by
 unfold tabA tbC rowN ncs midN
 simp [Function.comp_def]
def tbS (t:TabN):ByteArray:=strN (layTab t.S t.C t.cl t.gr t.nx)
theorem tab_ok {L:List Nat→Prop} {S C:Nat} {nx:Nat→Nat→Nat} {gr:Nat→Bool} {cl:Nat→Nat} {nc:Nat→Nat→Nat} (h:TabOf L S C nx gr cl nc):TabN.Ok ⟨S,C,cl,gr,nc⟩ :=
 ⟨h.dfa.pos,Nat.lt_of_le_of_lt (Nat.zero_le _) (h.cols.lt 0 (by omega)),h.sle,h.cle,h.cols.lt,fun q c hq hc=>h.nc_lt hq hc⟩
theorem flat_getD (C:Nat) (nc:Nat→Nat→Nat):∀ (S q c:Nat),q < S→c < C→((List.range S).flatMap (fun i=>(List.range C).map (nc i))).getD (q * C+c) 0=nc q c
 | 0,q,c,hq,_=>by omega
 | S+1,q,c,hq,hc=>by
  rw [List.range_succ,List.flatMap_append]
  by_cases h:q < S
  ·have h1:(q+1) * C≤S * C:=Nat.mul_le_mul_right _ h
   rw [Nat.add_mul,Nat.one_mul] at h1
   rw [List.getD_eq_getElem?_getD,List.getElem?_append_left (by rw [flat_len];omega),←List.getD_eq_getElem?_getD]
   exact flat_getD C nc S q c h hc
  ·have:q=S:=by omega
   subst this
   rw [List.getD_eq_getElem?_getD,List.getElem?_append_right (by rw [flat_len];omega),flat_len,Nat.add_sub_cancel_left]
   simp [hc]
theorem rows_made {L:List Nat→Prop} {S C:Nat} {nx:Nat→Nat→Nat} {gr:Nat→Bool} {cl:Nat→Nat} {nc:Nat→Nat→Nat} (h:TabOf L S C nx gr cl nc) {w':World} {B:Nat} {gv nv:Value} (hg:BRow w' B gv ((List.range S).map gr)) (hn:NRow w' B nv ((List.range S).flatMap (fun i=>(List.range C).map (nc i)))):TRws w' w'.heap.size ⟨S,C,cl,gr,nc⟩ gv nv:=by
 refine ⟨tab_ok h,(List.range S).map gr,(List.range S).flatMap (fun i=>(List.range C).map (nc i)),own_less hg (Nat.zero_le _),NR.less hn (Nat.zero_le _),fun q hq=>(World.ownsRow.lt hg q hq).2,fun q hq=>(World.ownsRow.lt hn q hq).2,by simp,fun q hq=>?_,flat_len _ _ _,fun q c hq hc=>flat_getD _ _ _ _ _ hq hc⟩
 rw [List.getD_eq_getElem?_getD,List.getElem?_map,List.getElem?_range hq];rfl
theorem RtI.to {w wr:World} {gi N:Nat} {f:ByteArray} {ta:Option Addr} {tc:Nat} {ts ts':Nat→TabN} {cs:List Value} {i:Nat} (h:RtI w wr gi N f ta tc ts cs i) (he:∀ j,j < i→ts' j=ts j):RtI w wr gi N f ta tc ts' cs i:=⟨h.fr,h.im,h.hgi,h.own,fun j hj=>by rw [he j hj];exact h.rows j hj⟩
theorem appTq {ops:Array Oper} {rest:List Oper} {o:Oper} {a:Act} {W:World} {Q:Exit→Act→World→Prop} (hgd:o.guard=none) (s x:Operand)
  (ho:o.op=.call { callee:=.builtin .append,args:=#[s,x],argTypes:=#[46,46] }) (B:Nat) (v:Value) (n:Nat) (xs:List Value) (hs:a.eval s=v) (hown:W.ownsRow B 78 259 v n xs) (g0:Nat) (cs:Array Value)
  (hx:a.eval x=.slice (some ⟨g0,0,none⟩) 1 1) (hc:W.heap[g0]?=some (.cells cs 78 (0,0))) (hsz:cs.size=259) (h1:cs.all (·.oneCell')=true) (hlen:n≤1000) (hB:B≤W.heap.size) (H:Nat) (hH:W.heap.size=H)
  (h:∀ g cap w',w'.ownsRow B 78 259 (.slice (some ⟨g,0,none⟩) (n+1) cap) (n+1) (xs++cs.toList)→W.grownBy w' v.ownBlock→(v.ownBlock=some g∨g=H)→g < w'.heap.size→wpList Tryz.prog ops Q rest (a.put o.dst (.slice (some ⟨g,0,none⟩) (n+1) cap)) w'):wpList Tryz.prog ops Q (o ::rest) a W:=by
 obtain ⟨i,i0,i1,i2,i3⟩:=info_of infoTb
 refine wpList_append_lies W hgd s x 46 ho B 78 i (.agg zcTb) 259 2104 Tryz.underlying46 i0 i1 i2 i3 zcTb_size (by decide) v n xs hs hown ⟨g0,0,none⟩ 1 1 cs.toList hx (by simp [hsz]) (World.news_of_block hc) (fun u hu=>?_) (by decide) (by unfold maxLen;omega) (by omega) hB H hH h
 rw [←Array.all_toList] at h1
 exact List.all_eq_true.1 h1 u hu
theorem bsTq {ops:Array Oper} {rest:List Oper} {o:Oper} {a:Act} {w:World} {Q:Exit→Act→World→Prop} (hgd:o.guard=none) (x:Operand) (ho:o.op=.buildSlice 46 1 #[(0,x)]) (cs:Array Value) (hx:a.eval x=.agg cs) (hs:cs.size=259)
  (h:wpList Tryz.prog ops Q rest (a.put o.dst (.slice (some ⟨w.heap.size,0,none⟩) 1 1)) (w.alloc (.cells cs 78))):wpList Tryz.prog ops Q (o ::rest) a w:=by
 obtain ⟨i,i0,i1,i2,i3⟩:=info_of infoTb
 refine wpList_buildSlice hgd 46 78 1 #[(0,x)] ho cs i _ Tryz.underlying46 i0 i1 (by rw [i2];decide) (by rw [i2];decide) ?_ h
 have:=Great.fill_whole (s:=259) (by decide) [.agg cs] ((Array.range (1 * i.size)).map (zcTb[· % zcTb.size]!)) (fun v hv=>by rw [List.mem_singleton.1 hv];exact hs) (by rw [Array.size_map,Array.size_range,i2];rfl)
 rw [i2] at this ⊢
 simp only [List.map_toArray,List.map_cons,List.map_nil,hx]
 simpa [Value.cells] using this
theorem res_row_tmp2 {P:Program} {fn:Func} {p u v:Tmp} {ty:TypeId} (h:fn.results=#[.cell p ty,.tmp u,.tmp v]) (tmps:Array Value) (w:World) (g:Nat) (t:TypeId) (cs:Array Value) (fr:Nat × Nat) (d:TypeDesc)
  (hp:tmps.getD p undef=.pointer (some ⟨g,0,none⟩)) (hg:w.heap[g]?=some (.cells cs t fr)) (hu:P.underlying ty=some d) (hd:(match d with | .struct _ | .array _ _=>true | _=>false)=true) (hi:(P.info? ty).map (·.size)=some cs.size)
  (x y:Value) (hx:tmps.getD u undef=x) (hy:tmps.getD v undef=y):(results fn tmps).run P w=.ok (.tuple #[.agg cs,x,y]) w:=by
 have e:(results fn tmps).run P w=((asAddr (tmps.getD p undef)).run P w).andThen fun a w₁=>((loadVar ty a).run P w₁).andThen fun z w₂=>.ok (.tuple #[z,tmps.getD u undef,tmps.getD v undef]) w₂:=by
  simp only [results,h]
  simp [Sem.run_bind,Result.andThen]
 rw [e,hp,hx,hy]
 simp [asAddr,run_loadVar_row w g t ty cs fr d hg hu hd hi]
inductive CpE (p:ByteArray) (n:Int):Int→Int→Prop
 | long (h:284 < p.size):CpE p n 1 0
 | arg (h:p.size≤284) (hn:¬(0≤n∧n≤16)):CpE p n 4 0
 | rules (h:p.size≤284) (hn:0≤n∧n≤16) (hl:¬(1≤(cutL p).length∧(cutL p).length≤4)):CpE p n 5 0
 | rule (h:p.size≤284) (hn:0≤n∧n≤16) (hl:1≤(cutL p).length∧(cutL p).length≤4) (i:Nat) (er:Int) (hi:i < (cutL p).length) (hb:∀ j,j < i→∃ t,PatA ((cutL p).getD j ByteArray.empty) t 0∧t.size≤1000) (he:er≠0) (hp:PatA ((cutL p).getD i ByteArray.empty) ⟨#[]⟩ er):CpE p n er i
 | form (h:p.size≤284) (hn:0≤n∧n≤16) (hl:1≤(cutL p).length∧(cutL p).length≤4) (hb:∀ j,j < (cutL p).length→∃ t,PatA ((cutL p).getD j ByteArray.empty) t 0∧t.size≤1000) (hf:(fcheck (cutL p).length (cutR p)).1=6):CpE p n 6 ((fcheck (cutL p).length (cutR p)).2:Int)
theorem CpE.ne {p:ByteArray} {n er at_:Int} (h:CpE p n er at_):er≠0:=by
 cases h<;>first | assumption | decide
structure CpO (p:ByteArray) (n:Int) (N:Nat) (ts:Nat→TabN):Prop where
 sz:p.size≤284
 n_:n=(N:Int)
 n16:N≤16
 l1:1≤(cutL p).length
 l4:(cutL p).length≤4
 pat:∀ j,j < (cutL p).length→PatA ((cutL p).getD j ByteArray.empty) (tbS (ts j)) 0
 ok:∀ j,j < (cutL p).length→(ts j).Ok
 form:(fcheck (cutL p).length (cutR p)).1=0
def CmA (w':World) (p:ByteArray) (n:Int) (e:Ending):Prop :=
 (∃ er at_:Int,e=.returned (.tuple #[.agg zIm,.int .i64 er,.int .i64 at_])∧CpE p n er at_) ∨
 (∃ N ts g tc,e=.returned (.tuple #[.agg (imC N (cutR p) (some ⟨g,0,none⟩) (cutL p).length tc),.int .i64 0,.int .i64 0])∧CpO p n N ts∧Tbs w' w'.heap.size g (cutL p).length ts)
theorem tbS_size (t:TabN):(tbS t).size=258+t.S+t.S * t.C:=by
 unfold tbS layTab
 show (((_:List Nat).map UInt8.ofNat).toArray).size=_
 rw [List.size_toArray,List.length_map,List.length_append,List.length_append,List.length_append,flat_len]
 simp
theorem tbS_le {t:TabN} (h:t.Ok):(tbS t).size≤1000:=by
 rw [tbS_size]
 have:t.S * t.C≤24 * 24:=Nat.mul_le_mul h.s2 h.c2
 have:=h.s2
 omega
end Mc
end Go.Proofs.YtjooemengpeaaaaGreat
namespace Go.Proofs.YtjooemengpeaaaaGreat
namespace Mc
open Go.RowKit
section
attribute [local go_sem ↓] Go.wp_at_zero Go.wp_at_succ zvTb
attribute [local go_sem] zcTb_size zcTb_ne aggcells
set_option maxRecDepth 20000 in
set_option maxHeartbeats 8000000 in
theorem Compile_any (w:World) (p:ByteArray) (n:Int) (hx:p.size≤9223372036854775807) :
  Calls Tryz.prog 20 #[.string p,.int .i64 n] w fun e w'=>Below w.heap.size w w'∧CmA w' p n e:=by
 have hxI:(p.size:Int)≤9223372036854775807:=by omega
 have HR1:Hid ((w.alloc (.cells zIm 48)).heap[w.heap.size]?=some (.cells zIm 48 (0,0))):=heap_alloc_new _ _
 have HB1:Hid (Below w.heap.size w (w.alloc (.cells zIm 48))):=(Below.refl _ _).alloc (Nat.le_refl _) _
 have hsz1:(w.alloc (.cells zIm 48)).heap.size=w.heap.size+1:=by simp
 have y0:(w.alloc (.cells zIm 48)).cell? ⟨w.heap.size,0,none⟩=some (.int .i64 0):=by rw [cell_of_row _ _ _ _ _ _ (unhide HR1)];rfl
 have z0:(w.alloc (.cells zIm 48)).frozen? ⟨w.heap.size,0,none⟩=false:=frozen_of_row _ _ _ _ _ (unhide HR1)
 have y1:(w.alloc (.cells zIm 48)).cell? ⟨w.heap.size,1,none⟩=some (.string ⟨#[]⟩):=by rw [cell_of_row _ _ _ _ _ _ (unhide HR1)];rfl
 have z1:(w.alloc (.cells zIm 48)).frozen? ⟨w.heap.size,1,none⟩=false:=frozen_of_row _ _ _ _ _ (unhide HR1)
 have y2:(w.alloc (.cells zIm 48)).cell? ⟨w.heap.size,2,none⟩=some (.slice none 0 0):=by rw [cell_of_row _ _ _ _ _ _ (unhide HR1)];rfl
 have z2:(w.alloc (.cells zIm 48)).frozen? ⟨w.heap.size,2,none⟩=false:=frozen_of_row _ _ _ _ _ (unhide HR1)
 by_cases h284:284 < p.size
 ·have hI:(284:Int) < (p.size:Int):=by omega
  have HF:Hid (CpE p n 1 0):=.long h284
  clear h284 hx
  unfold zIm at *
  go_enter Tryz.func20,Tryz.ntmps20
  go_wp2_with fail
  refine bodyPost_ret (v:=.tuple #[.agg zIm,.int .i64 1,.int .i64 0]) (res_row_tmp2 (p:=4) (u:=5) (v:=6) (ty:=48) rfl _ _ w.heap.size 48 zIm (0,0) _ rfl (by first | exact unhide HR1 | exact set3_heap (unhide HR1) _ _ _) Tryz.underlying48 rfl infoIm _ _ rfl rfl) rfl ⟨?_,.inl ⟨_,_,rfl,unhide HF⟩⟩
  first | exact unhide HB1 | exact (set3_fr _ w.heap.size _ _ _).belowOf (unhide HB1) (unhide HB1).size (Nat.le_refl _)
 ·have hI:(p.size:Int)≤284:=by omega
  have hsc:n < 0∨(0≤n∧16 < n)∨(0≤n∧n≤16):=by omega
  rcases hsc with i1 | ⟨i1,i2⟩ | ⟨i1,i2⟩
  iterate 2
   ·have HF:Hid (CpE p n 4 0):=.arg (by omega) (by omega)
    clear h284 hx
    unfold zIm at *
    go_enter Tryz.func20,Tryz.ntmps20
    go_wp2_with fail
    refine bodyPost_ret (v:=.tuple #[.agg zIm,.int .i64 4,.int .i64 0]) (res_row_tmp2 (p:=4) (u:=5) (v:=6) (ty:=48) rfl _ _ w.heap.size 48 zIm (0,0) _ rfl (by first | exact unhide HR1 | exact set3_heap (unhide HR1) _ _ _) Tryz.underlying48 rfl infoIm _ _ rfl rfl) rfl ⟨?_,.inl ⟨_,_,rfl,unhide HF⟩⟩
    first | exact unhide HB1 | exact (set3_fr _ w.heap.size _ _ _).belowOf (unhide HB1) (unhide HB1).size (Nat.le_refl _)
  obtain ⟨N,rfl⟩:=Int.eq_ofNat_of_zero_le i1
  have HN:Hid (0≤(N:Int)∧(N:Int)≤16):=⟨i1,i2⟩
  have HP:Hid (p.size≤284):=by show _≤_;omega
  have HSL:=hide (splitLines_any (w.alloc (.cells zIm 48)) p (unhide HP))
  clear h284 hx y0 y1 y2 z0 z1 z2
  unfold zIm at *
  go_enter Tryz.func20,Tryz.ntmps20
  go_wp2_with fail
  refine (unhide HSL).mono ?_
  rintro e w2 ⟨va,vc,rfl,hC⟩
  have HROW:=hide hC.row
  have HR2:Hid (w2.heap[w.heap.size]?=some (.cells #[.int .i64 0,.string ⟨#[]⟩,.slice none 0 0] 48 (0,0))):=(hC.below.block _ (by omega)).trans (unhide HR1)
  have HB2:Hid (Below w.heap.size w w2):=(unhide HB1).trans (hC.below.mono (by omega))
  have hs2:w.heap.size < w2.heap.size:=by have:=hC.below.size;omega
  clear hC HSL HR1 HB1 hsz1
  have HE5:Hid (¬(1≤(cutL p).length∧(cutL p).length≤4)→CpE p (N:Int) 5 0):=fun h=>.rules (unhide HP) (unhide HN) h
  have HRU:Hid (∀ (i:Nat) (er:Int),1≤(cutL p).length∧(cutL p).length≤4→i < (cutL p).length→(∀ j,j < i→∃ t,PatA ((cutL p).getD j ByteArray.empty) t 0∧t.size≤1000)→er≠0→PatA ((cutL p).getD i ByteArray.empty) ⟨#[]⟩ er→CpE p (N:Int) er i):=fun i er h1 h2 h3 h4 h5=>.rule (unhide HP) (unhide HN) h1 i er h2 h3 h4 h5
  have HFO:Hid (1≤(cutL p).length∧(cutL p).length≤4→(∀ j,j < (cutL p).length→∃ t,PatA ((cutL p).getD j ByteArray.empty) t 0∧t.size≤1000)→(fcheck (cutL p).length (cutR p)).1=6→CpE p (N:Int) 6 ((fcheck (cutL p).length (cutR p)).2:Int)):=fun h1 h2 h3=>.form (unhide HP) (unhide HN) h1 h2 h3
  have HFZ:Hid ((cutR p).size≤284):=Nat.le_trans (cutR_sz p) (unhide HP)
  obtain ⟨L,hL⟩:∃ L,L=cutL p:=⟨_,rfl⟩
  obtain ⟨f,hf⟩:∃ f,f=cutR p:=⟨_,rfl⟩
  rw [←hL] at HROW HE5 HRU HFO ⊢
  rw [←hf] at HFO HFZ ⊢
  have HLE:=hide hL
  have HFE:=hide hf
  clear hL hf
  by_cases hl:1≤L.length∧L.length≤4
  ·have hl1:(1:Int)≤(L.length:Int):=by omega
   have hl4:(L.length:Int)≤4:=by omega
   have HLL:=hide hl
   have HI3:Hid ((w2.alloc (.cells #[.int .i64 (N:Int),.string f,.slice none 0 0] 48)).heap[w2.heap.size]?=some (.cells #[.int .i64 (N:Int),.string f,.slice none 0 0] 48 (0,0))):=heap_alloc_new _ _
   have HR3:Hid ((w2.alloc (.cells #[.int .i64 (N:Int),.string f,.slice none 0 0] 48)).heap[w.heap.size]?=some (.cells #[.int .i64 0,.string ⟨#[]⟩,.slice none 0 0] 48 (0,0))):=(Fr.ofAlloc w2 _).at (unhide HR2) (by simp)
   have HB3:Hid (Below w.heap.size w (w2.alloc (.cells #[.int .i64 (N:Int),.string f,.slice none 0 0] 48))):=(unhide HB2).alloc (unhide HB2).size _
   have HW3:Hid (TxR (w2.alloc (.cells #[.int .i64 (N:Int),.string f,.slice none 0 0] 48)) 0 (.slice va L.length vc) L):=own_less ((Fr.ofAlloc w2 _).own (unhide HROW) (by simp)) (Nat.zero_le _)
   have HQL:Hid (∀ q,(Value.slice va L.length vc).ownBlock=some q→q < w2.heap.size):=fun q hq=>(World.ownsRow.lt (unhide HROW) q hq).2
   clear HROW HR2 HB2 HE5 hl
   go_wp2_with fail
   generalize (w2.alloc (.cells #[.int .i64 (N:Int),.string f,.slice none 0 0] 48))=w3 at *
   have HNE:Hid (w.heap.size≠w2.heap.size):=by show _≠_;omega
   have HGE:Hid (w.heap.size≤w2.heap.size):=by show _≤_;omega
   generalize w2.heap.size=gi at *
   go_loopw [10] (fun ix wr=>∃ (i:Nat) (ta:Option Addr) (tc:Nat) (ts:Nat→TabN) (cs:List Value),ix=.int .i64 (i:Int)∧Hid (i≤L.length∧(∀ j,j < i→PatA (L.getD j ByteArray.empty) (tbS (ts j)) 0)∧RtI w3 wr gi N f ta tc ts cs i)) (fun ix _=>L.length - (intOf ix).toNat)
   case atStart=>exact ⟨0,none,0,fun _=>⟨0,0,fun _=>0,fun _=>false,fun _ _=>0⟩,[],rfl,Nat.zero_le _,fun j hj=>by omega,RtI.start (unhide HI3)⟩
   case round =>
    clear HI3
    rename World=>wr
    obtain ⟨i,ta,tc,ts,cs,rfl,HH⟩:=hrel
    obtain ⟨hi,hpt,hI⟩:=unhide HH
    clear HH
    have HR4:Hid (wr.heap[w.heap.size]?=some (.cells #[.int .i64 0,.string ⟨#[]⟩,.slice none 0 0] 48 (0,0))):=hI.fr.at (unhide HR3) (by simpa using unhide HNE)
    have HB4:Hid (Below w.heap.size w wr):=hI.fr.belowOf (unhide HB3) (unhide HB3).size (unhide HGE)
    by_cases hlt:i < L.length
    ·have hiI:(i:Int) < (L.length:Int):=by omega
     have hi0:(0:Int)≤(i:Int):=by omega
     have hi1:((i:Int)).toNat=i:=by omega
     have hrw:TxR wr 0 (.slice va L.length vc) L:=hI.fr.own (unhide HW3) (fun q hq=>by have:=unhide HQL q hq;simp;omega)
     obtain ⟨gl,rfl,hgl,k0⟩:=hrw.at hlt
     have HOF:=hide (OfPattern_P wr (L.getD i ByteArray.empty))
     have HI:=hide hI
     have HPT:=hide hpt
     have HLT:=hide hlt
     obtain ⟨q,hq⟩:∃ q,q=L.getD i ByteArray.empty:=⟨_,rfl⟩
     rw [←hq] at HOF k0
     have HQ:=hide hq
     clear hi hpt hI hlt hrw hq
     go_wp2_with fail
     refine (unhide HOF).mono ?_
     clear HOF k0
     rintro e w4 ⟨hb4,⟨er,her,rfl,hpa⟩ | ⟨Lg,S,C,nx,gr,cl,nc,gv,nv,rfl,hg,hn,htab,hpa⟩⟩
     ·have HF:Hid (CpE p (N:Int) er i):=unhide HRU i er (unhide HLL) (unhide HLT) (fun j hj=>⟨_,unhide HPT j hj,tbS_le ((unhide HI).rows j hj).choose_spec.choose_spec.2.ok⟩) her (by rw [←unhide HQ];exact hpa)
      have her':¬er=0:=her
      have HR5:Hid ((w4.alloc (.cells zcT 78)).heap[w.heap.size]?=some (.cells #[.int .i64 0,.string ⟨#[]⟩,.slice none 0 0] 48 (0,0))):=(Fr.ofAlloc w4 _).at ((hb4.block _ (Array.getElem?_eq_some_iff.1 (unhide HR4)).1).trans (unhide HR4)) (by simp)
      have HB5:Hid (Below w.heap.size w (w4.alloc (.cells zcT 78))):=(below_tr (unhide HB4) hb4).alloc (below_tr (unhide HB4) hb4).size _
      have y0:(w4.alloc (.cells zcT 78)).cell? ⟨w.heap.size,0,none⟩=some (.int .i64 0):=by rw [cell_of_row _ _ _ _ _ _ (unhide HR5)];rfl
      have z0:(w4.alloc (.cells zcT 78)).frozen? ⟨w.heap.size,0,none⟩=false:=frozen_of_row _ _ _ _ _ (unhide HR5)
      have y1:(w4.alloc (.cells zcT 78)).cell? ⟨w.heap.size,1,none⟩=some (.string ⟨#[]⟩):=by rw [cell_of_row _ _ _ _ _ _ (unhide HR5)];rfl
      have z1:(w4.alloc (.cells zcT 78)).frozen? ⟨w.heap.size,1,none⟩=false:=frozen_of_row _ _ _ _ _ (unhide HR5)
      have y2:(w4.alloc (.cells zcT 78)).cell? ⟨w.heap.size,2,none⟩=some (.slice none 0 0):=by rw [cell_of_row _ _ _ _ _ _ (unhide HR5)];rfl
      have z2:(w4.alloc (.cells zcT 78)).frozen? ⟨w.heap.size,2,none⟩=false:=frozen_of_row _ _ _ _ _ (unhide HR5)
      have hlr:w.heap.size < (w4.alloc (.cells zcT 78)).heap.size:=(Array.getElem?_eq_some_iff.1 (unhide HR5)).1
      clear hb4 her hpa HRU HFO HPT HI
      go_wp2_with (refine store_row rfl 78 _ _ rfl rfl w4.heap.size zcT rfl rfl 78 _ (heap_alloc_new _ _) (by rw [zcT_size];exact infoT) (by rw [zcTb_size,zcT_size]) (tabA_one _ _ _ _ _ _ _ _) ?_;rw [setRow_alloc1])
      exact bodyPost_ret (v:=.tuple #[.agg zIm,.int .i64 er,.int .i64 (i:Int)]) (res_row_tmp2 (p:=4) (u:=5) (v:=6) (ty:=48) rfl _ _ w.heap.size 48 _ (0,0) _ rfl (set3_heap (unhide HR5) _ _ _) Tryz.underlying48 rfl infoIm _ _ rfl rfl) rfl ⟨(set3_fr _ w.heap.size _ _ _).belowOf (unhide HB5) (unhide HB5).size (Nat.le_refl _),.inl ⟨_,_,rfl,unhide HF⟩⟩
     ·have hrm:=rows_made htab hg hn
      obtain ⟨T,hT⟩:∃ T:TabN,T=⟨S,C,cl,gr,nc⟩:=⟨_,rfl⟩
      have hpa':PatA q (tbS T) 0:=by rw [hT];exact hpa
      have hcc:tabA cl C gv nv=tbC T.cl T.C gv nv:=by rw [hT];exact tabA_tbC _ _ _ _
      rw [←hT] at hrm
      rw [hcc]
      clear hpa hcc hT htab hg hn
      obtain ⟨a1,n1,k1,a2,n2,k2,rfl,rfl⟩:=hrm.form
      have HSZ:=hide (tbC_size T.cl T.C (.slice a1 n1 k1) (.slice a2 n2 k2))
      have HON:=hide (tbC_one a1 a2 n1 n2 k1 k2 T.cl T.C)
      obtain ⟨ts',hts'⟩:∃ ts':Nat→TabN,ts'=fun j=>if j=i then T else ts j:=⟨_,rfl⟩
      have hti:ts' i=T:=by rw [hts'];exact if_pos rfl
      have htj:∀ j,j < i→ts' j=ts j:=fun j hj=>by rw [hts'];exact if_neg (by omega)
      have HI2:=hide ((((unhide HI).to htj).below hb4).alloc (.cells (tbC T.cl T.C (.slice a1 n1 k1) (.slice a2 n2 k2)) 78))
      have HPA:Hid (∀ j,j < i+1→PatA (L.getD j ByteArray.empty) (tbS (ts' j)) 0):=fun j hj=>by
       by_cases e:j=i
       ·rw [e,hti,←unhide HQ];exact hpa'
       ·rw [htj j (by omega)];exact unhide HPT j (by omega)
      have HC0:Hid (∀ c0,tbC T.cl T.C (.slice a1 n1 k1) (.slice a2 n2 k2)=c0→tbC (ts' i).cl (ts' i).C (.slice a1 n1 k1) (.slice a2 n2 k2)=c0):=fun c0 h=>by rw [hti];exact h
      have hrm':TRws w4 w4.heap.size (ts' i) (.slice a1 n1 k1) (.slice a2 n2 k2):=by rw [hti];exact hrm
      generalize hc0:tbC T.cl T.C (.slice a1 n1 k1) (.slice a2 n2 k2)=c0 at *
      have HC1:=hide (unhide HC0 c0 rfl)
      have HX2:=hide ((unhide HI2).alloc (.cells c0 78))
      have HB2:Hid (Below w4.heap.size w4 ((w4.alloc (.cells c0 78)).alloc (.cells c0 78))):=((Below.refl _ _).alloc (Nat.le_refl _) _).alloc (by simp) _
      have HRW2:Hid (TRws ((w4.alloc (.cells c0 78)).alloc (.cells c0 78)) ((w4.alloc (.cells c0 78)).alloc (.cells c0 78)).heap.size (ts' i) (.slice a1 n1 k1) (.slice a2 n2 k2)):=hrm'.fr (Fr.ofBelow (unhide HB2)) (NoRows.nil _) (by simp;omega)
      have c2:(w4.alloc (.cells c0 78)).cell? ⟨gi,2,none⟩=some (.slice ta i tc):=by rw [cell_of_row _ _ _ _ _ _ (unhide HI2).im];rfl
      have hg2:gi < (w4.alloc (.cells c0 78)).heap.size:=(Array.getElem?_eq_some_iff.1 (unhide HI2).im).1
      have HWS:Hid (w3.heap.size≤(w4.alloc (.cells c0 78)).heap.size):=(unhide HI2).le
      have HI1000:Hid (i≤1000):=by have:=unhide HLT;have:=unhide HLL;show _≤_;omega
      clear hb4 hpa' hrm hrm' hc0 HI HPT HC0 hti htj hts' HB2
      go_wp2_with (first
       | (refine store_row rfl 78 _ _ rfl rfl w4.heap.size c0 rfl rfl 78 _ (heap_alloc_new _ _) (by rw [unhide HSZ];exact infoT) (by rw [zcTb_size];exact (unhide HSZ).symm) (unhide HON) ?_;rw [setRow_alloc1])
       | (refine wpList_load_row rfl 78 _ rfl w4.heap.size rfl 78 _ (0,0) _ (heap_alloc_new _ _) Tryz.underlying78 rfl (by rw [unhide HSZ];exact infoT) ?_)
       | (refine bsTq rfl _ rfl c0 rfl (unhide HSZ) ?_)
       | (at_builtin;refine appTq rfl (.tmp 63) (.tmp 65) rfl w3.heap.size _ i cs rfl (unhide HX2).own (w4.alloc (.cells c0 78)).heap.size c0 rfl (heap_alloc_new _ _) (unhide HSZ) (unhide HON) (unhide HI1000) (by have:=unhide HWS;simp at this ⊢;omega) (w4.heap.size+2) (by simp) ?_;intro g5 cap5 w8 ho hgrow hlies hlt5;obtain ⟨c9,f9,hP9⟩:=(unhide HX2).pushC (unhide HRW2) (unhide HC1) hgrow ho;have HP9:=hide hP9;clear ho hgrow hlies hP9))
      go_roundw
      case rel=>exact ⟨i+1,_,_,ts',_,by go_num,unhide HLT,unhide HPA,unhide HP9⟩
      case measure=>have:=unhide HLT;simp [intOf];omega
    ·have hi2:i=L.length:=by omega
     subst hi2
     have HCF:=hide (checkFormula_any wr f L.length (by have:=unhide HLL;omega) (by have:=unhide HFZ;omega))
     obtain ⟨hfc,hfc2⟩:=fcheck_ok (R:=L.length) (T:=f)
     obtain ⟨g0,cap0,he⟩:=own_form hI.own (by have:=unhide HLL;omega)
     simp only [Value.slice.injEq,true_and] at he
     obtain ⟨rfl,rfl⟩:=he
     have HI:=hide hI
     have HPT:=hide hpt
     clear hi hlt hpt hI hfc
     go_wp2_with fail
     refine (unhide HCF).mono ?_
     rintro e w5 ⟨rfl,hb5⟩
     have HI5:=hide ((unhide HI).below hb5)
     have HR5:Hid (w5.heap[w.heap.size]?=some (.cells #[.int .i64 0,.string ⟨#[]⟩,.slice none 0 0] 48 (0,0))):=(hb5.block _ (Array.getElem?_eq_some_iff.1 (unhide HR4)).1).trans (unhide HR4)
     have HB5:=hide (below_tr (unhide HB4) hb5)
     have y0:w5.cell? ⟨w.heap.size,0,none⟩=some (.int .i64 0):=by rw [cell_of_row _ _ _ _ _ _ (unhide HR5)];rfl
     have z0:w5.frozen? ⟨w.heap.size,0,none⟩=false:=frozen_of_row _ _ _ _ _ (unhide HR5)
     have y1:w5.cell? ⟨w.heap.size,1,none⟩=some (.string ⟨#[]⟩):=by rw [cell_of_row _ _ _ _ _ _ (unhide HR5)];rfl
     have z1:w5.frozen? ⟨w.heap.size,1,none⟩=false:=frozen_of_row _ _ _ _ _ (unhide HR5)
     have y2:w5.cell? ⟨w.heap.size,2,none⟩=some (.slice none 0 0):=by rw [cell_of_row _ _ _ _ _ _ (unhide HR5)];rfl
     have z2:w5.frozen? ⟨w.heap.size,2,none⟩=false:=frozen_of_row _ _ _ _ _ (unhide HR5)
     have hlr:w.heap.size < w5.heap.size:=(Array.getElem?_eq_some_iff.1 (unhide HR5)).1
     clear HCF hb5 HI HR4 HB4
     rcases hfc2 with hc0 | hc6
     ·have HOK:Hid (CpO p (N:Int) N ts):=by
       have e1:=unhide HLE
       have e2:=unhide HFE
       subst e1
       subst e2
       exact ⟨unhide HP,rfl,by have:=unhide HN;omega,(unhide HLL).1,(unhide HLL).2,unhide HPT,fun j hj=>((unhide HI5).rows j hj).choose_spec.choose_spec.2.ok,hc0⟩
      have HIM:=hide (unhide HI5).im
      have HTB:=hide (unhide HI5).tbs
      have HNG:Hid (g0≠w.heap.size):=own_off (unhide HI5).own (unhide HR5) (by decide) g0 rfl
      rw [hc0]
      clear hc0 HRU HFO HPT
      generalize (fcheck L.length f).2=kk at *
      go_wp2_with (refine wpList_load_row rfl 48 _ rfl gi rfl 48 _ (0,0) _ (unhide HIM) Tryz.underlying48 rfl infoIm ?_)
      refine bodyPost_ret (res_row_tmp2 (p:=4) (u:=5) (v:=6) (ty:=48) rfl _ _ w.heap.size 48 _ (0,0) _ rfl (set3_heap (unhide HR5) _ _ _) Tryz.underlying48 rfl infoIm _ _ rfl rfl) rfl ?_
      refine ⟨(set3_fr _ w.heap.size _ _ _).belowOf (unhide HB5) (unhide HB5).size (Nat.le_refl _),.inr ⟨N,ts,g0,tc,by rw [←unhide HLE,←unhide HFE];rfl,unhide HOK,?_⟩⟩
      rw [←unhide HLE]
      exact (unhide HTB).setIm (unhide HR5) (set3_fr _ _ _ _ _) (unhide HNG)
     ·have HF:=hide (unhide HFO (unhide HLL) (fun j hj=>⟨_,unhide HPT j hj,tbS_le ((unhide HI5).rows j hj).choose_spec.choose_spec.2.ok⟩) hc6)
      rw [hc6]
      clear hc6 HRU HFO HPT
      generalize (fcheck L.length f).2=kk at *
      go_wp2_with fail
      exact bodyPost_ret (v:=.tuple #[.agg zIm,.int .i64 6,.int .i64 (kk:Int)]) (res_row_tmp2 (p:=4) (u:=5) (v:=6) (ty:=48) rfl _ _ w.heap.size 48 _ (0,0) _ rfl (set3_heap (unhide HR5) _ _ _) Tryz.underlying48 rfl infoIm _ _ rfl rfl) rfl ⟨(set3_fr _ w.heap.size _ _ _).belowOf (unhide HB5) (unhide HB5).size (Nat.le_refl _),.inl ⟨_,_,rfl,unhide HF⟩⟩
  ·have HF:=hide (unhide HE5 hl)
   have hls:(L.length:Int) < 1∨((1:Int)≤(L.length:Int)∧(4:Int) < (L.length:Int)):=by omega
   have y0:w2.cell? ⟨w.heap.size,0,none⟩=some (.int .i64 0):=by rw [cell_of_row _ _ _ _ _ _ (unhide HR2)];rfl
   have z0:w2.frozen? ⟨w.heap.size,0,none⟩=false:=frozen_of_row _ _ _ _ _ (unhide HR2)
   have y1:w2.cell? ⟨w.heap.size,1,none⟩=some (.string ⟨#[]⟩):=by rw [cell_of_row _ _ _ _ _ _ (unhide HR2)];rfl
   have z1:w2.frozen? ⟨w.heap.size,1,none⟩=false:=frozen_of_row _ _ _ _ _ (unhide HR2)
   have y2:w2.cell? ⟨w.heap.size,2,none⟩=some (.slice none 0 0):=by rw [cell_of_row _ _ _ _ _ _ (unhide HR2)];rfl
   have z2:w2.frozen? ⟨w.heap.size,2,none⟩=false:=frozen_of_row _ _ _ _ _ (unhide HR2)
   clear hl HROW HRU HFO HE5
   rcases hls with hl1 | ⟨hl1,hl4⟩
   all_goals
    go_wp2_with fail
    exact bodyPost_ret (v:=.tuple #[.agg zIm,.int .i64 5,.int .i64 0]) (res_row_tmp2 (p:=4) (u:=5) (v:=6) (ty:=48) rfl _ _ w.heap.size 48 _ (0,0) _ rfl (set3_heap (unhide HR2) _ _ _) Tryz.underlying48 rfl infoIm _ _ rfl rfl) rfl ⟨(set3_fr _ w.heap.size _ _ _).belowOf (unhide HB2) (unhide HB2).size (Nat.le_refl _),.inl ⟨_,_,rfl,unhide HF⟩⟩
end
end Mc
end Go.Proofs.YtjooemengpeaaaaGreat
namespace Go.Proofs.YtjooemengpeaaaaGreat
namespace Mc
open Go.RowKit
theorem strN_size' (xs:List Nat):(strN xs).size=xs.length:=by show ((xs.map UInt8.ofNat).toArray).size=_;simp
theorem lay_bytes (S C:Nat) (cl:Nat→Nat) (gr:Nat→Bool) (nc:Nat→Nat→Nat):bytesT ((List.range S).map gr).length C cl ((List.range S).map gr) ((List.range S).flatMap (fun i=>(List.range C).map (nc i)))=layTab S C cl gr nc:=by
 unfold bytesT layTab
 rw [List.length_map,List.length_range,List.map_map]
 rfl
theorem flat_of (C:Nat) (nc:Nat→Nat→Nat) (S:Nat) {ns:List Nat} (hl:ns.length=S * C) (h:∀ q c,q < S→c < C→ns.getD (q * C+c) 0=nc q c):ns=(List.range S).flatMap (fun i=>(List.range C).map (nc i)):=by
 apply List.ext_getElem (by rw [flat_len];exact hl)
 intro k h1 h2
 have hC:0 < C:=by
  cases C with
  | zero=>rw [hl] at h1;simp at h1
  | succ C=>omega
 have hq:k / C < S:=by rw [Nat.div_lt_iff_lt_mul hC];rw [hl] at h1;exact h1
 have hc:k % C < C:=Nat.mod_lt _ hC
 have e:k / C * C+k % C=k:=by rw [Nat.mul_comm];exact Nat.div_add_mod _ _
 have g1:=h _ _ hq hc
 have g2:=flat_getD C nc S _ _ hq hc
 rw [e] at g1 g2
 rw [List.getD_eq_getElem?_getD,List.getElem?_eq_getElem h1] at g1
 rw [List.getD_eq_getElem?_getD,List.getElem?_eq_getElem h2] at g2
 exact g1.trans g2.symm
theorem bools_of {S:Nat} {gr:Nat→Bool} {bs:List Bool} (hl:bs.length=S) (h:∀ q,q < S→bs.getD q false=gr q):bs=(List.range S).map gr:=by
 apply List.ext_getElem (by rw [List.length_map,List.length_range];exact hl)
 intro k h1 h2
 have:=h k (by omega)
 rw [List.getD_eq_getElem?_getD,List.getElem?_eq_getElem h1] at this
 rw [List.getElem_map,List.getElem_range]
 exact this
theorem tbytes_of {w:World} {B gt:Nat} {t:TabN} {gv nv:Value} (h:TRws w B t gv nv) (hg:w.heap[gt]?=some (.cells (tbC t.cl t.C gv nv) 78 (0,0))) :
  Calls Tryz.prog 35 #[.pointer (some ⟨gt,0,none⟩)] w fun e w'=>e=.returned (.string (tbS t))∧Below w.heap.size w w':=by
 obtain ⟨bs,ns,h1,h2,-,-,h3,h4,h5,h6⟩:=h.ex
 obtain rfl:=bools_of h3 h4
 obtain rfl:=flat_of t.C t.nx t.S h5 h6
 have hk:=h.ok
 rw [←tabA_tbC] at hg
 have:=TBytes_any w gt t.cl t.C _ _ ⟨gv,nv,hg,h1,h2⟩ hk.c2 (by simp;exact hk.s2) (fun b hb=>by have:=hk.cl b hb;have:=hk.c2;omega) (fun x hx=>by
  obtain ⟨i,hi,hx⟩:=List.mem_flatMap.1 hx
  obtain ⟨c,hc,rfl⟩:=List.mem_map.1 hx
  have:=hk.nx i c (List.mem_range.1 hi) (List.mem_range.1 hc)
  have:=hk.s2
  omega) (by
  rw [flat_len]
  have:=Nat.mul_le_mul hk.s2 hk.c2
  omega)
 rw [lay_bytes] at this
 exact this
def joinT (ts:Nat→ByteArray):Nat→ByteArray
 | 0=>⟨#[]⟩
 | i+1=>joinT ts i++ts i
def imB (N:Nat) (f:ByteArray) (m:Nat) (ts:Nat→ByteArray):ByteArray:=strN [86,80,N,m,f.size]++f++joinT ts m
theorem joinT_size (ts:Nat→ByteArray):∀ m,(∀ j,j < m→(ts j).size≤1000)→(joinT ts m).size≤1000 * m
 | 0,_=>Nat.zero_le _
 | m+1,h=>by
  have:=joinT_size ts m (fun j hj=>h j (by omega))
  have:=h m (by omega)
  rw [joinT,ByteArray.size_append];omega
theorem app_nilB (a:ByteArray):a++(⟨#[]⟩:ByteArray)=a:=by
 apply ByteArray.ext
 rw [ByteArray.data_append];simp
section
attribute [local go_sem ↓] Go.wp_at_zero Go.wp_at_succ zvTb
attribute [local go_sem] zcTb_size zcTb_ne aggcells
set_option maxRecDepth 20000 in
set_option maxHeartbeats 4000000 in
theorem Bytes_any (w:World) (B gi N m tc g:Nat) (f:ByteArray) (ts:Nat→TabN) (him:w.heap[gi]?=some (.cells #[.int .i64 (N:Int),.string f,.slice (some ⟨g,0,none⟩) m tc] 48 (0,0))) (ht:Tbs w B g m ts) (hB:B≤w.heap.size) (hm:m≤4) (hN:N≤16) (hf:f.size≤40) :
  Calls Tryz.prog 21 #[.pointer (some ⟨gi,0,none⟩)] w fun e w'=>e=.returned (.string (imB N f m (fun j=>tbS (ts j))))∧Below w.heap.size w w':=by
 have c0:w.cell? ⟨gi,0,none⟩=some (.int .i64 (N:Int)):=by rw [cell_of_row _ _ _ _ _ _ him];rfl
 have c1:w.cell? ⟨gi,1,none⟩=some (.string f):=by rw [cell_of_row _ _ _ _ _ _ him];rfl
 have c2:w.cell? ⟨gi,2,none⟩=some (.slice (some ⟨g,0,none⟩) m tc):=by rw [cell_of_row _ _ _ _ _ _ him];rfl
 have hgi:=(Array.getElem?_eq_some_iff.1 him).1
 have hw1:=wrapB N (by omega)
 have hw2:=wrapB m (by omega)
 have hw3:=wrapB f.size (by omega)
 have hmI:(m:Int)≤4:=by omega
 have hfI:(f.size:Int)≤40:=by omega
 have HIM:=hide him
 have HT:=hide ht
 have HBB:=hide hB
 have HM:=hide hm
 have HF:=hide hf
 have HNN:=hide hN
 have HB0:Hid (Below w.heap.size w (w.alloc (.cells #[.int .u8 (N:Int),.int .u8 (m:Int),.int .u8 (f.size:Int)] 5))):=(Below.refl _ _).alloc (Nat.le_refl _) _
 have HU0:Hid (URow (w.alloc (.cells #[.int .u8 (N:Int),.int .u8 (m:Int),.int .u8 (f.size:Int)] 5)) 0 (.slice (some ⟨w.heap.size,0,none⟩) [N,m,f.size].length 3) [N,m,f.size]):=⟨rfl,.inr ⟨_,3,_,rfl,Nat.zero_le _,heap_alloc_new _ _,Nat.le_refl _,by unfold maxLen;omega,rfl,rfl⟩⟩
 clear him ht hB hm hf hN
 go_enter Tryz.func21,Tryz.ntmps21
 go_upto_region 1 with fail
 go_cut [3] (fun tv wx=>∃ g3,tv=.slice (some ⟨g3,0,none⟩) 3 3∧Hid (Below w.heap.size w wx∧URow wx 0 (.slice (some ⟨g3,0,none⟩) 3 3) [N,m,f.size]))
 case first =>
  go_region
  all_goals
   go_wp2_with fail
   go_meet
   exact ⟨_,rfl,(unhide HB0).drew,unhide HU0⟩
 case rest =>
  rename World=>w1
  obtain ⟨g3,rfl,HC1⟩:=hcut
  clear HB0 HU0 hw1 hw2 hw3 c0 c1 c2
  have hb1:=(unhide HC1).1
  have him1:=(hb1.block _ hgi).trans (unhide HIM)
  have c1:w1.cell? ⟨gi,1,none⟩=some (.string f):=by rw [cell_of_row _ _ _ _ _ _ him1];rfl
  have hg1:=(Array.getElem?_eq_some_iff.1 him1).1
  have hcv:∀ n,(convert 71 9 (.slice (some ⟨g3,0,none⟩) 3 3)).run Tryz.prog (w1.drewN n)=.ok (.string (strN [N,m,f.size])) (w1.drewN n):=fun n=>conv_row (w:=w1.drewN n) (xs:=[N,m,f.size]) (unhide HC1).2 (fun x hx=>by have:=unhide HNN;have:=unhide HM;have:=unhide HF;simp at hx;omega)
  have hz0:(strN [N,m,f.size]).size=3:=strN_size' _
  have HS5:Hid (⟨#[86,80]⟩++strN [N,m,f.size]++f=strN [86,80,N,m,f.size]++f++joinT (fun j=>tbS (ts j)) 0):=by
   show _=_
   rw [joinT,app_nilB]
   rfl
  have HBW:=hide hb1
  generalize strN [N,m,f.size]=s3 at *
  have hz1:¬9223372036854775807 < 2+s3.size:=by omega
  have hz2:¬9223372036854775807 < 2+s3.size+f.size:=by have:=unhide HF;omega
  clear hb1 him1 HC1
  go_wp2_with fail
  go_quiet (fail)
  go_wp2_with fail
  have HB2:=hide (below_drewN (unhide HBW) nq)
  clear HBW hcv hz1 hz2 hz0 c1 hg1
  generalize w1.drewN nq=w2 at *
  go_loopw [4,5] (fun tx ix wr=>∃ (i:Nat) (s:ByteArray),tx=.string s∧ix=.int .i64 (i:Int)∧Hid (i≤m∧s=strN [86,80,N,m,f.size]++f++joinT (fun j=>tbS (ts j)) i∧Below w.heap.size w wr)) (fun _ ix _=>m - (intOf ix).toNat)
  case atStart=>exact ⟨0,_,rfl,rfl,Nat.zero_le _,unhide HS5,unhide HB2⟩
  case round =>
   clear HS5 HB2
   rename World=>wr
   obtain ⟨i,s,rfl,rfl,HH⟩:=hrel
   obtain ⟨hi,hs,hb⟩:=unhide HH
   clear HH
   have him1:=(hb.block _ hgi).trans (unhide HIM)
   have c2:wr.cell? ⟨gi,2,none⟩=some (.slice (some ⟨g,0,none⟩) m tc):=by rw [cell_of_row _ _ _ _ _ _ him1];rfl
   have hg1:=(Array.getElem?_eq_some_iff.1 him1).1
   by_cases hlt:i < m
   ·have hiI:(i:Int) < (m:Int):=by omega
    have hi0:(0:Int)≤(i:Int):=by omega
    have hi1:((i:Int)).toNat=i:=by omega
    have htb:=(unhide HT).below (hb.mono (unhide HBB))
    have hgl:g < wr.heap.size:=by have:=htb.lt;have:=unhide HBB;have:=hb.size;omega
    obtain ⟨gv,nv,hr,hrw⟩:=htb.at_ i hlt
    obtain ⟨a1,n1,k1,a2,n2,k2,rfl,rfl⟩:=hrw.form
    have HR:=hide hr
    have HSZ:=hide (tbC_size (ts i).cl (ts i).C (.slice a1 n1 k1) (.slice a2 n2 k2))
    have HON:=hide (tbC_one a1 a2 n1 n2 k1 k2 (ts i).cl (ts i).C)
    have HBY:=hide (tbytes_of (hrw.below (((Below.refl _ _).alloc (Nat.le_refl _) (.cells (tbC (ts i).cl (ts i).C (.slice a1 n1 k1) (.slice a2 n2 k2)) 78)).mono (show B≤wr.heap.size by have:=unhide HBB;have:=hb.size;omega))) (heap_alloc_new wr _))
    have hz:¬9223372036854775807 < s.size+(tbS (ts i)).size:=by
     have h1:=tbS_le hrw.ok
     have h2:=joinT_size (fun j=>tbS (ts j)) i (fun j hj=>by obtain ⟨_,_,_,h⟩:=htb.at_ j (by omega);exact tbS_le h.ok)
     have h3:=unhide HF
     have h4:=unhide HM
     rw [hs,ByteArray.size_append,ByteArray.size_append,strN_size']
     simp only [List.length_cons,List.length_nil]
     omega
    have HNW:Hid (s++tbS (ts i)=strN [86,80,N,m,f.size]++f++joinT (fun j=>tbS (ts j)) (i+1)):=by
     show _=_
     rw [hs,joinT,←ByteArray.append_assoc]
    have HB3:=hide (hb.alloc hb.size (.cells (tbC (ts i).cl (ts i).C (.slice a1 n1 k1) (.slice a2 n2 k2)) 78))
    have HLT:=hide hlt
    clear hi hs hb hlt htb hr hrw him1
    generalize tbC (ts i).cl (ts i).C (.slice a1 n1 k1) (.slice a2 n2 k2)=cs at *
    generalize tbS (ts i)=st at *
    go_wp2_with (first
     | refine _root_.Go.wpList_load_mid rfl 78 _ rfl g (i * 259) rfl cs.toList _ (unhide HR) Tryz.underlying78 rfl (by rw [Array.length_toList,unhide HSZ];exact infoT) ?_
     | (refine store_row rfl 78 _ _ rfl rfl wr.heap.size cs rfl rfl 78 _ (heap_alloc_new _ _) (by rw [unhide HSZ];exact infoT) (by rw [zcTb_size];exact (unhide HSZ).symm) (unhide HON) ?_;rw [setRow_alloc1]))
    refine (unhide HBY).mono ?_
    rintro e w4 ⟨rfl,hb4⟩
    have HB4:=hide (below_tr (unhide HB3) hb4)
    clear hb4 HBY HB3 HR
    go_wp2_with fail
    go_roundw
    case rel=>exact ⟨i+1,_,rfl,by go_num,unhide HLT,unhide HNW,unhide HB4⟩
    case measure=>have:=unhide HLT;simp [intOf];omega
   ·have hi2:i=m:=by omega
    subst hi2
    have HB:=hide hb
    have HS:=hide hs
    clear hi hs hb hlt him1
    go_wp2_with fail
    go_ret
    exact ⟨by rw [unhide HS];rfl,unhide HB⟩
end
end Mc
end Go.Proofs.YtjooemengpeaaaaGreat
