/-
  policies.Compile: the walk.
-/
import Derived.Test.YtobfpgoepaeknaaGreatM27
namespace Go.Proofs.YtobfpgoepaeknaaGreat
namespace Mc
open Go.RowKit
section
attribute [local go_sem ↓] Go.wp_at_zero Go.wp_at_succ zvTb
attribute [local go_sem] zcTb_size zcTb_ne aggcells
set_option maxRecDepth 20000 in
set_option maxHeartbeats 8000000 in
theorem Compile_any (w:World) (p:ByteArray) (n:Int) (hx:p.size≤9223372036854775807) :
  Calls Tryz.prog 31 #[.string p,.int .i64 n] w fun e w'=>Below w.heap.size w w'∧CmA w' p n e:=by
 have hxI:(p.size:Int)≤9223372036854775807:=by omega
 have HR1:Hid ((w.alloc (.cells zIm 76)).heap[w.heap.size]?=some (.cells zIm 76 (0,0))):=heap_alloc_new _ _
 have HB1:Hid (Below w.heap.size w (w.alloc (.cells zIm 76))):=(Below.refl _ _).alloc (Nat.le_refl _) _
 have hsz1:(w.alloc (.cells zIm 76)).heap.size=w.heap.size+1:=by simp
 have y0:(w.alloc (.cells zIm 76)).cell? ⟨w.heap.size,0,none⟩=some (.int .i64 0):=by rw [cell_of_row _ _ _ _ _ _ (unhide HR1)];rfl
 have z0:(w.alloc (.cells zIm 76)).frozen? ⟨w.heap.size,0,none⟩=false:=frozen_of_row _ _ _ _ _ (unhide HR1)
 have y1:(w.alloc (.cells zIm 76)).cell? ⟨w.heap.size,1,none⟩=some (.string ⟨#[]⟩):=by rw [cell_of_row _ _ _ _ _ _ (unhide HR1)];rfl
 have z1:(w.alloc (.cells zIm 76)).frozen? ⟨w.heap.size,1,none⟩=false:=frozen_of_row _ _ _ _ _ (unhide HR1)
 have y2:(w.alloc (.cells zIm 76)).cell? ⟨w.heap.size,2,none⟩=some (.slice none 0 0):=by rw [cell_of_row _ _ _ _ _ _ (unhide HR1)];rfl
 have z2:(w.alloc (.cells zIm 76)).frozen? ⟨w.heap.size,2,none⟩=false:=frozen_of_row _ _ _ _ _ (unhide HR1)
 by_cases h284:284 < p.size
 ·have hI:(284:Int) < (p.size:Int):=by omega
  have HF:Hid (CpE p n 1 0):=.long h284
  clear h284 hx
  unfold zIm at *
  go_enter Tryz.func31,Tryz.ntmps31
  go_wp2_with fail
  refine bodyPost_ret (v:=.tuple #[.agg zIm,.int .i64 1,.int .i64 0]) (res_row_tmp2 (p:=4) (u:=5) (v:=6) (ty:=76) rfl _ _ w.heap.size 76 zIm (0,0) _ rfl (by first | exact unhide HR1 | exact set3_heap (unhide HR1) _ _ _) Tryz.underlying76 rfl infoIm _ _ rfl rfl) rfl ⟨?_,.inl ⟨_,_,rfl,unhide HF⟩⟩
  first | exact unhide HB1 | exact (set3_fr _ w.heap.size _ _ _).belowOf (unhide HB1) (unhide HB1).size (Nat.le_refl _)
 ·have hI:(p.size:Int)≤284:=by omega
  have hsc:n < 0∨(0≤n∧16 < n)∨(0≤n∧n≤16):=by omega
  rcases hsc with i1 | ⟨i1,i2⟩ | ⟨i1,i2⟩
  iterate 2
   ·have HF:Hid (CpE p n 4 0):=.arg (by omega) (by omega)
    clear h284 hx
    unfold zIm at *
    go_enter Tryz.func31,Tryz.ntmps31
    go_wp2_with fail
    refine bodyPost_ret (v:=.tuple #[.agg zIm,.int .i64 4,.int .i64 0]) (res_row_tmp2 (p:=4) (u:=5) (v:=6) (ty:=76) rfl _ _ w.heap.size 76 zIm (0,0) _ rfl (by first | exact unhide HR1 | exact set3_heap (unhide HR1) _ _ _) Tryz.underlying76 rfl infoIm _ _ rfl rfl) rfl ⟨?_,.inl ⟨_,_,rfl,unhide HF⟩⟩
    first | exact unhide HB1 | exact (set3_fr _ w.heap.size _ _ _).belowOf (unhide HB1) (unhide HB1).size (Nat.le_refl _)
  obtain ⟨N,rfl⟩:=Int.eq_ofNat_of_zero_le i1
  have HN:Hid (0≤(N:Int)∧(N:Int)≤16):=⟨i1,i2⟩
  have HP:Hid (p.size≤284):=by show _≤_;omega
  have HSL:=hide (splitLines_any (w.alloc (.cells zIm 76)) p (unhide HP))
  clear h284 hx y0 y1 y2 z0 z1 z2
  unfold zIm at *
  go_enter Tryz.func31,Tryz.ntmps31
  go_wp2_with fail
  refine (unhide HSL).mono ?_
  rintro e w2 ⟨va,vc,rfl,hC⟩
  have HROW:=hide hC.row
  have HR2:Hid (w2.heap[w.heap.size]?=some (.cells #[.int .i64 0,.string ⟨#[]⟩,.slice none 0 0] 76 (0,0))):=(hC.below.block _ (by omega)).trans (unhide HR1)
  have HB2:Hid (Below w.heap.size w w2):=(unhide HB1).trans (hC.below.mono (by omega))
  have hs2:w.heap.size < w2.heap.size:=by have:=hC.below.size;omega
  clear hC HSL HR1 HB1 hsz1
  have HE5:Hid (¬(1≤(cutL p).length∧(cutL p).length≤4)→CpE p (N:Int) 5 0):=fun h=>.rules (unhide HP) (unhide HN) h
  have HRU:Hid (∀ (i:Nat) (er:Int),1≤(cutL p).length∧(cutL p).length≤4→i < (cutL p).length→(∀ j,j < i→∃ t,PatA ((cutL p).getD j ByteArray.empty) t 0∧t.size≤1000)→er≠0→PatA ((cutL p).getD i ByteArray.empty) ⟨#[]⟩ er→CpE p (N:Int) er i):=fun i er h1 h2 h3 h4 h5=>.rule (unhide HP) (unhide HN) h1 i er h2 h3 h4 h5
  have HFO:Hid (1≤(cutL p).length∧(cutL p).length≤4→(∀ j,j < (cutL p).length→∃ t,PatA ((cutL p).getD j ByteArray.empty) t 0∧t.size≤1000)→(fcheck (cutL p).length (cutR p)).1=6→CpE p (N:Int) 6 ((fcheck (cutL p).length (cutR p)).2:Int)):=fun h1 h2 h3=>.form (unhide HP) (unhide HN) h1 h2 h3
  have HFZ:Hid ((cutR p).size≤284):=Nat.le_trans (cutR_sz p) (unhide HP)
  obtain ⟨L,hL⟩:∃ L,L=cutL p:=⟨_,rfl⟩
  obtain ⟨f,hf⟩:∃ f,f=cutR p:=⟨_,rfl⟩
  rw [←hL] at HROW HE5 HRU HFO ⊢
  rw [←hf] at HFO HFZ ⊢
  have HLE:=hide hL
  have HFE:=hide hf
  clear hL hf
  by_cases hl:1≤L.length∧L.length≤4
  ·have hl1:(1:Int)≤(L.length:Int):=by omega
   have hl4:(L.length:Int)≤4:=by omega
   have HLL:=hide hl
   have HI3:Hid ((w2.alloc (.cells #[.int .i64 (N:Int),.string f,.slice none 0 0] 76)).heap[w2.heap.size]?=some (.cells #[.int .i64 (N:Int),.string f,.slice none 0 0] 76 (0,0))):=heap_alloc_new _ _
   have HR3:Hid ((w2.alloc (.cells #[.int .i64 (N:Int),.string f,.slice none 0 0] 76)).heap[w.heap.size]?=some (.cells #[.int .i64 0,.string ⟨#[]⟩,.slice none 0 0] 76 (0,0))):=(Fr.ofAlloc w2 _).at (unhide HR2) (by simp)
   have HB3:Hid (Below w.heap.size w (w2.alloc (.cells #[.int .i64 (N:Int),.string f,.slice none 0 0] 76))):=(unhide HB2).alloc (unhide HB2).size _
   have HW3:Hid (TxR (w2.alloc (.cells #[.int .i64 (N:Int),.string f,.slice none 0 0] 76)) 0 (.slice va L.length vc) L):=own_less ((Fr.ofAlloc w2 _).own (unhide HROW) (by simp)) (Nat.zero_le _)
   have HQL:Hid (∀ q,(Value.slice va L.length vc).ownBlock=some q→q < w2.heap.size):=fun q hq=>(World.ownsRow.lt (unhide HROW) q hq).2
   clear HROW HR2 HB2 HE5 hl
   go_wp2_with fail
   generalize (w2.alloc (.cells #[.int .i64 (N:Int),.string f,.slice none 0 0] 76))=w3 at *
   have HNE:Hid (w.heap.size≠w2.heap.size):=by show _≠_;omega
   have HGE:Hid (w.heap.size≤w2.heap.size):=by show _≤_;omega
   generalize w2.heap.size=gi at *
   go_loopw [10] (fun ix wr=>∃ (i:Nat) (ta:Option Addr) (tc:Nat) (ts:Nat→TabN) (cs:List Value),ix=.int .i64 (i:Int)∧Hid (i≤L.length∧(∀ j,j < i→PatA (L.getD j ByteArray.empty) (tbS (ts j)) 0)∧RtI w3 wr gi N f ta tc ts cs i)) (fun ix _=>L.length - (intOf ix).toNat)
   case atStart=>exact ⟨0,none,0,fun _=>⟨0,0,fun _=>0,fun _=>false,fun _ _=>0⟩,[],rfl,Nat.zero_le _,fun j hj=>by omega,RtI.start (unhide HI3)⟩
   case round =>
    clear HI3
    rename World=>wr
    obtain ⟨i,ta,tc,ts,cs,rfl,HH⟩:=hrel
    obtain ⟨hi,hpt,hI⟩:=unhide HH
    clear HH
    have HR4:Hid (wr.heap[w.heap.size]?=some (.cells #[.int .i64 0,.string ⟨#[]⟩,.slice none 0 0] 76 (0,0))):=hI.fr.at (unhide HR3) (by simpa using unhide HNE)
    have HB4:Hid (Below w.heap.size w wr):=hI.fr.belowOf (unhide HB3) (unhide HB3).size (unhide HGE)
    by_cases hlt:i < L.length
    ·have hiI:(i:Int) < (L.length:Int):=by omega
     have hi0:(0:Int)≤(i:Int):=by omega
     have hi1:((i:Int)).toNat=i:=by omega
     have hrw:TxR wr 0 (.slice va L.length vc) L:=hI.fr.own (unhide HW3) (fun q hq=>by have:=unhide HQL q hq;simp;omega)
     obtain ⟨gl,rfl,hgl,k0⟩:=hrw.at hlt
     have HOF:=hide (OfPattern_P wr (L.getD i ByteArray.empty))
     have HI:=hide hI
     have HPT:=hide hpt
     have HLT:=hide hlt
     obtain ⟨q,hq⟩:∃ q,q=L.getD i ByteArray.empty:=⟨_,rfl⟩
     rw [←hq] at HOF k0
     have HQ:=hide hq
     clear hi hpt hI hlt hrw hq
     go_wp2_with fail
     refine (unhide HOF).mono ?_
     clear HOF k0
     rintro e w4 ⟨hb4,⟨er,her,rfl,hpa⟩ | ⟨Lg,S,C,nx,gr,cl,nc,gv,nv,rfl,hg,hn,htab,hpa⟩⟩
     ·have HF:Hid (CpE p (N:Int) er i):=unhide HRU i er (unhide HLL) (unhide HLT) (fun j hj=>⟨_,unhide HPT j hj,tbS_le ((unhide HI).rows j hj).choose_spec.choose_spec.2.ok⟩) her (by rw [←unhide HQ];exact hpa)
      have her':¬er=0:=her
      have HR5:Hid ((w4.alloc (.cells zcT 47)).heap[w.heap.size]?=some (.cells #[.int .i64 0,.string ⟨#[]⟩,.slice none 0 0] 76 (0,0))):=(Fr.ofAlloc w4 _).at ((hb4.block _ (Array.getElem?_eq_some_iff.1 (unhide HR4)).1).trans (unhide HR4)) (by simp)
      have HB5:Hid (Below w.heap.size w (w4.alloc (.cells zcT 47))):=(below_tr (unhide HB4) hb4).alloc (below_tr (unhide HB4) hb4).size _
      have y0:(w4.alloc (.cells zcT 47)).cell? ⟨w.heap.size,0,none⟩=some (.int .i64 0):=by rw [cell_of_row _ _ _ _ _ _ (unhide HR5)];rfl
      have z0:(w4.alloc (.cells zcT 47)).frozen? ⟨w.heap.size,0,none⟩=false:=frozen_of_row _ _ _ _ _ (unhide HR5)
      have y1:(w4.alloc (.cells zcT 47)).cell? ⟨w.heap.size,1,none⟩=some (.string ⟨#[]⟩):=by rw [cell_of_row _ _ _ _ _ _ (unhide HR5)];rfl
      have z1:(w4.alloc (.cells zcT 47)).frozen? ⟨w.heap.size,1,none⟩=false:=frozen_of_row _ _ _ _ _ (unhide HR5)
      have y2:(w4.alloc (.cells zcT 47)).cell? ⟨w.heap.size,2,none⟩=some (.slice none 0 0):=by rw [cell_of_row _ _ _ _ _ _ (unhide HR5)];rfl
      have z2:(w4.alloc (.cells zcT 47)).frozen? ⟨w.heap.size,2,none⟩=false:=frozen_of_row _ _ _ _ _ (unhide HR5)
      have hlr:w.heap.size < (w4.alloc (.cells zcT 47)).heap.size:=(Array.getElem?_eq_some_iff.1 (unhide HR5)).1
      clear hb4 her hpa HRU HFO HPT HI
      go_wp2_with (refine store_row rfl 47 _ _ rfl rfl w4.heap.size zcT rfl rfl 47 _ (heap_alloc_new _ _) (by rw [zcT_size];exact infoT) (by rw [zcTb_size,zcT_size]) (tabA_one _ _ _ _ _ _ _ _) ?_;rw [setRow_alloc1])
      exact bodyPost_ret (v:=.tuple #[.agg zIm,.int .i64 er,.int .i64 (i:Int)]) (res_row_tmp2 (p:=4) (u:=5) (v:=6) (ty:=76) rfl _ _ w.heap.size 76 _ (0,0) _ rfl (set3_heap (unhide HR5) _ _ _) Tryz.underlying76 rfl infoIm _ _ rfl rfl) rfl ⟨(set3_fr _ w.heap.size _ _ _).belowOf (unhide HB5) (unhide HB5).size (Nat.le_refl _),.inl ⟨_,_,rfl,unhide HF⟩⟩
     ·have hrm:=rows_made htab hg hn
      obtain ⟨T,hT⟩:∃ T:TabN,T=⟨S,C,cl,gr,nc⟩:=⟨_,rfl⟩
      have hpa':PatA q (tbS T) 0:=by rw [hT];exact hpa
      have hcc:tabA cl C gv nv=tbC T.cl T.C gv nv:=by rw [hT];exact tabA_tbC _ _ _ _
      rw [←hT] at hrm
      rw [hcc]
      clear hpa hcc hT htab hg hn
      obtain ⟨a1,n1,k1,a2,n2,k2,rfl,rfl⟩:=hrm.form
      have HSZ:=hide (tbC_size T.cl T.C (.slice a1 n1 k1) (.slice a2 n2 k2))
      have HON:=hide (tbC_one a1 a2 n1 n2 k1 k2 T.cl T.C)
      obtain ⟨ts',hts'⟩:∃ ts':Nat→TabN,ts'=fun j=>if j=i then T else ts j:=⟨_,rfl⟩
      have hti:ts' i=T:=by rw [hts'];exact if_pos rfl
      have htj:∀ j,j < i→ts' j=ts j:=fun j hj=>by rw [hts'];exact if_neg (by omega)
      have HI2:=hide ((((unhide HI).to htj).below hb4).alloc (.cells (tbC T.cl T.C (.slice a1 n1 k1) (.slice a2 n2 k2)) 47))
      have HPA:Hid (∀ j,j < i+1→PatA (L.getD j ByteArray.empty) (tbS (ts' j)) 0):=fun j hj=>by
       by_cases e:j=i
       ·rw [e,hti,←unhide HQ];exact hpa'
       ·rw [htj j (by omega)];exact unhide HPT j (by omega)
      have HC0:Hid (∀ c0,tbC T.cl T.C (.slice a1 n1 k1) (.slice a2 n2 k2)=c0→tbC (ts' i).cl (ts' i).C (.slice a1 n1 k1) (.slice a2 n2 k2)=c0):=fun c0 h=>by rw [hti];exact h
      have hrm':TRws w4 w4.heap.size (ts' i) (.slice a1 n1 k1) (.slice a2 n2 k2):=by rw [hti];exact hrm
      generalize hc0:tbC T.cl T.C (.slice a1 n1 k1) (.slice a2 n2 k2)=c0 at *
      have HC1:=hide (unhide HC0 c0 rfl)
      have HX2:=hide ((unhide HI2).alloc (.cells c0 47))
      have HB2:Hid (Below w4.heap.size w4 ((w4.alloc (.cells c0 47)).alloc (.cells c0 47))):=((Below.refl _ _).alloc (Nat.le_refl _) _).alloc (by simp) _
      have HRW2:Hid (TRws ((w4.alloc (.cells c0 47)).alloc (.cells c0 47)) ((w4.alloc (.cells c0 47)).alloc (.cells c0 47)).heap.size (ts' i) (.slice a1 n1 k1) (.slice a2 n2 k2)):=hrm'.fr (Fr.ofBelow (unhide HB2)) (NoRows.nil _) (by simp;omega)
      have c2:(w4.alloc (.cells c0 47)).cell? ⟨gi,2,none⟩=some (.slice ta i tc):=by rw [cell_of_row _ _ _ _ _ _ (unhide HI2).im];rfl
      have hg2:gi < (w4.alloc (.cells c0 47)).heap.size:=(Array.getElem?_eq_some_iff.1 (unhide HI2).im).1
      have HWS:Hid (w3.heap.size≤(w4.alloc (.cells c0 47)).heap.size):=(unhide HI2).le
      have HI1000:Hid (i≤1000):=by have:=unhide HLT;have:=unhide HLL;show _≤_;omega
      clear hb4 hpa' hrm hrm' hc0 HI HPT HC0 hti htj hts' HB2
      go_wp2_with (first
       | (refine store_row rfl 47 _ _ rfl rfl w4.heap.size c0 rfl rfl 47 _ (heap_alloc_new _ _) (by rw [unhide HSZ];exact infoT) (by rw [zcTb_size];exact (unhide HSZ).symm) (unhide HON) ?_;rw [setRow_alloc1])
       | (refine wpList_load_row rfl 47 _ rfl w4.heap.size rfl 47 _ (0,0) _ (heap_alloc_new _ _) Tryz.underlying47 rfl (by rw [unhide HSZ];exact infoT) ?_)
       | (refine bsTq rfl _ rfl c0 rfl (unhide HSZ) ?_)
       | (at_builtin;refine appTq rfl (.tmp 63) (.tmp 65) rfl w3.heap.size _ i cs rfl (unhide HX2).own (w4.alloc (.cells c0 47)).heap.size c0 rfl (heap_alloc_new _ _) (unhide HSZ) (unhide HON) (unhide HI1000) (by have:=unhide HWS;simp at this ⊢;omega) (w4.heap.size+2) (by simp) ?_;intro g5 cap5 w8 ho hgrow hlies hlt5;obtain ⟨c9,f9,hP9⟩:=(unhide HX2).pushC (unhide HRW2) (unhide HC1) hgrow ho;have HP9:=hide hP9;clear ho hgrow hlies hP9))
      go_roundw
      case rel=>exact ⟨i+1,_,_,ts',_,by go_num,unhide HLT,unhide HPA,unhide HP9⟩
      case measure=>have:=unhide HLT;simp [intOf];omega
    ·have hi2:i=L.length:=by omega
     subst hi2
     have HCF:=hide (checkFormula_any wr f L.length (by have:=unhide HLL;omega) (by have:=unhide HFZ;omega))
     obtain ⟨hfc,hfc2⟩:=fcheck_ok (R:=L.length) (T:=f)
     obtain ⟨g0,cap0,he⟩:=own_form hI.own (by have:=unhide HLL;omega)
     simp only [Value.slice.injEq,true_and] at he
     obtain ⟨rfl,rfl⟩:=he
     have HI:=hide hI
     have HPT:=hide hpt
     clear hi hlt hpt hI hfc
     go_wp2_with fail
     refine (unhide HCF).mono ?_
     rintro e w5 ⟨rfl,hb5⟩
     have HI5:=hide ((unhide HI).below hb5)
     have HR5:Hid (w5.heap[w.heap.size]?=some (.cells #[.int .i64 0,.string ⟨#[]⟩,.slice none 0 0] 76 (0,0))):=(hb5.block _ (Array.getElem?_eq_some_iff.1 (unhide HR4)).1).trans (unhide HR4)
     have HB5:=hide (below_tr (unhide HB4) hb5)
     have y0:w5.cell? ⟨w.heap.size,0,none⟩=some (.int .i64 0):=by rw [cell_of_row _ _ _ _ _ _ (unhide HR5)];rfl
     have z0:w5.frozen? ⟨w.heap.size,0,none⟩=false:=frozen_of_row _ _ _ _ _ (unhide HR5)
     have y1:w5.cell? ⟨w.heap.size,1,none⟩=some (.string ⟨#[]⟩):=by rw [cell_of_row _ _ _ _ _ _ (unhide HR5)];rfl
     have z1:w5.frozen? ⟨w.heap.size,1,none⟩=false:=frozen_of_row _ _ _ _ _ (unhide HR5)
     have y2:w5.cell? ⟨w.heap.size,2,none⟩=some (.slice none 0 0):=by rw [cell_of_row _ _ _ _ _ _ (unhide HR5)];rfl
     have z2:w5.frozen? ⟨w.heap.size,2,none⟩=false:=frozen_of_row _ _ _ _ _ (unhide HR5)
     have hlr:w.heap.size < w5.heap.size:=(Array.getElem?_eq_some_iff.1 (unhide HR5)).1
     clear HCF hb5 HI HR4 HB4
     rcases hfc2 with hc0 | hc6
     ·have HOK:Hid (CpO p (N:Int) N ts):=by
       have e1:=unhide HLE
       have e2:=unhide HFE
       subst e1
       subst e2
       exact ⟨unhide HP,rfl,by have:=unhide HN;omega,(unhide HLL).1,(unhide HLL).2,unhide HPT,fun j hj=>((unhide HI5).rows j hj).choose_spec.choose_spec.2.ok,hc0⟩
      have HIM:=hide (unhide HI5).im
      have HTB:=hide (unhide HI5).tbs
      have HNG:Hid (g0≠w.heap.size):=own_off (unhide HI5).own (unhide HR5) (by decide) g0 rfl
      rw [hc0]
      clear hc0 HRU HFO HPT
      generalize (fcheck L.length f).2=kk at *
      go_wp2_with (refine wpList_load_row rfl 76 _ rfl gi rfl 76 _ (0,0) _ (unhide HIM) Tryz.underlying76 rfl infoIm ?_)
      refine bodyPost_ret (res_row_tmp2 (p:=4) (u:=5) (v:=6) (ty:=76) rfl _ _ w.heap.size 76 _ (0,0) _ rfl (set3_heap (unhide HR5) _ _ _) Tryz.underlying76 rfl infoIm _ _ rfl rfl) rfl ?_
      refine ⟨(set3_fr _ w.heap.size _ _ _).belowOf (unhide HB5) (unhide HB5).size (Nat.le_refl _),.inr ⟨N,ts,g0,tc,by rw [←unhide HLE,←unhide HFE];rfl,unhide HOK,?_⟩⟩
      rw [←unhide HLE]
      exact (unhide HTB).setIm (unhide HR5) (set3_fr _ _ _ _ _) (unhide HNG)
     ·have HF:=hide (unhide HFO (unhide HLL) (fun j hj=>⟨_,unhide HPT j hj,tbS_le ((unhide HI5).rows j hj).choose_spec.choose_spec.2.ok⟩) hc6)
      rw [hc6]
      clear hc6 HRU HFO HPT
      generalize (fcheck L.length f).2=kk at *
      go_wp2_with fail
      exact bodyPost_ret (v:=.tuple #[.agg zIm,.int .i64 6,.int .i64 (kk:Int)]) (res_row_tmp2 (p:=4) (u:=5) (v:=6) (ty:=76) rfl _ _ w.heap.size 76 _ (0,0) _ rfl (set3_heap (unhide HR5) _ _ _) Tryz.underlying76 rfl infoIm _ _ rfl rfl) rfl ⟨(set3_fr _ w.heap.size _ _ _).belowOf (unhide HB5) (unhide HB5).size (Nat.le_refl _),.inl ⟨_,_,rfl,unhide HF⟩⟩
  ·have HF:=hide (unhide HE5 hl)
   have hls:(L.length:Int) < 1∨((1:Int)≤(L.length:Int)∧(4:Int) < (L.length:Int)):=by omega
   have y0:w2.cell? ⟨w.heap.size,0,none⟩=some (.int .i64 0):=by rw [cell_of_row _ _ _ _ _ _ (unhide HR2)];rfl
   have z0:w2.frozen? ⟨w.heap.size,0,none⟩=false:=frozen_of_row _ _ _ _ _ (unhide HR2)
   have y1:w2.cell? ⟨w.heap.size,1,none⟩=some (.string ⟨#[]⟩):=by rw [cell_of_row _ _ _ _ _ _ (unhide HR2)];rfl
   have z1:w2.frozen? ⟨w.heap.size,1,none⟩=false:=frozen_of_row _ _ _ _ _ (unhide HR2)
   have y2:w2.cell? ⟨w.heap.size,2,none⟩=some (.slice none 0 0):=by rw [cell_of_row _ _ _ _ _ _ (unhide HR2)];rfl
   have z2:w2.frozen? ⟨w.heap.size,2,none⟩=false:=frozen_of_row _ _ _ _ _ (unhide HR2)
   clear hl HROW HRU HFO HE5
   rcases hls with hl1 | ⟨hl1,hl4⟩
   all_goals
    go_wp2_with fail
    exact bodyPost_ret (v:=.tuple #[.agg zIm,.int .i64 5,.int .i64 0]) (res_row_tmp2 (p:=4) (u:=5) (v:=6) (ty:=76) rfl _ _ w.heap.size 76 _ (0,0) _ rfl (set3_heap (unhide HR2) _ _ _) Tryz.underlying76 rfl infoIm _ _ rfl rfl) rfl ⟨(set3_fr _ w.heap.size _ _ _).belowOf (unhide HB2) (unhide HB2).size (Nat.le_refl _),.inl ⟨_,_,rfl,unhide HF⟩⟩
end
end Mc
end Go.Proofs.YtobfpgoepaeknaaGreat
