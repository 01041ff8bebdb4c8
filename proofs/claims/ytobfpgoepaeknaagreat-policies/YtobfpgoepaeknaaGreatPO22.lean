/-
  policies.Compile: the walk.
  policies.Image.Bytes.
  veil.Compile.
  Lines of a text: the document's cut.
-/
import Derived.Test.YtobfpgoepaeknaaGreatPO21
import Derived.Test.YtobfpgoepaeknaaGreatPO19
namespace Go.Proofs.YtobfpgoepaeknaaGreat
namespace Mc
open Go.RowKit
section
attribute [local go_sem ↓] Go.wp_at_zero Go.wp_at_succ zvTb
attribute [local go_sem] zcTb_size zcTb_ne aggcells
set_option maxRecDepth 20000 in
set_option maxHeartbeats 8000000 in
theorem Compile_any (w:World) (p:ByteArray) (n:Int) (hx:p.size≤9223372036854775807) :
  Calls Tryz.prog 31 #[.string p,.int .i64 n] w fun e w'=>Below w.heap.size w w'∧CmA w' p n e:=by
 have hxI:(p.size:Int)≤9223372036854775807:=by omega
 have HR1:Hid ((w.alloc (.cells zIm 76)).heap[w.heap.size]?=some (.cells zIm 76 (0,0))):=heap_alloc_new _ _
 have HB1:Hid (Below w.heap.size w (w.alloc (.cells zIm 76))):=(Below.refl _ _).alloc (Nat.le_refl _) _
 have hsz1:(w.alloc (.cells zIm 76)).heap.size=w.heap.size+1:=by simp
 have y0:(w.alloc (.cells zIm 76)).cell? ⟨w.heap.size,0,none⟩=some (.int .i64 0):=by rw [cell_of_row _ _ _ _ _ _ (unhide HR1)];rfl
 have z0:(w.alloc (.cells zIm 76)).frozen? ⟨w.heap.size,0,none⟩=false:=frozen_of_row _ _ _ _ _ (unhide HR1)
 have y1:(w.alloc (.cells zIm 76)).cell? ⟨w.heap.size,1,none⟩=some (.string ⟨#[]⟩):=by rw [cell_of_row _ _ _ _ _ _ (unhide HR1)];rfl
 have z1:(w.alloc (.cells zIm 76)).frozen? ⟨w.heap.size,1,none⟩=false:=frozen_of_row _ _ _ _ _ (unhide HR1)
 have y2:(w.alloc (.cells zIm 76)).cell? ⟨w.heap.size,2,none⟩=some (.slice none 0 0):=by rw [cell_of_row _ _ _ _ _ _ (unhide HR1)];rfl
 have z2:(w.alloc (.cells zIm 76)).frozen? ⟨w.heap.size,2,none⟩=false:=frozen_of_row _ _ _ _ _ (unhide HR1)
 by_cases h284:284 < p.size
 ·have hI:(284:Int) < (p.size:Int):=by omega
  have HF:Hid (CpE p n 1 0):=.long h284
  clear h284 hx
  unfold zIm at *
  go_enter Tryz.func31,Tryz.ntmps31
  go_wp2_with fail
  refine bodyPost_ret (v:=.tuple #[.agg zIm,.int .i64 1,.int .i64 0]) (res_row_tmp2 (p:=4) (u:=5) (v:=6) (ty:=76) rfl _ _ w.heap.size 76 zIm (0,0) _ rfl (by first | exact unhide HR1 | exact set3_heap (unhide HR1) _ _ _) Tryz.underlying76 rfl infoIm _ _ rfl rfl) rfl ⟨?_,.inl ⟨_,_,rfl,unhide HF⟩⟩
  first | exact unhide HB1 | exact (set3_fr _ w.heap.size _ _ _).belowOf (unhide HB1) (unhide HB1).size (Nat.le_refl _)
 ·have hI:(p.size:Int)≤284:=by omega
  have hsc:n < 0∨(0≤n∧16 < n)∨(0≤n∧n≤16):=by omega
  rcases hsc with i1 | ⟨i1,i2⟩ | ⟨i1,i2⟩
  iterate 2
   ·have HF:Hid (CpE p n 4 0):=.arg (by omega) (by omega)
    clear h284 hx
    unfold zIm at *
    go_enter Tryz.func31,Tryz.ntmps31
    go_wp2_with fail
    refine bodyPost_ret (v:=.tuple #[.agg zIm,.int .i64 4,.int .i64 0]) (res_row_tmp2 (p:=4) (u:=5) (v:=6) (ty:=76) rfl _ _ w.heap.size 76 zIm (0,0) _ rfl (by first | exact unhide HR1 | exact set3_heap (unhide HR1) _ _ _) Tryz.underlying76 rfl infoIm _ _ rfl rfl) rfl ⟨?_,.inl ⟨_,_,rfl,unhide HF⟩⟩
    first | exact unhide HB1 | exact (set3_fr _ w.heap.size _ _ _).belowOf (unhide HB1) (unhide HB1).size (Nat.le_refl _)
  obtain ⟨N,rfl⟩:=Int.eq_ofNat_of_zero_le i1
  have HN:Hid (0≤(N:Int)∧(N:Int)≤16):=⟨i1,i2⟩
  have HP:Hid (p.size≤284):=by show _≤_;omega
  have HSL:=hide (splitLines_any (w.alloc (.cells zIm 76)) p (unhide HP))
  clear h284 hx y0 y1 y2 z0 z1 z2
  unfold zIm at *
  go_enter Tryz.func31,Tryz.ntmps31
  go_wp2_with fail
  refine (unhide HSL).mono ?_
  rintro e w2 ⟨va,vc,rfl,hC⟩
  have HROW:=hide hC.row
  have HR2:Hid (w2.heap[w.heap.size]?=some (.cells #[.int .i64 0,.string ⟨#[]⟩,.slice none 0 0] 76 (0,0))):=(hC.below.block _ (by omega)).trans (unhide HR1)
  have HB2:Hid (Below w.heap.size w w2):=(unhide HB1).trans (hC.below.mono (by omega))
  have hs2:w.heap.size < w2.heap.size:=by have:=hC.below.size;omega
  clear hC HSL HR1 HB1 hsz1
  have HE5:Hid (¬(1≤(cutL p).length∧(cutL p).length≤4)→CpE p (N:Int) 5 0):=fun h=>.rules (unhide HP) (unhide HN) h
  have HRU:Hid (∀ (i:Nat) (er:Int),1≤(cutL p).length∧(cutL p).length≤4→i < (cutL p).length→(∀ j,j < i→∃ t,PatA ((cutL p).getD j ByteArray.empty) t 0∧t.size≤1000)→er≠0→PatA ((cutL p).getD i ByteArray.empty) ⟨#[]⟩ er→CpE p (N:Int) er i):=fun i er h1 h2 h3 h4 h5=>.rule (unhide HP) (unhide HN) h1 i er h2 h3 h4 h5
  have HFO:Hid (1≤(cutL p).length∧(cutL p).length≤4→(∀ j,j < (cutL p).length→∃ t,PatA ((cutL p).getD j ByteArray.empty) t 0∧t.size≤1000)→(fcheck (cutL p).length (cutR p)).1=6→CpE p (N:Int) 6 ((fcheck (cutL p).length (cutR p)).2:Int)):=fun h1 h2 h3=>.form (unhide HP) (unhide HN) h1 h2 h3
  have HFZ:Hid ((cutR p).size≤284):=Nat.le_trans (cutR_sz p) (unhide HP)
  obtain ⟨L,hL⟩:∃ L,L=cutL p:=⟨_,rfl⟩
  obtain ⟨f,hf⟩:∃ f,f=cutR p:=⟨_,rfl⟩
  rw [←hL] at HROW HE5 HRU HFO ⊢
  rw [←hf] at HFO HFZ ⊢
  have HLE:=hide hL
  have HFE:=hide hf
  clear hL hf
  by_cases hl:1≤L.length∧L.length≤4
  ·have hl1:(1:Int)≤(L.length:Int):=by omega
   have hl4:(L.length:Int)≤4:=by omega
   have HLL:=hide hl
   have HI3:Hid ((w2.alloc (.cells #[.int .i64 (N:Int),.string f,.slice none 0 0] 76)).heap[w2.heap.size]?=some (.cells #[.int .i64 (N:Int),.string f,.slice none 0 0] 76 (0,0))):=heap_alloc_new _ _
   have HR3:Hid ((w2.alloc (.cells #[.int .i64 (N:Int),.string f,.slice none 0 0] 76)).heap[w.heap.size]?=some (.cells #[.int .i64 0,.string ⟨#[]⟩,.slice none 0 0] 76 (0,0))):=(Fr.ofAlloc w2 _).at (unhide HR2) (by simp)
   have HB3:Hid (Below w.heap.size w (w2.alloc (.cells #[.int .i64 (N:Int),.string f,.slice none 0 0] 76))):=(unhide HB2).alloc (unhide HB2).size _
   have HW3:Hid (TxR (w2.alloc (.cells #[.int .i64 (N:Int),.string f,.slice none 0 0] 76)) 0 (.slice va L.length vc) L):=own_less ((Fr.ofAlloc w2 _).own (unhide HROW) (by simp)) (Nat.zero_le _)
   have HQL:Hid (∀ q,(Value.slice va L.length vc).ownBlock=some q→q < w2.heap.size):=fun q hq=>(World.ownsRow.lt (unhide HROW) q hq).2
   clear HROW HR2 HB2 HE5 hl
   go_wp2_with fail
   generalize (w2.alloc (.cells #[.int .i64 (N:Int),.string f,.slice none 0 0] 76))=w3 at *
   have HNE:Hid (w.heap.size≠w2.heap.size):=by show _≠_;omega
   have HGE:Hid (w.heap.size≤w2.heap.size):=by show _≤_;omega
   generalize w2.heap.size=gi at *
   go_loopw [10] (fun ix wr=>∃ (i:Nat) (ta:Option Addr) (tc:Nat) (ts:Nat→TabN) (cs:List Value),ix=.int .i64 (i:Int)∧Hid (i≤L.length∧(∀ j,j < i→PatA (L.getD j ByteArray.empty) (tbS (ts j)) 0)∧RtI w3 wr gi N f ta tc ts cs i)) (fun ix _=>L.length - (intOf ix).toNat)
   case atStart=>exact ⟨0,none,0,fun _=>⟨0,0,fun _=>0,fun _=>false,fun _ _=>0⟩,[],rfl,Nat.zero_le _,fun j hj=>by omega,RtI.start (unhide HI3)⟩
   case round =>
    clear HI3
    rename World=>wr
    obtain ⟨i,ta,tc,ts,cs,rfl,HH⟩:=hrel
    obtain ⟨hi,hpt,hI⟩:=unhide HH
    clear HH
    have HR4:Hid (wr.heap[w.heap.size]?=some (.cells #[.int .i64 0,.string ⟨#[]⟩,.slice none 0 0] 76 (0,0))):=hI.fr.at (unhide HR3) (by simpa using unhide HNE)
    have HB4:Hid (Below w.heap.size w wr):=hI.fr.belowOf (unhide HB3) (unhide HB3).size (unhide HGE)
    by_cases hlt:i < L.length
    ·have hiI:(i:Int) < (L.length:Int):=by omega
     have hi0:(0:Int)≤(i:Int):=by omega
     have hi1:((i:Int)).toNat=i:=by omega
     have hrw:TxR wr 0 (.slice va L.length vc) L:=hI.fr.own (unhide HW3) (fun q hq=>by have:=unhide HQL q hq;simp;omega)
     obtain ⟨gl,rfl,hgl,k0⟩:=hrw.at hlt
     have HOF:=hide (OfPattern_P wr (L.getD i ByteArray.empty))
     have HI:=hide hI
     have HPT:=hide hpt
     have HLT:=hide hlt
     obtain ⟨q,hq⟩:∃ q,q=L.getD i ByteArray.empty:=⟨_,rfl⟩
     rw [←hq] at HOF k0
     have HQ:=hide hq
     clear hi hpt hI hlt hrw hq
     go_wp2_with fail
     refine (unhide HOF).mono ?_
     clear HOF k0
     rintro e w4 ⟨hb4,⟨er,her,rfl,hpa⟩ | ⟨Lg,S,C,nx,gr,cl,nc,gv,nv,rfl,hg,hn,htab,hpa⟩⟩
     ·have HF:Hid (CpE p (N:Int) er i):=unhide HRU i er (unhide HLL) (unhide HLT) (fun j hj=>⟨_,unhide HPT j hj,tbS_le ((unhide HI).rows j hj).choose_spec.choose_spec.2.ok⟩) her (by rw [←unhide HQ];exact hpa)
      have her':¬er=0:=her
      have HR5:Hid ((w4.alloc (.cells zcT 47)).heap[w.heap.size]?=some (.cells #[.int .i64 0,.string ⟨#[]⟩,.slice none 0 0] 76 (0,0))):=(Fr.ofAlloc w4 _).at ((hb4.block _ (Array.getElem?_eq_some_iff.1 (unhide HR4)).1).trans (unhide HR4)) (by simp)
      have HB5:Hid (Below w.heap.size w (w4.alloc (.cells zcT 47))):=(below_tr (unhide HB4) hb4).alloc (below_tr (unhide HB4) hb4).size _
      have y0:(w4.alloc (.cells zcT 47)).cell? ⟨w.heap.size,0,none⟩=some (.int .i64 0):=by rw [cell_of_row _ _ _ _ _ _ (unhide HR5)];rfl
      have z0:(w4.alloc (.cells zcT 47)).frozen? ⟨w.heap.size,0,none⟩=false:=frozen_of_row _ _ _ _ _ (unhide HR5)
      have y1:(w4.alloc (.cells zcT 47)).cell? ⟨w.heap.size,1,none⟩=some (.string ⟨#[]⟩):=by rw [cell_of_row _ _ _ _ _ _ (unhide HR5)];rfl
      have z1:(w4.alloc (.cells zcT 47)).frozen? ⟨w.heap.size,1,none⟩=false:=frozen_of_row _ _ _ _ _ (unhide HR5)
      have y2:(w4.alloc (.cells zcT 47)).cell? ⟨w.heap.size,2,none⟩=some (.slice none 0 0):=by rw [cell_of_row _ _ _ _ _ _ (unhide HR5)];rfl
      have z2:(w4.alloc (.cells zcT 47)).frozen? ⟨w.heap.size,2,none⟩=false:=frozen_of_row _ _ _ _ _ (unhide HR5)
      have hlr:w.heap.size < (w4.alloc (.cells zcT 47)).heap.size:=(Array.getElem?_eq_some_iff.1 (unhide HR5)).1
      clear hb4 her hpa HRU HFO HPT HI
      go_wp2_with (refine store_row rfl 47 _ _ rfl rfl w4.heap.size zcT rfl rfl 47 _ (heap_alloc_new _ _) (by rw [zcT_size];exact infoT) (by rw [zcTb_size,zcT_size]) (tabA_one _ _ _ _ _ _ _ _) ?_;rw [setRow_alloc1])
      exact bodyPost_ret (v:=.tuple #[.agg zIm,.int .i64 er,.int .i64 (i:Int)]) (res_row_tmp2 (p:=4) (u:=5) (v:=6) (ty:=76) rfl _ _ w.heap.size 76 _ (0,0) _ rfl (set3_heap (unhide HR5) _ _ _) Tryz.underlying76 rfl infoIm _ _ rfl rfl) rfl ⟨(set3_fr _ w.heap.size _ _ _).belowOf (unhide HB5) (unhide HB5).size (Nat.le_refl _),.inl ⟨_,_,rfl,unhide HF⟩⟩
     ·have hrm:=rows_made htab hg hn
      obtain ⟨T,hT⟩:∃ T:TabN,T=⟨S,C,cl,gr,nc⟩:=⟨_,rfl⟩
      have hpa':PatA q (tbS T) 0:=by rw [hT];exact hpa
      have hcc:tabA cl C gv nv=tbC T.cl T.C gv nv:=by rw [hT];exact tabA_tbC _ _ _ _
      rw [←hT] at hrm
      rw [hcc]
      clear hpa hcc hT htab hg hn
      obtain ⟨a1,n1,k1,a2,n2,k2,rfl,rfl⟩:=hrm.form
      have HSZ:=hide (tbC_size T.cl T.C (.slice a1 n1 k1) (.slice a2 n2 k2))
      have HON:=hide (tbC_one a1 a2 n1 n2 k1 k2 T.cl T.C)
      obtain ⟨ts',hts'⟩:∃ ts':Nat→TabN,ts'=fun j=>if j=i then T else ts j:=⟨_,rfl⟩
      have hti:ts' i=T:=by rw [hts'];exact if_pos rfl
      have htj:∀ j,j < i→ts' j=ts j:=fun j hj=>by rw [hts'];exact if_neg (by omega)
      have HI2:=hide ((((unhide HI).to htj).below hb4).alloc (.cells (tbC T.cl T.C (.slice a1 n1 k1) (.slice a2 n2 k2)) 47))
      have HPA:Hid (∀ j,j < i+1→PatA (L.getD j ByteArray.empty) (tbS (ts' j)) 0):=fun j hj=>by
       by_cases e:j=i
       ·rw [e,hti,←unhide HQ];exact hpa'
       ·rw [htj j (by omega)];exact unhide HPT j (by omega)
      have HC0:Hid (∀ c0,tbC T.cl T.C (.slice a1 n1 k1) (.slice a2 n2 k2)=c0→tbC (ts' i).cl (ts' i).C (.slice a1 n1 k1) (.slice a2 n2 k2)=c0):=fun c0 h=>by rw [hti];exact h
      have hrm':TRws w4 w4.heap.size (ts' i) (.slice a1 n1 k1) (.slice a2 n2 k2):=by rw [hti];exact hrm
      generalize hc0:tbC T.cl T.C (.slice a1 n1 k1) (.slice a2 n2 k2)=c0 at *
      have HC1:=hide (unhide HC0 c0 rfl)
      have HX2:=hide ((unhide HI2).alloc (.cells c0 47))
      have HB2:Hid (Below w4.heap.size w4 ((w4.alloc (.cells c0 47)).alloc (.cells c0 47))):=((Below.refl _ _).alloc (Nat.le_refl _) _).alloc (by simp) _
      have HRW2:Hid (TRws ((w4.alloc (.cells c0 47)).alloc (.cells c0 47)) ((w4.alloc (.cells c0 47)).alloc (.cells c0 47)).heap.size (ts' i) (.slice a1 n1 k1) (.slice a2 n2 k2)):=hrm'.fr (Fr.ofBelow (unhide HB2)) (NoRows.nil _) (by simp;omega)
      have c2:(w4.alloc (.cells c0 47)).cell? ⟨gi,2,none⟩=some (.slice ta i tc):=by rw [cell_of_row _ _ _ _ _ _ (unhide HI2).im];rfl
      have hg2:gi < (w4.alloc (.cells c0 47)).heap.size:=(Array.getElem?_eq_some_iff.1 (unhide HI2).im).1
      have HWS:Hid (w3.heap.size≤(w4.alloc (.cells c0 47)).heap.size):=(unhide HI2).le
      have HI1000:Hid (i≤1000):=by have:=unhide HLT;have:=unhide HLL;show _≤_;omega
      clear hb4 hpa' hrm hrm' hc0 HI HPT HC0 hti htj hts' HB2
      go_wp2_with (first
       | (refine store_row rfl 47 _ _ rfl rfl w4.heap.size c0 rfl rfl 47 _ (heap_alloc_new _ _) (by rw [unhide HSZ];exact infoT) (by rw [zcTb_size];exact (unhide HSZ).symm) (unhide HON) ?_;rw [setRow_alloc1])
       | (refine wpList_load_row rfl 47 _ rfl w4.heap.size rfl 47 _ (0,0) _ (heap_alloc_new _ _) Tryz.underlying47 rfl (by rw [unhide HSZ];exact infoT) ?_)
       | (refine bsTq rfl _ rfl c0 rfl (unhide HSZ) ?_)
       | (at_builtin;refine appTq rfl (.tmp 63) (.tmp 65) rfl w3.heap.size _ i cs rfl (unhide HX2).own (w4.alloc (.cells c0 47)).heap.size c0 rfl (heap_alloc_new _ _) (unhide HSZ) (unhide HON) (unhide HI1000) (by have:=unhide HWS;simp at this ⊢;omega) (w4.heap.size+2) (by simp) ?_;intro g5 cap5 w8 ho hgrow hlies hlt5;obtain ⟨c9,f9,hP9⟩:=(unhide HX2).pushC (unhide HRW2) (unhide HC1) hgrow ho;have HP9:=hide hP9;clear ho hgrow hlies hP9))
      go_roundw
      case rel=>exact ⟨i+1,_,_,ts',_,by go_num,unhide HLT,unhide HPA,unhide HP9⟩
      case measure=>have:=unhide HLT;simp [intOf];omega
    ·have hi2:i=L.length:=by omega
     subst hi2
     have HCF:=hide (checkFormula_any wr f L.length (by have:=unhide HLL;omega) (by have:=unhide HFZ;omega))
     obtain ⟨hfc,hfc2⟩:=fcheck_ok (R:=L.length) (T:=f)
     obtain ⟨g0,cap0,he⟩:=own_form hI.own (by have:=unhide HLL;omega)
     simp only [Value.slice.injEq,true_and] at he
     obtain ⟨rfl,rfl⟩:=he
     have HI:=hide hI
     have HPT:=hide hpt
     clear hi hlt hpt hI hfc
     go_wp2_with fail
     refine (unhide HCF).mono ?_
     rintro e w5 ⟨rfl,hb5⟩
     have HI5:=hide ((unhide HI).below hb5)
     have HR5:Hid (w5.heap[w.heap.size]?=some (.cells #[.int .i64 0,.string ⟨#[]⟩,.slice none 0 0] 76 (0,0))):=(hb5.block _ (Array.getElem?_eq_some_iff.1 (unhide HR4)).1).trans (unhide HR4)
     have HB5:=hide (below_tr (unhide HB4) hb5)
     have y0:w5.cell? ⟨w.heap.size,0,none⟩=some (.int .i64 0):=by rw [cell_of_row _ _ _ _ _ _ (unhide HR5)];rfl
     have z0:w5.frozen? ⟨w.heap.size,0,none⟩=false:=frozen_of_row _ _ _ _ _ (unhide HR5)
     have y1:w5.cell? ⟨w.heap.size,1,none⟩=some (.string ⟨#[]⟩):=by rw [cell_of_row _ _ _ _ _ _ (unhide HR5)];rfl
     have z1:w5.frozen? ⟨w.heap.size,1,none⟩=false:=frozen_of_row _ _ _ _ _ (unhide HR5)
     have y2:w5.cell? ⟨w.heap.size,2,none⟩=some (.slice none 0 0):=by rw [cell_of_row _ _ _ _ _ _ (unhide HR5)];rfl
     have z2:w5.frozen? ⟨w.heap.size,2,none⟩=false:=frozen_of_row _ _ _ _ _ (unhide HR5)
     have hlr:w.heap.size < w5.heap.size:=(Array.getElem?_eq_some_iff.1 (unhide HR5)).1
     clear HCF hb5 HI HR4 HB4
     rcases hfc2 with hc0 | hc6
     ·have HOK:Hid (CpO p (N:Int) N ts):=by
       have e1:=unhide HLE
       have e2:=unhide HFE
       subst e1
       subst e2
       exact ⟨unhide HP,rfl,by have:=unhide HN;omega,(unhide HLL).1,(unhide HLL).2,unhide HPT,fun j hj=>((unhide HI5).rows j hj).choose_spec.choose_spec.2.ok,hc0⟩
      have HIM:=hide (unhide HI5).im
      have HTB:=hide (unhide HI5).tbs
      have HNG:Hid (g0≠w.heap.size):=own_off (unhide HI5).own (unhide HR5) (by decide) g0 rfl
      rw [hc0]
      clear hc0 HRU HFO HPT
      generalize (fcheck L.length f).2=kk at *
      go_wp2_with (refine wpList_load_row rfl 76 _ rfl gi rfl 76 _ (0,0) _ (unhide HIM) Tryz.underlying76 rfl infoIm ?_)
      refine bodyPost_ret (res_row_tmp2 (p:=4) (u:=5) (v:=6) (ty:=76) rfl _ _ w.heap.size 76 _ (0,0) _ rfl (set3_heap (unhide HR5) _ _ _) Tryz.underlying76 rfl infoIm _ _ rfl rfl) rfl ?_
      refine ⟨(set3_fr _ w.heap.size _ _ _).belowOf (unhide HB5) (unhide HB5).size (Nat.le_refl _),.inr ⟨N,ts,g0,tc,by rw [←unhide HLE,←unhide HFE];rfl,unhide HOK,?_⟩⟩
      rw [←unhide HLE]
      exact (unhide HTB).setIm (unhide HR5) (set3_fr _ _ _ _ _) (unhide HNG)
     ·have HF:=hide (unhide HFO (unhide HLL) (fun j hj=>⟨_,unhide HPT j hj,tbS_le ((unhide HI5).rows j hj).choose_spec.choose_spec.2.ok⟩) hc6)
      rw [hc6]
      clear hc6 HRU HFO HPT
      generalize (fcheck L.length f).2=kk at *
      go_wp2_with fail
      exact bodyPost_ret (v:=.tuple #[.agg zIm,.int .i64 6,.int .i64 (kk:Int)]) (res_row_tmp2 (p:=4) (u:=5) (v:=6) (ty:=76) rfl _ _ w.heap.size 76 _ (0,0) _ rfl (set3_heap (unhide HR5) _ _ _) Tryz.underlying76 rfl infoIm _ _ rfl rfl) rfl ⟨(set3_fr _ w.heap.size _ _ _).belowOf (unhide HB5) (unhide HB5).size (Nat.le_refl _),.inl ⟨_,_,rfl,unhide HF⟩⟩
  ·have HF:=hide (unhide HE5 hl)
   have hls:(L.length:Int) < 1∨((1:Int)≤(L.length:Int)∧(4:Int) < (L.length:Int)):=by omega
   have y0:w2.cell? ⟨w.heap.size,0,none⟩=some (.int .i64 0):=by rw [cell_of_row _ _ _ _ _ _ (unhide HR2)];rfl
   have z0:w2.frozen? ⟨w.heap.size,0,none⟩=false:=frozen_of_row _ _ _ _ _ (unhide HR2)
   have y1:w2.cell? ⟨w.heap.size,1,none⟩=some (.string ⟨#[]⟩):=by rw [cell_of_row _ _ _ _ _ _ (unhide HR2)];rfl
   have z1:w2.frozen? ⟨w.heap.size,1,none⟩=false:=frozen_of_row _ _ _ _ _ (unhide HR2)
   have y2:w2.cell? ⟨w.heap.size,2,none⟩=some (.slice none 0 0):=by rw [cell_of_row _ _ _ _ _ _ (unhide HR2)];rfl
   have z2:w2.frozen? ⟨w.heap.size,2,none⟩=false:=frozen_of_row _ _ _ _ _ (unhide HR2)
   clear hl HROW HRU HFO HE5
   rcases hls with hl1 | ⟨hl1,hl4⟩
   all_goals
    go_wp2_with fail
    exact bodyPost_ret (v:=.tuple #[.agg zIm,.int .i64 5,.int .i64 0]) (res_row_tmp2 (p:=4) (u:=5) (v:=6) (ty:=76) rfl _ _ w.heap.size 76 _ (0,0) _ rfl (set3_heap (unhide HR2) _ _ _) Tryz.underlying76 rfl infoIm _ _ rfl rfl) rfl ⟨(set3_fr _ w.heap.size _ _ _).belowOf (unhide HB2) (unhide HB2).size (Nat.le_refl _),.inl ⟨_,_,rfl,unhide HF⟩⟩
end
end Mc
end Go.Proofs.YtobfpgoepaeknaaGreat
namespace Go.Proofs.YtobfpgoepaeknaaGreat
namespace Mc
open Go.RowKit
theorem strN_size' (xs:List Nat):(strN xs).size=xs.length:=by show ((xs.map UInt8.ofNat).toArray).size=_;simp
theorem lay_bytes (S C:Nat) (cl:Nat→Nat) (gr:Nat→Bool) (nc:Nat→Nat→Nat):bytesT ((List.range S).map gr).length C cl ((List.range S).map gr) ((List.range S).flatMap (fun i=>(List.range C).map (nc i)))=layTab S C cl gr nc:=by
 unfold bytesT layTab
 rw [List.length_map,List.length_range,List.map_map]
 rfl
theorem flat_of (C:Nat) (nc:Nat→Nat→Nat) (S:Nat) {ns:List Nat} (hl:ns.length=S * C) (h:∀ q c,q < S→c < C→ns.getD (q * C+c) 0=nc q c):ns=(List.range S).flatMap (fun i=>(List.range C).map (nc i)):=by
 apply List.ext_getElem (by rw [flat_len];exact hl)
 intro k h1 h2
 have hC:0 < C:=by
  cases C with
  | zero=>rw [hl] at h1;simp at h1
  | succ C=>omega
 have hq:k / C < S:=by rw [Nat.div_lt_iff_lt_mul hC];rw [hl] at h1;exact h1
 have hc:k % C < C:=Nat.mod_lt _ hC
 have e:k / C * C+k % C=k:=by rw [Nat.mul_comm];exact Nat.div_add_mod _ _
 have g1:=h _ _ hq hc
 have g2:=flat_getD C nc S _ _ hq hc
 rw [e] at g1 g2
 rw [List.getD_eq_getElem?_getD,List.getElem?_eq_getElem h1] at g1
 rw [List.getD_eq_getElem?_getD,List.getElem?_eq_getElem h2] at g2
 exact g1.trans g2.symm
theorem bools_of {S:Nat} {gr:Nat→Bool} {bs:List Bool} (hl:bs.length=S) (h:∀ q,q < S→bs.getD q false=gr q):bs=(List.range S).map gr:=by
 apply List.ext_getElem (by rw [List.length_map,List.length_range];exact hl)
 intro k h1 h2
 have:=h k (by omega)
 rw [List.getD_eq_getElem?_getD,List.getElem?_eq_getElem h1] at this
 rw [List.getElem_map,List.getElem_range]
 exact this
theorem tbytes_of {w:World} {B gt:Nat} {t:TabN} {gv nv:Value} (h:TRws w B t gv nv) (hg:w.heap[gt]?=some (.cells (tbC t.cl t.C gv nv) 47 (0,0))) :
  Calls Tryz.prog 20 #[.pointer (some ⟨gt,0,none⟩)] w fun e w'=>e=.returned (.string (tbS t))∧Below w.heap.size w w':=by
 obtain ⟨bs,ns,h1,h2,-,-,h3,h4,h5,h6⟩:=h.ex
 obtain rfl:=bools_of h3 h4
 obtain rfl:=flat_of t.C t.nx t.S h5 h6
 have hk:=h.ok
 rw [←tabA_tbC] at hg
 have:=TBytes_any w gt t.cl t.C _ _ ⟨gv,nv,hg,h1,h2⟩ hk.c2 (by simp;exact hk.s2) (fun b hb=>by have:=hk.cl b hb;have:=hk.c2;omega) (fun x hx=>by
  obtain ⟨i,hi,hx⟩:=List.mem_flatMap.1 hx
  obtain ⟨c,hc,rfl⟩:=List.mem_map.1 hx
  have:=hk.nx i c (List.mem_range.1 hi) (List.mem_range.1 hc)
  have:=hk.s2
  omega) (by
  rw [flat_len]
  have:=Nat.mul_le_mul hk.s2 hk.c2
  omega)
 rw [lay_bytes] at this
 exact this
def joinT (ts:Nat→ByteArray):Nat→ByteArray
 | 0=>⟨#[]⟩
 | i+1=>joinT ts i++ts i
def imB (N:Nat) (f:ByteArray) (m:Nat) (ts:Nat→ByteArray):ByteArray:=strN [86,80,N,m,f.size]++f++joinT ts m
theorem joinT_size (ts:Nat→ByteArray):∀ m,(∀ j,j < m→(ts j).size≤1000)→(joinT ts m).size≤1000 * m
 | 0,_=>Nat.zero_le _
 | m+1,h=>by
  have:=joinT_size ts m (fun j hj=>h j (by omega))
  have:=h m (by omega)
  rw [joinT,ByteArray.size_append];omega
theorem app_nilB (a:ByteArray):a++(⟨#[]⟩:ByteArray)=a:=by
 apply ByteArray.ext
 rw [ByteArray.data_append];simp
section
attribute [local go_sem ↓] Go.wp_at_zero Go.wp_at_succ zvTb
attribute [local go_sem] zcTb_size zcTb_ne aggcells
set_option maxRecDepth 20000 in
set_option maxHeartbeats 4000000 in
theorem Bytes_any (w:World) (B gi N m tc g:Nat) (f:ByteArray) (ts:Nat→TabN) (him:w.heap[gi]?=some (.cells #[.int .i64 (N:Int),.string f,.slice (some ⟨g,0,none⟩) m tc] 76 (0,0))) (ht:Tbs w B g m ts) (hB:B≤w.heap.size) (hm:m≤4) (hN:N≤16) (hf:f.size≤40) :
  Calls Tryz.prog 32 #[.pointer (some ⟨gi,0,none⟩)] w fun e w'=>e=.returned (.string (imB N f m (fun j=>tbS (ts j))))∧Below w.heap.size w w':=by
 have c0:w.cell? ⟨gi,0,none⟩=some (.int .i64 (N:Int)):=by rw [cell_of_row _ _ _ _ _ _ him];rfl
 have c1:w.cell? ⟨gi,1,none⟩=some (.string f):=by rw [cell_of_row _ _ _ _ _ _ him];rfl
 have c2:w.cell? ⟨gi,2,none⟩=some (.slice (some ⟨g,0,none⟩) m tc):=by rw [cell_of_row _ _ _ _ _ _ him];rfl
 have hgi:=(Array.getElem?_eq_some_iff.1 him).1
 have hw1:=wrapB N (by omega)
 have hw2:=wrapB m (by omega)
 have hw3:=wrapB f.size (by omega)
 have hmI:(m:Int)≤4:=by omega
 have hfI:(f.size:Int)≤40:=by omega
 have HIM:=hide him
 have HT:=hide ht
 have HBB:=hide hB
 have HM:=hide hm
 have HF:=hide hf
 have HNN:=hide hN
 have HB0:Hid (Below w.heap.size w (w.alloc (.cells #[.int .u8 (N:Int),.int .u8 (m:Int),.int .u8 (f.size:Int)] 5))):=(Below.refl _ _).alloc (Nat.le_refl _) _
 have HU0:Hid (URow (w.alloc (.cells #[.int .u8 (N:Int),.int .u8 (m:Int),.int .u8 (f.size:Int)] 5)) 0 (.slice (some ⟨w.heap.size,0,none⟩) [N,m,f.size].length 3) [N,m,f.size]):=⟨rfl,.inr ⟨_,3,_,rfl,Nat.zero_le _,heap_alloc_new _ _,Nat.le_refl _,by unfold maxLen;omega,rfl,rfl⟩⟩
 clear him ht hB hm hf hN
 go_enter Tryz.func32,Tryz.ntmps32
 go_upto_region 1 with fail
 go_cut [3] (fun tv wx=>∃ g3,tv=.slice (some ⟨g3,0,none⟩) 3 3∧Hid (Below w.heap.size w wx∧URow wx 0 (.slice (some ⟨g3,0,none⟩) 3 3) [N,m,f.size]))
 case first =>
  go_region
  all_goals
   go_wp2_with fail
   go_meet
   exact ⟨_,rfl,(unhide HB0).drew,unhide HU0⟩
 case rest =>
  rename World=>w1
  obtain ⟨g3,rfl,HC1⟩:=hcut
  clear HB0 HU0 hw1 hw2 hw3 c0 c1 c2
  have hb1:=(unhide HC1).1
  have him1:=(hb1.block _ hgi).trans (unhide HIM)
  have c1:w1.cell? ⟨gi,1,none⟩=some (.string f):=by rw [cell_of_row _ _ _ _ _ _ him1];rfl
  have hg1:=(Array.getElem?_eq_some_iff.1 him1).1
  have hcv:∀ n,(convert 66 9 (.slice (some ⟨g3,0,none⟩) 3 3)).run Tryz.prog (w1.drewN n)=.ok (.string (strN [N,m,f.size])) (w1.drewN n):=fun n=>conv_row (w:=w1.drewN n) (xs:=[N,m,f.size]) (unhide HC1).2 (fun x hx=>by have:=unhide HNN;have:=unhide HM;have:=unhide HF;simp at hx;omega)
  have hz0:(strN [N,m,f.size]).size=3:=strN_size' _
  have HS5:Hid (⟨#[86,80]⟩++strN [N,m,f.size]++f=strN [86,80,N,m,f.size]++f++joinT (fun j=>tbS (ts j)) 0):=by
   show _=_
   rw [joinT,app_nilB]
   rfl
  have HBW:=hide hb1
  generalize strN [N,m,f.size]=s3 at *
  have hz1:¬9223372036854775807 < 2+s3.size:=by omega
  have hz2:¬9223372036854775807 < 2+s3.size+f.size:=by have:=unhide HF;omega
  clear hb1 him1 HC1
  go_wp2_with fail
  go_quiet (fail)
  go_wp2_with fail
  have HB2:=hide (below_drewN (unhide HBW) nq)
  clear HBW hcv hz1 hz2 hz0 c1 hg1
  generalize w1.drewN nq=w2 at *
  go_loopw [4,5] (fun tx ix wr=>∃ (i:Nat) (s:ByteArray),tx=.string s∧ix=.int .i64 (i:Int)∧Hid (i≤m∧s=strN [86,80,N,m,f.size]++f++joinT (fun j=>tbS (ts j)) i∧Below w.heap.size w wr)) (fun _ ix _=>m - (intOf ix).toNat)
  case atStart=>exact ⟨0,_,rfl,rfl,Nat.zero_le _,unhide HS5,unhide HB2⟩
  case round =>
   clear HS5 HB2
   rename World=>wr
   obtain ⟨i,s,rfl,rfl,HH⟩:=hrel
   obtain ⟨hi,hs,hb⟩:=unhide HH
   clear HH
   have him1:=(hb.block _ hgi).trans (unhide HIM)
   have c2:wr.cell? ⟨gi,2,none⟩=some (.slice (some ⟨g,0,none⟩) m tc):=by rw [cell_of_row _ _ _ _ _ _ him1];rfl
   have hg1:=(Array.getElem?_eq_some_iff.1 him1).1
   by_cases hlt:i < m
   ·have hiI:(i:Int) < (m:Int):=by omega
    have hi0:(0:Int)≤(i:Int):=by omega
    have hi1:((i:Int)).toNat=i:=by omega
    have htb:=(unhide HT).below (hb.mono (unhide HBB))
    have hgl:g < wr.heap.size:=by have:=htb.lt;have:=unhide HBB;have:=hb.size;omega
    obtain ⟨gv,nv,hr,hrw⟩:=htb.at_ i hlt
    obtain ⟨a1,n1,k1,a2,n2,k2,rfl,rfl⟩:=hrw.form
    have HR:=hide hr
    have HSZ:=hide (tbC_size (ts i).cl (ts i).C (.slice a1 n1 k1) (.slice a2 n2 k2))
    have HON:=hide (tbC_one a1 a2 n1 n2 k1 k2 (ts i).cl (ts i).C)
    have HBY:=hide (tbytes_of (hrw.below (((Below.refl _ _).alloc (Nat.le_refl _) (.cells (tbC (ts i).cl (ts i).C (.slice a1 n1 k1) (.slice a2 n2 k2)) 47)).mono (show B≤wr.heap.size by have:=unhide HBB;have:=hb.size;omega))) (heap_alloc_new wr _))
    have hz:¬9223372036854775807 < s.size+(tbS (ts i)).size:=by
     have h1:=tbS_le hrw.ok
     have h2:=joinT_size (fun j=>tbS (ts j)) i (fun j hj=>by obtain ⟨_,_,_,h⟩:=htb.at_ j (by omega);exact tbS_le h.ok)
     have h3:=unhide HF
     have h4:=unhide HM
     rw [hs,ByteArray.size_append,ByteArray.size_append,strN_size']
     simp only [List.length_cons,List.length_nil]
     omega
    have HNW:Hid (s++tbS (ts i)=strN [86,80,N,m,f.size]++f++joinT (fun j=>tbS (ts j)) (i+1)):=by
     show _=_
     rw [hs,joinT,←ByteArray.append_assoc]
    have HB3:=hide (hb.alloc hb.size (.cells (tbC (ts i).cl (ts i).C (.slice a1 n1 k1) (.slice a2 n2 k2)) 47))
    have HLT:=hide hlt
    clear hi hs hb hlt htb hr hrw him1
    generalize tbC (ts i).cl (ts i).C (.slice a1 n1 k1) (.slice a2 n2 k2)=cs at *
    generalize tbS (ts i)=st at *
    go_wp2_with (first
     | refine _root_.Go.wpList_load_mid rfl 47 _ rfl g (i * 259) rfl cs.toList _ (unhide HR) Tryz.underlying47 rfl (by rw [Array.length_toList,unhide HSZ];exact infoT) ?_
     | (refine store_row rfl 47 _ _ rfl rfl wr.heap.size cs rfl rfl 47 _ (heap_alloc_new _ _) (by rw [unhide HSZ];exact infoT) (by rw [zcTb_size];exact (unhide HSZ).symm) (unhide HON) ?_;rw [setRow_alloc1]))
    refine (unhide HBY).mono ?_
    rintro e w4 ⟨rfl,hb4⟩
    have HB4:=hide (below_tr (unhide HB3) hb4)
    clear hb4 HBY HB3 HR
    go_wp2_with fail
    go_roundw
    case rel=>exact ⟨i+1,_,rfl,by go_num,unhide HLT,unhide HNW,unhide HB4⟩
    case measure=>have:=unhide HLT;simp [intOf];omega
   ·have hi2:i=m:=by omega
    subst hi2
    have HB:=hide hb
    have HS:=hide hs
    clear hi hs hb hlt him1
    go_wp2_with fail
    go_ret
    exact ⟨by rw [unhide HS];rfl,unhide HB⟩
end
end Mc
end Go.Proofs.YtobfpgoepaeknaaGreat
namespace Go.Proofs.YtobfpgoepaeknaaGreat
namespace Mc
open Go.RowKit
attribute [local go_sem ↓] Go.wp_at_zero Go.wp_at_succ
def CpA (p:ByteArray) (n:Int) (s:ByteArray) (er at_:Int):Prop :=
 (CpE p n er at_∧s=⟨#[]⟩)∨(∃ N ts,CpO p n N ts∧s=imB N (cutR p) (cutL p).length (fun j=>tbS (ts j))∧er=0∧at_=0)
set_option maxRecDepth 20000 in
set_option maxHeartbeats 2000000 in
theorem VCompile_any (w:World) (p:ByteArray) (n:Int) (hx:p.size≤9223372036854775807) :
  Calls Tryz.prog 15 #[.string p,.int .i64 n] w fun e w'=>Below w.heap.size w w'∧∃ s er at_,e=.returned (.tuple #[.string s,.int .i64 er,.int .i64 at_])∧CpA p n s er at_:=by
 have HC:=hide (Compile_any w p n hx)
 clear hx
 go_enter Tryz.func15,Tryz.ntmps15
 go_wp2_with fail
 refine (unhide HC).mono ?_
 clear HC
 rintro e w1 ⟨hb1,⟨er,at_,rfl,hE⟩ | ⟨N,ts,g,tc,rfl,hO,hT⟩⟩
 ·have hne:¬er=0:=hE.ne
  have HE:=hide hE
  have HB:=hide (hb1.alloc hb1.size (.cells #[.int .i64 0,.string ⟨#[]⟩,.slice none 0 0] 76))
  clear hb1 hE
  unfold zIm
  go_wp2_with fail
  refine bodyPost_ret (v:=.tuple #[.string ⟨#[]⟩,.int .i64 er,.int .i64 at_]) (by simp [results,Tryz.results15,go_sem]) rfl ?_
  exact ⟨unhide HB,_,_,_,rfl,.inl ⟨unhide HE,rfl⟩⟩
 ·have hb2:Below w1.heap.size w1 (w1.alloc (.cells #[.int .i64 (N:Int),.string (cutR p),.slice (some ⟨g,0,none⟩) (cutL p).length tc] 76)):=(Below.refl _ _).alloc (Nat.le_refl _) _
  have HBY:=hide (Bytes_any _ w1.heap.size w1.heap.size N (cutL p).length tc g (cutR p) ts (heap_alloc_new w1 _) (hT.below hb2) hb2.size hO.l4 hO.n16 (fcheck_ok.1.1 hO.form).1)
  have HB:=hide (below_tr hb1 hb2)
  have HF:Hid (∀ s,s=imB N (cutR p) (cutL p).length (fun j=>tbS (ts j))→CpA p n s 0 0):=fun s h=>.inr ⟨N,ts,hO,h,rfl,rfl⟩
  have hNI:(N:Int)≤16:=by have:=hO.n16;omega
  have hlI:((cutL p).length:Int)≤4:=by have:=hO.l4;omega
  clear hb1 hO hT hb2
  generalize imB N (cutR p) (cutL p).length (fun j=>tbS (ts j))=im at *
  have HF2:=hide (unhide HF im rfl)
  clear HF
  unfold imC
  go_wp2_with fail
  refine (unhide HBY).mono ?_
  rintro e w3 ⟨rfl,hb3⟩
  have HB3:=hide (below_tr (unhide HB) hb3)
  clear hb3
  go_wp2_with fail
  refine bodyPost_ret (v:=.tuple #[.string im,.int .i64 0,.int .i64 0]) (by simp [results,Tryz.results15,go_sem]) rfl ?_
  exact ⟨unhide HB3,_,_,_,rfl,unhide HF2⟩
end Mc
end Go.Proofs.YtobfpgoepaeknaaGreat
namespace Go.Proofs.YtobfpgoepaeknaaGreat
namespace Mc
open Go.RowKit
attribute [local go_sem ↓] Go.wp_at_zero Go.wp_at_succ
set_option maxRecDepth 20000 in
set_option maxHeartbeats 2000000 in
theorem cut_any (w:World) (p:ByteArray) (hp:p.size≤284) :
  Calls Tryz.prog 47 #[.string p] w fun e w'=>∃ va vc,e=.returned (.tuple #[.slice va (cutL p).length vc,.string (cutR p)])∧CtI w w' va vc (cutL p):=by
 have hpI:(p.size:Int)≤284:=by omega
 have HP:=hide hp
 have HC0:Hid (CtI w w none 0 (cutS p 0).1):=CtI.nil w
 clear hp
 go_enter Tryz.func47,Tryz.ntmps47
 go_wp2_with fail
 go_loopw [4,5,6] (fun lx bx ix wr=>∃ (i:Nat) (va:Option Addr) (vc:Nat),lx=.slice va (cutS p i).1.length vc∧bx=.int .i64 ((cutS p i).2:Int)∧ix=.int .i64 (i:Int)∧Hid (i≤p.size∧CtI w wr va vc (cutS p i).1)) (fun _ _ ix _=>p.size - (intOf ix).toNat)
 case atStart=>exact ⟨0,_,_,rfl,rfl,rfl,Nat.zero_le _,unhide HC0⟩
 case round =>
  clear HC0
  rename World=>wr
  obtain ⟨i,va,vc,rfl,rfl,rfl,HH⟩:=hrel
  obtain ⟨hi,hI⟩:=unhide HH
  clear HH
  have hle:=cutS_le p i
  have hll:=cutS_len p i
  by_cases hlt:i < p.size
  ·have hiI:(i:Int) < (p.size:Int):=by omega
   have hi0:(0:Int)≤(i:Int):=by omega
   have hi1:((i:Int)).toNat=i:=by omega
   have haI:((cutS p i).2:Int)≤(i:Int):=by omega
   have ha0:(0:Int)≤((cutS p i).2:Int):=by omega
   have ha1:(((cutS p i).2:Int)).toNat=(cutS p i).2:=by omega
   have b0:=bt_at p i
   have HI:=hide hI
   have HLT:=hide hlt
   by_cases h10:bt p i=10
   ·have HN:=hide (cutS_yes h10)
    rw [h10] at b0
    generalize cutS p i=c at *
    obtain ⟨L,a⟩:=c
    have HLL:Hid (L.length≤i):=hll
    have HXA:=hide (hI.alloc (Obj.cells #[.string (p.extract a i)] 9))
    have HSZ:Hid (w.heap.size≤wr.heap.size):=hI.below.size
    clear hi hI hle hll h10
    go_wp2_with (at_builtin;refine appTx rfl (.tmp 17) (.tmp 22) rfl w.heap.size _ L rfl (unhide HXA).row wr.heap.size (p.extract a i) rfl (new_cell rfl) (by have:=unhide HLL;have:=unhide HLT;have:=unhide HP;omega) (by have:=unhide HSZ;simp;omega) (wr.heap.size+1) (by simp) ?_;intro g5 cap5 w8 ho hgrow hlies hlt5;have HP9:=hide ((unhide HXA).push hgrow ho);clear ho hgrow hlies)
    go_roundw
    case rel=>exact ⟨i+1,some ⟨g5,0,none⟩,cap5,by rw [unhide HN];simp,by rw [unhide HN];go_num,by go_num,unhide HLT,by rw [unhide HN];exact unhide HP9⟩
    case measure=>have:=unhide HLT;simp [intOf];omega
   ·have HN:=hide (cutS_no h10)
    have hbI:¬((bt p i:Nat):Int)=10:=by omega
    generalize bt p i=bb at *
    generalize cutS p i=c at *
    obtain ⟨L,a⟩:=c
    clear hi hI hle hll h10
    go_wp2_with fail
    go_roundw
    case rel=>exact ⟨i+1,va,vc,by rw [unhide HN],by rw [unhide HN],by go_num,unhide HLT,by rw [unhide HN];exact unhide HI⟩
    case measure=>have:=unhide HLT;simp [intOf];omega
  ·have hi2:i=p.size:=by omega
   subst hi2
   have HI:Hid (CtI w wr va vc (cutL p)):=hI
   have haI:((cutS p p.size).2:Int)≤(p.size:Int):=by omega
   have ha0:(0:Int)≤((cutS p p.size).2:Int):=by omega
   have ha1:(((cutS p p.size).2:Int)).toNat=(cutS p p.size).2:=by omega
   have HR:Hid (cutR p=p.extract (cutS p p.size).2 p.size∧cutL p=(cutS p p.size).1):=⟨rfl,rfl⟩
   clear hi hlt hI hle hll
   generalize cutS p p.size=c at *
   obtain ⟨L,a⟩:=c
   go_wp2_with fail
   go_quiet (fail)
   go_wp2_with fail
   go_ret2
   exact ⟨va,vc,by rw [(unhide HR).1,(unhide HR).2];rfl,below_drewN (unhide HI).below _,(unhide HI).row⟩
end Mc
end Go.Proofs.YtobfpgoepaeknaaGreat
