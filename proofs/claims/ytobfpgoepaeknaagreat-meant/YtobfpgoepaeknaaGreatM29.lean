/-
  policies.Image.Bytes.
  veil.Compile.
  What is compiled is an image.
-/
import Derived.Test.YtobfpgoepaeknaaGreatM27
import Derived.Test.YtobfpgoepaeknaaGreatM28
namespace Go.Proofs.YtobfpgoepaeknaaGreat
namespace Mc
open Go.RowKit
theorem strN_size' (xs:List Nat):(strN xs).size=xs.length:=by show ((xs.map UInt8.ofNat).toArray).size=_;simp
theorem lay_bytes (S C:Nat) (cl:Nat→Nat) (gr:Nat→Bool) (nc:Nat→Nat→Nat):bytesT ((List.range S).map gr).length C cl ((List.range S).map gr) ((List.range S).flatMap (fun i=>(List.range C).map (nc i)))=layTab S C cl gr nc:=by
 unfold bytesT layTab
 rw [List.length_map,List.length_range,List.map_map]
 rfl
theorem flat_of (C:Nat) (nc:Nat→Nat→Nat) (S:Nat) {ns:List Nat} (hl:ns.length=S * C) (h:∀ q c,q < S→c < C→ns.getD (q * C+c) 0=nc q c):ns=(List.range S).flatMap (fun i=>(List.range C).map (nc i)):=by
 apply List.ext_getElem (by rw [flat_len];exact hl)
 intro k h1 h2
 have hC:0 < C:=by
  cases C with
  | zero=>rw [hl] at h1;simp at h1
  | succ C=>omega
 have hq:k / C < S:=by rw [Nat.div_lt_iff_lt_mul hC];rw [hl] at h1;exact h1
 have hc:k % C < C:=Nat.mod_lt _ hC
 have e:k / C * C+k % C=k:=by rw [Nat.mul_comm];exact Nat.div_add_mod _ _
 have g1:=h _ _ hq hc
 have g2:=flat_getD C nc S _ _ hq hc
 rw [e] at g1 g2
 rw [List.getD_eq_getElem?_getD,List.getElem?_eq_getElem h1] at g1
 rw [List.getD_eq_getElem?_getD,List.getElem?_eq_getElem h2] at g2
 exact g1.trans g2.symm
theorem bools_of {S:Nat} {gr:Nat→Bool} {bs:List Bool} (hl:bs.length=S) (h:∀ q,q < S→bs.getD q false=gr q):bs=(List.range S).map gr:=by
 apply List.ext_getElem (by rw [List.length_map,List.length_range];exact hl)
 intro k h1 h2
 have:=h k (by omega)
 rw [List.getD_eq_getElem?_getD,List.getElem?_eq_getElem h1] at this
 rw [List.getElem_map,List.getElem_range]
 exact this
theorem tbytes_of {w:World} {B gt:Nat} {t:TabN} {gv nv:Value} (h:TRws w B t gv nv) (hg:w.heap[gt]?=some (.cells (tbC t.cl t.C gv nv) 47 (0,0))) :
  Calls Tryz.prog 20 #[.pointer (some ⟨gt,0,none⟩)] w fun e w'=>e=.returned (.string (tbS t))∧Below w.heap.size w w':=by
 obtain ⟨bs,ns,h1,h2,-,-,h3,h4,h5,h6⟩:=h.ex
 obtain rfl:=bools_of h3 h4
 obtain rfl:=flat_of t.C t.nx t.S h5 h6
 have hk:=h.ok
 rw [←tabA_tbC] at hg
 have:=TBytes_any w gt t.cl t.C _ _ ⟨gv,nv,hg,h1,h2⟩ hk.c2 (by simp;exact hk.s2) (fun b hb=>by have:=hk.cl b hb;have:=hk.c2;omega) (fun x hx=>by
  obtain ⟨i,hi,hx⟩:=List.mem_flatMap.1 hx
  obtain ⟨c,hc,rfl⟩:=List.mem_map.1 hx
  have:=hk.nx i c (List.mem_range.1 hi) (List.mem_range.1 hc)
  have:=hk.s2
  omega) (by
  rw [flat_len]
  have:=Nat.mul_le_mul hk.s2 hk.c2
  omega)
 rw [lay_bytes] at this
 exact this
def joinT (ts:Nat→ByteArray):Nat→ByteArray
 | 0=>⟨#[]⟩
 | i+1=>joinT ts i++ts i
def imB (N:Nat) (f:ByteArray) (m:Nat) (ts:Nat→ByteArray):ByteArray:=strN [86,80,N,m,f.size]++f++joinT ts m
theorem joinT_size (ts:Nat→ByteArray):∀ m,(∀ j,j < m→(ts j).size≤1000)→(joinT ts m).size≤1000 * m
 | 0,_=>Nat.zero_le _
 | m+1,h=>by
  have:=joinT_size ts m (fun j hj=>h j (by omega))
  have:=h m (by omega)
  rw [joinT,ByteArray.size_append];omega
theorem app_nilB (a:ByteArray):a++(⟨#[]⟩:ByteArray)=a:=by
 apply ByteArray.ext
 rw [ByteArray.data_append];simp
section
attribute [local go_sem ↓] Go.wp_at_zero Go.wp_at_succ zvTb
attribute [local go_sem] zcTb_size zcTb_ne aggcells
set_option maxRecDepth 20000 in
set_option maxHeartbeats 4000000 in
theorem Bytes_any (w:World) (B gi N m tc g:Nat) (f:ByteArray) (ts:Nat→TabN) (him:w.heap[gi]?=some (.cells #[.int .i64 (N:Int),.string f,.slice (some ⟨g,0,none⟩) m tc] 76 (0,0))) (ht:Tbs w B g m ts) (hB:B≤w.heap.size) (hm:m≤4) (hN:N≤16) (hf:f.size≤40) :
  Calls Tryz.prog 32 #[.pointer (some ⟨gi,0,none⟩)] w fun e w'=>e=.returned (.string (imB N f m (fun j=>tbS (ts j))))∧Below w.heap.size w w':=by
 have c0:w.cell? ⟨gi,0,none⟩=some (.int .i64 (N:Int)):=by rw [cell_of_row _ _ _ _ _ _ him];rfl
 have c1:w.cell? ⟨gi,1,none⟩=some (.string f):=by rw [cell_of_row _ _ _ _ _ _ him];rfl
 have c2:w.cell? ⟨gi,2,none⟩=some (.slice (some ⟨g,0,none⟩) m tc):=by rw [cell_of_row _ _ _ _ _ _ him];rfl
 have hgi:=(Array.getElem?_eq_some_iff.1 him).1
 have hw1:=wrapB N (by omega)
 have hw2:=wrapB m (by omega)
 have hw3:=wrapB f.size (by omega)
 have hmI:(m:Int)≤4:=by omega
 have hfI:(f.size:Int)≤40:=by omega
 have HIM:=hide him
 have HT:=hide ht
 have HBB:=hide hB
 have HM:=hide hm
 have HF:=hide hf
 have HNN:=hide hN
 have HB0:Hid (Below w.heap.size w (w.alloc (.cells #[.int .u8 (N:Int),.int .u8 (m:Int),.int .u8 (f.size:Int)] 5))):=(Below.refl _ _).alloc (Nat.le_refl _) _
 have HU0:Hid (URow (w.alloc (.cells #[.int .u8 (N:Int),.int .u8 (m:Int),.int .u8 (f.size:Int)] 5)) 0 (.slice (some ⟨w.heap.size,0,none⟩) [N,m,f.size].length 3) [N,m,f.size]):=⟨rfl,.inr ⟨_,3,_,rfl,Nat.zero_le _,heap_alloc_new _ _,Nat.le_refl _,by unfold maxLen;omega,rfl,rfl⟩⟩
 clear him ht hB hm hf hN
 go_enter Tryz.func32,Tryz.ntmps32
 go_upto_region 1 with fail
 go_cut [3] (fun tv wx=>∃ g3,tv=.slice (some ⟨g3,0,none⟩) 3 3∧Hid (Below w.heap.size w wx∧URow wx 0 (.slice (some ⟨g3,0,none⟩) 3 3) [N,m,f.size]))
 case first =>
  go_region
  all_goals
   go_wp2_with fail
   go_meet
   exact ⟨_,rfl,(unhide HB0).drew,unhide HU0⟩
 case rest =>
  rename World=>w1
  obtain ⟨g3,rfl,HC1⟩:=hcut
  clear HB0 HU0 hw1 hw2 hw3 c0 c1 c2
  have hb1:=(unhide HC1).1
  have him1:=(hb1.block _ hgi).trans (unhide HIM)
  have c1:w1.cell? ⟨gi,1,none⟩=some (.string f):=by rw [cell_of_row _ _ _ _ _ _ him1];rfl
  have hg1:=(Array.getElem?_eq_some_iff.1 him1).1
  have hcv:∀ n,(convert 66 9 (.slice (some ⟨g3,0,none⟩) 3 3)).run Tryz.prog (w1.drewN n)=.ok (.string (strN [N,m,f.size])) (w1.drewN n):=fun n=>conv_row (w:=w1.drewN n) (xs:=[N,m,f.size]) (unhide HC1).2 (fun x hx=>by have:=unhide HNN;have:=unhide HM;have:=unhide HF;simp at hx;omega)
  have hz0:(strN [N,m,f.size]).size=3:=strN_size' _
  have HS5:Hid (⟨#[86,80]⟩++strN [N,m,f.size]++f=strN [86,80,N,m,f.size]++f++joinT (fun j=>tbS (ts j)) 0):=by
   show _=_
   rw [joinT,app_nilB]
   rfl
  have HBW:=hide hb1
  generalize strN [N,m,f.size]=s3 at *
  have hz1:¬9223372036854775807 < 2+s3.size:=by omega
  have hz2:¬9223372036854775807 < 2+s3.size+f.size:=by have:=unhide HF;omega
  clear hb1 him1 HC1
  go_wp2_with fail
  go_quiet (fail)
  go_wp2_with fail
  have HB2:=hide (below_drewN (unhide HBW) nq)
  clear HBW hcv hz1 hz2 hz0 c1 hg1
  generalize w1.drewN nq=w2 at *
  go_loopw [4,5] (fun tx ix wr=>∃ (i:Nat) (s:ByteArray),tx=.string s∧ix=.int .i64 (i:Int)∧Hid (i≤m∧s=strN [86,80,N,m,f.size]++f++joinT (fun j=>tbS (ts j)) i∧Below w.heap.size w wr)) (fun _ ix _=>m - (intOf ix).toNat)
  case atStart=>exact ⟨0,_,rfl,rfl,Nat.zero_le _,unhide HS5,unhide HB2⟩
  case round =>
   clear HS5 HB2
   rename World=>wr
   obtain ⟨i,s,rfl,rfl,HH⟩:=hrel
   obtain ⟨hi,hs,hb⟩:=unhide HH
   clear HH
   have him1:=(hb.block _ hgi).trans (unhide HIM)
   have c2:wr.cell? ⟨gi,2,none⟩=some (.slice (some ⟨g,0,none⟩) m tc):=by rw [cell_of_row _ _ _ _ _ _ him1];rfl
   have hg1:=(Array.getElem?_eq_some_iff.1 him1).1
   by_cases hlt:i < m
   ·have hiI:(i:Int) < (m:Int):=by omega
    have hi0:(0:Int)≤(i:Int):=by omega
    have hi1:((i:Int)).toNat=i:=by omega
    have htb:=(unhide HT).below (hb.mono (unhide HBB))
    have hgl:g < wr.heap.size:=by have:=htb.lt;have:=unhide HBB;have:=hb.size;omega
    obtain ⟨gv,nv,hr,hrw⟩:=htb.at_ i hlt
    obtain ⟨a1,n1,k1,a2,n2,k2,rfl,rfl⟩:=hrw.form
    have HR:=hide hr
    have HSZ:=hide (tbC_size (ts i).cl (ts i).C (.slice a1 n1 k1) (.slice a2 n2 k2))
    have HON:=hide (tbC_one a1 a2 n1 n2 k1 k2 (ts i).cl (ts i).C)
    have HBY:=hide (tbytes_of (hrw.below (((Below.refl _ _).alloc (Nat.le_refl _) (.cells (tbC (ts i).cl (ts i).C (.slice a1 n1 k1) (.slice a2 n2 k2)) 47)).mono (show B≤wr.heap.size by have:=unhide HBB;have:=hb.size;omega))) (heap_alloc_new wr _))
    have hz:¬9223372036854775807 < s.size+(tbS (ts i)).size:=by
     have h1:=tbS_le hrw.ok
     have h2:=joinT_size (fun j=>tbS (ts j)) i (fun j hj=>by obtain ⟨_,_,_,h⟩:=htb.at_ j (by omega);exact tbS_le h.ok)
     have h3:=unhide HF
     have h4:=unhide HM
     rw [hs,ByteArray.size_append,ByteArray.size_append,strN_size']
     simp only [List.length_cons,List.length_nil]
     omega
    have HNW:Hid (s++tbS (ts i)=strN [86,80,N,m,f.size]++f++joinT (fun j=>tbS (ts j)) (i+1)):=by
     show _=_
     rw [hs,joinT,←ByteArray.append_assoc]
    have HB3:=hide (hb.alloc hb.size (.cells (tbC (ts i).cl (ts i).C (.slice a1 n1 k1) (.slice a2 n2 k2)) 47))
    have HLT:=hide hlt
    clear hi hs hb hlt htb hr hrw him1
    generalize tbC (ts i).cl (ts i).C (.slice a1 n1 k1) (.slice a2 n2 k2)=cs at *
    generalize tbS (ts i)=st at *
    go_wp2_with (first
     | refine _root_.Go.wpList_load_mid rfl 47 _ rfl g (i * 259) rfl cs.toList _ (unhide HR) Tryz.underlying47 rfl (by rw [Array.length_toList,unhide HSZ];exact infoT) ?_
     | (refine store_row rfl 47 _ _ rfl rfl wr.heap.size cs rfl rfl 47 _ (heap_alloc_new _ _) (by rw [unhide HSZ];exact infoT) (by rw [zcTb_size];exact (unhide HSZ).symm) (unhide HON) ?_;rw [setRow_alloc1]))
    refine (unhide HBY).mono ?_
    rintro e w4 ⟨rfl,hb4⟩
    have HB4:=hide (below_tr (unhide HB3) hb4)
    clear hb4 HBY HB3 HR
    go_wp2_with fail
    go_roundw
    case rel=>exact ⟨i+1,_,rfl,by go_num,unhide HLT,unhide HNW,unhide HB4⟩
    case measure=>have:=unhide HLT;simp [intOf];omega
   ·have hi2:i=m:=by omega
    subst hi2
    have HB:=hide hb
    have HS:=hide hs
    clear hi hs hb hlt him1
    go_wp2_with fail
    go_ret
    exact ⟨by rw [unhide HS];rfl,unhide HB⟩
end
end Mc
end Go.Proofs.YtobfpgoepaeknaaGreat
namespace Go.Proofs.YtobfpgoepaeknaaGreat
namespace Mc
open Go.RowKit
attribute [local go_sem ↓] Go.wp_at_zero Go.wp_at_succ
def CpA (p:ByteArray) (n:Int) (s:ByteArray) (er at_:Int):Prop :=
 (CpE p n er at_∧s=⟨#[]⟩)∨(∃ N ts,CpO p n N ts∧s=imB N (cutR p) (cutL p).length (fun j=>tbS (ts j))∧er=0∧at_=0)
set_option maxRecDepth 20000 in
set_option maxHeartbeats 2000000 in
theorem VCompile_any (w:World) (p:ByteArray) (n:Int) (hx:p.size≤9223372036854775807) :
  Calls Tryz.prog 15 #[.string p,.int .i64 n] w fun e w'=>Below w.heap.size w w'∧∃ s er at_,e=.returned (.tuple #[.string s,.int .i64 er,.int .i64 at_])∧CpA p n s er at_:=by
 have HC:=hide (Compile_any w p n hx)
 clear hx
 go_enter Tryz.func15,Tryz.ntmps15
 go_wp2_with fail
 refine (unhide HC).mono ?_
 clear HC
 rintro e w1 ⟨hb1,⟨er,at_,rfl,hE⟩ | ⟨N,ts,g,tc,rfl,hO,hT⟩⟩
 ·have hne:¬er=0:=hE.ne
  have HE:=hide hE
  have HB:=hide (hb1.alloc hb1.size (.cells #[.int .i64 0,.string ⟨#[]⟩,.slice none 0 0] 76))
  clear hb1 hE
  unfold zIm
  go_wp2_with fail
  refine bodyPost_ret (v:=.tuple #[.string ⟨#[]⟩,.int .i64 er,.int .i64 at_]) (by simp [results,Tryz.results15,go_sem]) rfl ?_
  exact ⟨unhide HB,_,_,_,rfl,.inl ⟨unhide HE,rfl⟩⟩
 ·have hb2:Below w1.heap.size w1 (w1.alloc (.cells #[.int .i64 (N:Int),.string (cutR p),.slice (some ⟨g,0,none⟩) (cutL p).length tc] 76)):=(Below.refl _ _).alloc (Nat.le_refl _) _
  have HBY:=hide (Bytes_any _ w1.heap.size w1.heap.size N (cutL p).length tc g (cutR p) ts (heap_alloc_new w1 _) (hT.below hb2) hb2.size hO.l4 hO.n16 (fcheck_ok.1.1 hO.form).1)
  have HB:=hide (below_tr hb1 hb2)
  have HF:Hid (∀ s,s=imB N (cutR p) (cutL p).length (fun j=>tbS (ts j))→CpA p n s 0 0):=fun s h=>.inr ⟨N,ts,hO,h,rfl,rfl⟩
  have hNI:(N:Int)≤16:=by have:=hO.n16;omega
  have hlI:((cutL p).length:Int)≤4:=by have:=hO.l4;omega
  clear hb1 hO hT hb2
  generalize imB N (cutR p) (cutL p).length (fun j=>tbS (ts j))=im at *
  have HF2:=hide (unhide HF im rfl)
  clear HF
  unfold imC
  go_wp2_with fail
  refine (unhide HBY).mono ?_
  rintro e w3 ⟨rfl,hb3⟩
  have HB3:=hide (below_tr (unhide HB) hb3)
  clear hb3
  go_wp2_with fail
  refine bodyPost_ret (v:=.tuple #[.string im,.int .i64 0,.int .i64 0]) (by simp [results,Tryz.results15,go_sem]) rfl ?_
  exact ⟨unhide HB3,_,_,_,rfl,unhide HF2⟩
end Mc
end Go.Proofs.YtobfpgoepaeknaaGreat
namespace Go.Proofs.YtobfpgoepaeknaaGreat
namespace Mc
open Go.RowKit
theorem bt_appB (a b:ByteArray) (k:Nat):bt (a++b) k=if k < a.size then bt a k else bt b (k - a.size):=by
 have hs:(a++b).size=a.size+b.size:=ByteArray.size_append
 unfold bt
 by_cases h:k < a.size
 ·rw [if_pos h,dif_pos (by omega),dif_pos h,ByteArray.getElem_append_left h]
 ·rw [if_neg h]
  by_cases h2:k - a.size < b.size
  ·rw [dif_pos (by omega),dif_pos h2,ByteArray.getElem_append_right (by omega)]
  ·rw [dif_neg (by omega),dif_neg h2]
theorem bt_strN {xs:List Nat} (h:∀ x∈xs,x < 256) (k:Nat):bt (strN xs) k=xs.getD k 0:=by
 unfold bt
 by_cases hk:k < (strN xs).size
 ·rw [dif_pos hk]
  have hk2:k < xs.length:=by rwa [strN_size'] at hk
  have e:(strN xs)[k]'hk=(xs.map UInt8.ofNat)[k]'(by rw [List.length_map];exact hk2):=rfl
  rw [e,List.getElem_map,u8_ofNat (h _ (List.getElem_mem _)),List.getD_eq_getElem?_getD,List.getElem?_eq_getElem hk2];rfl
 ·rw [dif_neg hk,List.getD_eq_getElem?_getD,List.getElem?_eq_none (by rw [strN_size'] at hk;omega)];rfl
theorem gD_l {l r:List Nat} {k:Nat} (h:k < l.length):(l++r).getD k 0=l.getD k 0:=by
 rw [List.getD_eq_getElem?_getD,List.getD_eq_getElem?_getD,List.getElem?_append_left h]
theorem gD_r {l r:List Nat} {k:Nat} (h:l.length≤k):(l++r).getD k 0=r.getD (k - l.length) 0:=by
 rw [List.getD_eq_getElem?_getD,List.getD_eq_getElem?_getD,List.getElem?_append_right h]
theorem gD_map {f:Nat→Nat} {n k:Nat} (h:k < n):((List.range n).map f).getD k 0=f k:=by
 rw [List.getD_eq_getElem?_getD,List.getElem?_map,List.getElem?_range h];rfl
section
variable {t : TabN}
theorem lay_lt (h:t.Ok):∀ x∈layTab t.S t.C t.cl t.gr t.nx,x < 256:=fun x hx=>by
 have h1:=h.s2
 have h2:=h.c2
 unfold layTab at hx
 rcases List.mem_append.1 hx with hx | hx
 ·rcases List.mem_append.1 hx with hx | hx
  ·rcases List.mem_append.1 hx with hx | hx
   ·simp at hx;omega
   ·obtain ⟨b,hb,rfl⟩:=List.mem_map.1 hx
    have:=h.cl b (List.mem_range.1 hb)
    omega
  ·obtain ⟨b,hb,rfl⟩:=List.mem_map.1 hx
   split<;>omega
 ·obtain ⟨i,hi,hx⟩:=List.mem_flatMap.1 hx
  obtain ⟨c,hc,rfl⟩:=List.mem_map.1 hx
  have:=h.nx i c (List.mem_range.1 hi) (List.mem_range.1 hc)
  omega
theorem tbS_0 (h:t.Ok):bt (tbS t) 0=t.S:=by
 unfold tbS;rw [bt_strN (lay_lt h)];rfl
theorem tbS_1 (h:t.Ok):bt (tbS t) 1=t.C:=by
 unfold tbS;rw [bt_strN (lay_lt h)];rfl
theorem tbS_cl (h:t.Ok) {b:Nat} (hb:b < 256):bt (tbS t) (2+b)=t.cl b:=by
 unfold tbS
 rw [bt_strN (lay_lt h)]
 unfold layTab
 rw [gD_l (by simp;omega),gD_l (by simp;omega),gD_r (by simp),show 2+b - [t.S,t.C].length=b by simp,gD_map hb]
theorem tbS_gr (h:t.Ok) {q:Nat} (hq:q < t.S):bt (tbS t) (258+q)=if t.gr q then 1 else 0:=by
 unfold tbS
 rw [bt_strN (lay_lt h)]
 unfold layTab
 rw [gD_l (by simp;omega),gD_r (by simp),show 258+q - ([t.S,t.C]++(List.range 256).map t.cl).length=q by simp,gD_map hq]
theorem tbS_nx (h:t.Ok) {q c:Nat} (hq:q < t.S) (hc:c < t.C):bt (tbS t) (258+t.S+(q * t.C+c))=t.nx q c:=by
 unfold tbS
 rw [bt_strN (lay_lt h)]
 unfold layTab
 have hlen:([t.S,t.C]++(List.range 256).map t.cl++(List.range t.S).map (fun i=>if t.gr i then (1:Nat) else 0)).length=258+t.S:=by simp;omega
 rw [gD_r (by rw [hlen];omega),hlen,Nat.add_sub_cancel_left]
 exact flat_getD _ _ _ _ _ hq hc
end
def Stand (x:ByteArray) (p:Nat) (y:ByteArray):Prop:=∀ k,k < y.size→bt x (p+k)=bt y k
structure SameT (a t:TabN):Prop where
 S:a.S=t.S
 C:a.C=t.C
 cl:∀ b,b < 256→a.cl b=t.cl b
 gr:∀ q,q < t.S→a.gr q=t.gr q
 nx:∀ q c,q < t.S→c < t.C→a.nx q c=t.nx q c
theorem stand_tab {x:ByteArray} {p:Nat} {t:TabN} (h:t.Ok) (hs:Stand x p (tbS t)) (hl:p+(tbS t).size≤x.size):TOk x p∧tsz x p=(tbS t).size∧SameT (tabAt x p) t:=by
 have hz:=tbS_size t
 have e0:bt x p=t.S:=by have:=hs 0 (by omega);rw [Nat.add_zero] at this;rw [this,tbS_0 h]
 have e1:bt x (p+1)=t.C:=by rw [hs 1 (by omega),tbS_1 h]
 have ec:∀ b,b < 256→bt x (p+2+b)=t.cl b:=fun b hb=>by rw [Nat.add_assoc,hs _ (by omega),tbS_cl h hb]
 have eg:∀ q,q < t.S→bt x (p+258+q)=if t.gr q then 1 else 0:=fun q hq=>by rw [Nat.add_assoc,hs _ (by omega),tbS_gr h hq]
 have en:∀ q c,q < t.S→c < t.C→bt x (p+258+t.S+(q * t.C+c))=t.nx q c:=fun q c hq hc=>by
  have h1:(q+1) * t.C≤t.S * t.C:=Nat.mul_le_mul_right _ hq
  rw [Nat.add_mul,Nat.one_mul] at h1
  rw [show p+258+t.S+(q * t.C+c)=p+(258+t.S+(q * t.C+c)) by omega,hs _ (by omega),tbS_nx h hq hc]
 have ez:tsz x p=(tbS t).size:=by unfold tsz;rw [e0,e1,hz]
 refine ⟨⟨by rw [e0];exact h.s1,by rw [e0];exact h.s2,by rw [e1];exact h.c1,by rw [e1];exact h.c2,by rw [ez];exact hl,fun b hb=>by rw [ec b hb,e1];exact h.cl b hb,fun q hq=>?_,fun k hk=>?_⟩,ez,⟨e0,e1,ec,fun q hq=>?_,fun q c hq hc=>?_⟩⟩
 ·rw [e0] at hq
  rw [eg q hq]
  split<;>omega
 ·rw [e0,e1] at hk
  rw [e0]
  have hC:0 < t.C:=h.c1
  have hq:k / t.C < t.S:=by rw [Nat.div_lt_iff_lt_mul hC];exact hk
  have hc:k % t.C < t.C:=Nat.mod_lt _ hC
  have e:k / t.C * t.C+k % t.C=k:=by rw [Nat.mul_comm];exact Nat.div_add_mod _ _
  have:=en _ _ hq hc
  rw [e] at this
  rw [this]
  exact h.nx _ _ hq hc
 ·show decide (bt x (p+258+q)=1)=t.gr q
  rw [eg q hq]
  cases t.gr q<;>simp
 ·show bt x (p+258+bt x p+(q * bt x (p+1)+c))=t.nx q c
  rw [e0,e1];exact en q c hq hc
section
variable {N m : Nat} {f : ByteArray} {ts : Nat → TabN}
theorem imB_size (N:Nat) (f:ByteArray) (m:Nat) (ts:Nat→ByteArray):(imB N f m ts).size=5+f.size+(joinT ts m).size:=by
 unfold imB
 rw [ByteArray.size_append,ByteArray.size_append,strN_size'];rfl
theorem imB_head {k:Nat} (hk:k < 5) (hN:N≤16) (hm:m≤4) (hf:f.size≤40) (T:Nat→ByteArray):bt (imB N f m T) k=[86,80,N,m,f.size].getD k 0:=by
 have hz:(strN [86,80,N,m,f.size]).size=5:=strN_size' _
 unfold imB
 rw [bt_appB,if_pos (by rw [ByteArray.size_append,hz];omega),bt_appB,if_pos (by rw [hz];exact hk),bt_strN (fun x hx=>by simp at hx;omega)]
theorem joinT_stand (T:Nat→ByteArray):∀ (m i:Nat),i < m→Stand (joinT T m) (joinT T i).size (T i)
 | 0,i,hi=>by omega
 | m+1,i,hi=>fun k hk=>by
  show bt (joinT T m++T m) _=_
  by_cases h:i < m
  ·have ih:=joinT_stand T m i h k hk
   have hle:∀ m,i < m→(joinT T i).size+(T i).size≤(joinT T m).size:=fun m=>by
    induction m with
    | zero=>intro h;omega
    | succ m ihm =>
     intro h
     rw [joinT,ByteArray.size_append]
     by_cases h2:i < m
     ·have:=ihm h2;omega
     ·have:i=m:=by omega
      subst this;omega
   have:=hle m h
   rw [bt_appB,if_pos (by omega)]
   exact ih
  ·have:i=m:=by omega
   subst this
   rw [bt_appB,if_neg (by omega),Nat.add_sub_cancel_left]
theorem joinT_mono (T:Nat→ByteArray) {i:Nat}:∀ m,i < m→(joinT T i).size+(T i).size≤(joinT T m).size
 | 0,h=>by omega
 | m+1,h=>by
  rw [joinT,ByteArray.size_append]
  by_cases h2:i < m
  ·have:=joinT_mono T m h2;omega
  ·have:i=m:=by omega
   subst this;omega
theorem imB_ok (hN:N≤16) (h1:1≤m) (h4:m≤4) (hf:(fcheck m f).1=0) (hok:∀ j,j < m→(ts j).Ok) :
  ImOk (imB N f m (fun j=>tbS (ts j)))∧imF (imB N f m (fun j=>tbS (ts j)))=f∧bt (imB N f m (fun j=>tbS (ts j))) 2=N∧bt (imB N f m (fun j=>tbS (ts j))) 3=m∧∀ j,j < m→SameT (imT (imB N f m (fun j=>tbS (ts j))) j) (ts j):=by
 obtain ⟨hf40,hfs⟩:=fcheck_ok.1.1 hf
 have hf1:1≤f.size:=by
  cases hz:f.size with
  | zero=>rw [hz] at hfs;unfold fscan at hfs;rw [if_pos (Or.inr (by decide))] at hfs;cases hfs
  | succ k=>omega
 obtain ⟨T,hT⟩:∃ T:Nat→ByteArray,T=fun j=>tbS (ts j):=⟨_,rfl⟩
 have hTj:∀ j,T j=tbS (ts j):=fun j=>by rw [hT]
 rw [←hT]
 have hsz:=imB_size N f m T
 have b2:bt (imB N f m T) 2=N:=imB_head (by omega) hN h4 hf40 T
 have b3:bt (imB N f m T) 3=m:=imB_head (by omega) hN h4 hf40 T
 have b4:bt (imB N f m T) 4=f.size:=imB_head (by omega) hN h4 hf40 T
 have hz5:(strN [86,80,N,m,f.size]).size=5:=strN_size' _
 have himf:imF (imB N f m T)=f:=by
  unfold imF
  rw [b4]
  apply ByteArray.ext
  apply Array.ext
  ·show ((imB N f m T).extract 5 (5+f.size)).size=f.size
   rw [ByteArray.size_extract];omega
  ·intro k hk1 hk2
   have hk3:k < f.size:=hk2
   have e:=bt_ext (imB N f m T) 5 (5+f.size) k
   rw [if_pos (by omega)] at e
   have e2:bt (imB N f m T) (5+k)=bt f k:=by
    unfold imB
    rw [bt_appB,if_pos (by rw [ByteArray.size_append,hz5];omega),bt_appB,if_neg (by rw [hz5];omega),hz5,Nat.add_sub_cancel_left]
   rw [e2,←bt_at f k hk3,←bt_at _ k hk1] at e
   exact UInt8.toNat.inj e
 have hst:∀ i,i < m→Stand (imB N f m T) (5+f.size+(joinT T i).size) (T i):=fun i hi k hk=>by
  have h5:=joinT_stand T m i hi k hk
  unfold imB
  rw [bt_appB,if_neg (by rw [ByteArray.size_append,hz5];omega),ByteArray.size_append,hz5,show 5+f.size+(joinT T i).size+k - (5+f.size)=(joinT T i).size+k by omega]
  exact h5
 have hfit:∀ i,i < m→5+f.size+(joinT T i).size+(T i).size≤(imB N f m T).size:=fun i hi=>by have:=joinT_mono T m hi;omega
 have hpos:∀ i,i≤m→tpos (imB N f m T) (5+f.size) i=5+f.size+(joinT T i).size:=fun i=>by
  induction i with
  | zero=>intro _;rfl
  | succ i ih =>
   intro hi
   have e:=ih (by omega)
   have g:=(stand_tab (hok i (by omega)) (by rw [←hTj];exact hst i (by omega)) (by rw [←hTj];exact hfit i (by omega))).2.1
   rw [tpos,e,g,joinT,ByteArray.size_append,hTj];omega
 refine ⟨⟨by omega,imB_head (by omega) hN h4 hf40 T,imB_head (by omega) hN h4 hf40 T,by omega,by omega,by omega,by omega,by omega,by omega,by rw [himf,b3];exact hfs,?_⟩,himf,b2,b3,fun j hj=>?_⟩
 ·rw [b4,b3]
  refine ⟨fun i hi=>?_,?_⟩
  ·rw [hpos i (by omega)]
   exact (stand_tab (hok i hi) (by rw [←hTj];exact hst i hi) (by rw [←hTj];exact hfit i hi)).1
  ·rw [hpos m (Nat.le_refl _),hsz]
 ·unfold imT
  rw [b4,hpos j (by omega)]
  exact (stand_tab (hok j hj) (by rw [←hTj];exact hst j hj) (by rw [←hTj];exact hfit j hj)).2.2
end
end Mc
end Go.Proofs.YtobfpgoepaeknaaGreat
