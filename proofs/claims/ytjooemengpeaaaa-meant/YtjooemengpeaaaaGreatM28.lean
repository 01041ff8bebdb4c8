/-
  veil.Compile.
  What is compiled is an image.
  veilkeep.columns: every two classes lead from some state to two states.
  Plain mathematics: atoms that are put together: escapes, sets, plain bytes.
  The small functions of the statements without the document's answer; Match of a text that is put together.
-/
import Derived.Test.YtjooemengpeaaaaGreatM27
import Derived.Test.YtjooemengpeaaaaGreatM23
import Derived.Deep.QuietTactic
import Derived.BigQuiet
import Derived.Test.YtjooemengpeaaaaGreatM22
namespace Go.Proofs.YtjooemengpeaaaaGreat
namespace Mc
open Go.RowKit
attribute [local go_sem ↓] Go.wp_at_zero Go.wp_at_succ
def CpA (p:ByteArray) (n:Int) (s:ByteArray) (er at_:Int):Prop :=
 (CpE p n er at_∧s=⟨#[]⟩)∨(∃ N ts,CpO p n N ts∧s=imB N (cutR p) (cutL p).length (fun j=>tbS (ts j))∧er=0∧at_=0)
set_option maxRecDepth 20000 in
set_option maxHeartbeats 2000000 in
theorem VCompile_any (w:World) (p:ByteArray) (n:Int) (hx:p.size≤9223372036854775807) :
  Calls Tryz.prog 11 #[.string p,.int .i64 n] w fun e w'=>Below w.heap.size w w'∧∃ s er at_,e=.returned (.tuple #[.string s,.int .i64 er,.int .i64 at_])∧CpA p n s er at_:=by
 have HC:=hide (Compile_any w p n hx)
 clear hx
 go_enter Tryz.func11,Tryz.ntmps11
 go_wp2_with fail
 refine (unhide HC).mono ?_
 clear HC
 rintro e w1 ⟨hb1,⟨er,at_,rfl,hE⟩ | ⟨N,ts,g,tc,rfl,hO,hT⟩⟩
 ·have hne:¬er=0:=hE.ne
  have HE:=hide hE
  have HB:=hide (hb1.alloc hb1.size (.cells #[.int .i64 0,.string ⟨#[]⟩,.slice none 0 0] 48))
  clear hb1 hE
  unfold zIm
  go_wp2_with fail
  refine bodyPost_ret (v:=.tuple #[.string ⟨#[]⟩,.int .i64 er,.int .i64 at_]) (by simp [results,Tryz.results11,go_sem]) rfl ?_
  exact ⟨unhide HB,_,_,_,rfl,.inl ⟨unhide HE,rfl⟩⟩
 ·have hb2:Below w1.heap.size w1 (w1.alloc (.cells #[.int .i64 (N:Int),.string (cutR p),.slice (some ⟨g,0,none⟩) (cutL p).length tc] 48)):=(Below.refl _ _).alloc (Nat.le_refl _) _
  have HBY:=hide (Bytes_any _ w1.heap.size w1.heap.size N (cutL p).length tc g (cutR p) ts (heap_alloc_new w1 _) (hT.below hb2) hb2.size hO.l4 hO.n16 (fcheck_ok.1.1 hO.form).1)
  have HB:=hide (below_tr hb1 hb2)
  have HF:Hid (∀ s,s=imB N (cutR p) (cutL p).length (fun j=>tbS (ts j))→CpA p n s 0 0):=fun s h=>.inr ⟨N,ts,hO,h,rfl,rfl⟩
  have hNI:(N:Int)≤16:=by have:=hO.n16;omega
  have hlI:((cutL p).length:Int)≤4:=by have:=hO.l4;omega
  clear hb1 hO hT hb2
  generalize imB N (cutR p) (cutL p).length (fun j=>tbS (ts j))=im at *
  have HF2:=hide (unhide HF im rfl)
  clear HF
  unfold imC
  go_wp2_with fail
  refine (unhide HBY).mono ?_
  rintro e w3 ⟨rfl,hb3⟩
  have HB3:=hide (below_tr (unhide HB) hb3)
  clear hb3
  go_wp2_with fail
  refine bodyPost_ret (v:=.tuple #[.string im,.int .i64 0,.int .i64 0]) (by simp [results,Tryz.results11,go_sem]) rfl ?_
  exact ⟨unhide HB3,_,_,_,rfl,unhide HF2⟩
end Mc
end Go.Proofs.YtjooemengpeaaaaGreat
namespace Go.Proofs.YtjooemengpeaaaaGreat
namespace Mc
open Go.RowKit
theorem bt_appB (a b:ByteArray) (k:Nat):bt (a++b) k=if k < a.size then bt a k else bt b (k - a.size):=by
 have hs:(a++b).size=a.size+b.size:=ByteArray.size_append
 unfold bt
 by_cases h:k < a.size
 ·rw [if_pos h,dif_pos (by omega),dif_pos h,ByteArray.getElem_append_left h]
 ·rw [if_neg h]
  by_cases h2:k - a.size < b.size
  ·rw [dif_pos (by omega),dif_pos h2,ByteArray.getElem_append_right (by omega)]
  ·rw [dif_neg (by omega),dif_neg h2]
theorem bt_strN {xs:List Nat} (h:∀ x∈xs,x < 256) (k:Nat):bt (strN xs) k=xs.getD k 0:=by
 unfold bt
 by_cases hk:k < (strN xs).size
 ·rw [dif_pos hk]
  have hk2:k < xs.length:=by rwa [strN_size'] at hk
  have e:(strN xs)[k]'hk=(xs.map UInt8.ofNat)[k]'(by rw [List.length_map];exact hk2):=rfl
  rw [e,List.getElem_map,u8_ofNat (h _ (List.getElem_mem _)),List.getD_eq_getElem?_getD,List.getElem?_eq_getElem hk2];rfl
 ·rw [dif_neg hk,List.getD_eq_getElem?_getD,List.getElem?_eq_none (by rw [strN_size'] at hk;omega)];rfl
theorem gD_l {l r:List Nat} {k:Nat} (h:k < l.length):(l++r).getD k 0=l.getD k 0:=by
 rw [List.getD_eq_getElem?_getD,List.getD_eq_getElem?_getD,List.getElem?_append_left h]
theorem gD_r {l r:List Nat} {k:Nat} (h:l.length≤k):(l++r).getD k 0=r.getD (k - l.length) 0:=by
 rw [List.getD_eq_getElem?_getD,List.getD_eq_getElem?_getD,List.getElem?_append_right h]
theorem gD_map {f:Nat→Nat} {n k:Nat} (h:k < n):((List.range n).map f).getD k 0=f k:=by
 rw [List.getD_eq_getElem?_getD,List.getElem?_map,List.getElem?_range h];rfl
section
variable {t : TabN}
theorem lay_lt (h:t.Ok):∀ x∈layTab t.S t.C t.cl t.gr t.nx,x < 256:=fun x hx=>by
 have h1:=h.s2
 have h2:=h.c2
 unfold layTab at hx
 rcases List.mem_append.1 hx with hx | hx
 ·rcases List.mem_append.1 hx with hx | hx
  ·rcases List.mem_append.1 hx with hx | hx
   ·simp at hx;omega
   ·obtain ⟨b,hb,rfl⟩:=List.mem_map.1 hx
    have:=h.cl b (List.mem_range.1 hb)
    omega
  ·obtain ⟨b,hb,rfl⟩:=List.mem_map.1 hx
   split<;>omega
 ·obtain ⟨i,hi,hx⟩:=List.mem_flatMap.1 hx
  obtain ⟨c,hc,rfl⟩:=List.mem_map.1 hx
  have:=h.nx i c (List.mem_range.1 hi) (List.mem_range.1 hc)
  omega
theorem tbS_0 (h:t.Ok):bt (tbS t) 0=t.S:=by
 unfold tbS;rw [bt_strN (lay_lt h)];rfl
theorem tbS_1 (h:t.Ok):bt (tbS t) 1=t.C:=by
 unfold tbS;rw [bt_strN (lay_lt h)];rfl
theorem tbS_cl (h:t.Ok) {b:Nat} (hb:b < 256):bt (tbS t) (2+b)=t.cl b:=by
 unfold tbS
 rw [bt_strN (lay_lt h)]
 unfold layTab
 rw [gD_l (by simp;omega),gD_l (by simp;omega),gD_r (by simp),show 2+b - [t.S,t.C].length=b by simp,gD_map hb]
theorem tbS_gr (h:t.Ok) {q:Nat} (hq:q < t.S):bt (tbS t) (258+q)=if t.gr q then 1 else 0:=by
 unfold tbS
 rw [bt_strN (lay_lt h)]
 unfold layTab
 rw [gD_l (by simp;omega),gD_r (by simp),show 258+q - ([t.S,t.C]++(List.range 256).map t.cl).length=q by simp,gD_map hq]
theorem tbS_nx (h:t.Ok) {q c:Nat} (hq:q < t.S) (hc:c < t.C):bt (tbS t) (258+t.S+(q * t.C+c))=t.nx q c:=by
 unfold tbS
 rw [bt_strN (lay_lt h)]
 unfold layTab
 have hlen:([t.S,t.C]++(List.range 256).map t.cl++(List.range t.S).map (fun i=>if t.gr i then (1:Nat) else 0)).length=258+t.S:=by simp;omega
 rw [gD_r (by rw [hlen];omega),hlen,Nat.add_sub_cancel_left]
 exact flat_getD _ _ _ _ _ hq hc
end
def Stand (x:ByteArray) (p:Nat) (y:ByteArray):Prop:=∀ k,k < y.size→bt x (p+k)=bt y k
structure SameT (a t:TabN):Prop where
 S:a.S=t.S
 C:a.C=t.C
 cl:∀ b,b < 256→a.cl b=t.cl b
 gr:∀ q,q < t.S→a.gr q=t.gr q
 nx:∀ q c,q < t.S→c < t.C→a.nx q c=t.nx q c
theorem stand_tab {x:ByteArray} {p:Nat} {t:TabN} (h:t.Ok) (hs:Stand x p (tbS t)) (hl:p+(tbS t).size≤x.size):TOk x p∧tsz x p=(tbS t).size∧SameT (tabAt x p) t:=by
 have hz:=tbS_size t
 have e0:bt x p=t.S:=by have:=hs 0 (by omega);rw [Nat.add_zero] at this;rw [this,tbS_0 h]
 have e1:bt x (p+1)=t.C:=by rw [hs 1 (by omega),tbS_1 h]
 have ec:∀ b,b < 256→bt x (p+2+b)=t.cl b:=fun b hb=>by rw [Nat.add_assoc,hs _ (by omega),tbS_cl h hb]
 have eg:∀ q,q < t.S→bt x (p+258+q)=if t.gr q then 1 else 0:=fun q hq=>by rw [Nat.add_assoc,hs _ (by omega),tbS_gr h hq]
 have en:∀ q c,q < t.S→c < t.C→bt x (p+258+t.S+(q * t.C+c))=t.nx q c:=fun q c hq hc=>by
  have h1:(q+1) * t.C≤t.S * t.C:=Nat.mul_le_mul_right _ hq
  rw [Nat.add_mul,Nat.one_mul] at h1
  rw [show p+258+t.S+(q * t.C+c)=p+(258+t.S+(q * t.C+c)) by omega,hs _ (by omega),tbS_nx h hq hc]
 have ez:tsz x p=(tbS t).size:=by unfold tsz;rw [e0,e1,hz]
 refine ⟨⟨by rw [e0];exact h.s1,by rw [e0];exact h.s2,by rw [e1];exact h.c1,by rw [e1];exact h.c2,by rw [ez];exact hl,fun b hb=>by rw [ec b hb,e1];exact h.cl b hb,fun q hq=>?_,fun k hk=>?_⟩,ez,⟨e0,e1,ec,fun q hq=>?_,fun q c hq hc=>?_⟩⟩
 ·rw [e0] at hq
  rw [eg q hq]
  split<;>omega
 ·rw [e0,e1] at hk
  rw [e0]
  have hC:0 < t.C:=h.c1
  have hq:k / t.C < t.S:=by rw [Nat.div_lt_iff_lt_mul hC];exact hk
  have hc:k % t.C < t.C:=Nat.mod_lt _ hC
  have e:k / t.C * t.C+k % t.C=k:=by rw [Nat.mul_comm];exact Nat.div_add_mod _ _
  have:=en _ _ hq hc
  rw [e] at this
  rw [this]
  exact h.nx _ _ hq hc
 ·show decide (bt x (p+258+q)=1)=t.gr q
  rw [eg q hq]
  cases t.gr q<;>simp
 ·show bt x (p+258+bt x p+(q * bt x (p+1)+c))=t.nx q c
  rw [e0,e1];exact en q c hq hc
section
variable {N m : Nat} {f : ByteArray} {ts : Nat → TabN}
theorem imB_size (N:Nat) (f:ByteArray) (m:Nat) (ts:Nat→ByteArray):(imB N f m ts).size=5+f.size+(joinT ts m).size:=by
 unfold imB
 rw [ByteArray.size_append,ByteArray.size_append,strN_size'];rfl
theorem imB_head {k:Nat} (hk:k < 5) (hN:N≤16) (hm:m≤4) (hf:f.size≤40) (T:Nat→ByteArray):bt (imB N f m T) k=[86,80,N,m,f.size].getD k 0:=by
 have hz:(strN [86,80,N,m,f.size]).size=5:=strN_size' _
 unfold imB
 rw [bt_appB,if_pos (by rw [ByteArray.size_append,hz];omega),bt_appB,if_pos (by rw [hz];exact hk),bt_strN (fun x hx=>by simp at hx;omega)]
theorem joinT_stand (T:Nat→ByteArray):∀ (m i:Nat),i < m→Stand (joinT T m) (joinT T i).size (T i)
 | 0,i,hi=>by omega
 | m+1,i,hi=>fun k hk=>by
  show bt (joinT T m++T m) _=_
  by_cases h:i < m
  ·have ih:=joinT_stand T m i h k hk
   have hle:∀ m,i < m→(joinT T i).size+(T i).size≤(joinT T m).size:=fun m=>by
    induction m with
    | zero=>intro h;omega
    | succ m ihm =>
     intro h
     rw [joinT,ByteArray.size_append]
     by_cases h2:i < m
     ·have:=ihm h2;omega
     ·have:i=m:=by omega
      subst this;omega
   have:=hle m h
   rw [bt_appB,if_pos (by omega)]
   exact ih
  ·have:i=m:=by omega
   subst this
   rw [bt_appB,if_neg (by omega),Nat.add_sub_cancel_left]
theorem joinT_mono (T:Nat→ByteArray) {i:Nat}:∀ m,i < m→(joinT T i).size+(T i).size≤(joinT T m).size
 | 0,h=>by omega
 | m+1,h=>by
  rw [joinT,ByteArray.size_append]
  by_cases h2:i < m
  ·have:=joinT_mono T m h2;omega
  ·have:i=m:=by omega
   subst this;omega
theorem imB_ok (hN:N≤16) (h1:1≤m) (h4:m≤4) (hf:(fcheck m f).1=0) (hok:∀ j,j < m→(ts j).Ok) :
  ImOk (imB N f m (fun j=>tbS (ts j)))∧imF (imB N f m (fun j=>tbS (ts j)))=f∧bt (imB N f m (fun j=>tbS (ts j))) 2=N∧bt (imB N f m (fun j=>tbS (ts j))) 3=m∧∀ j,j < m→SameT (imT (imB N f m (fun j=>tbS (ts j))) j) (ts j):=by
 obtain ⟨hf40,hfs⟩:=fcheck_ok.1.1 hf
 have hf1:1≤f.size:=by
  cases hz:f.size with
  | zero=>rw [hz] at hfs;unfold fscan at hfs;rw [if_pos (Or.inr (by decide))] at hfs;cases hfs
  | succ k=>omega
 obtain ⟨T,hT⟩:∃ T:Nat→ByteArray,T=fun j=>tbS (ts j):=⟨_,rfl⟩
 have hTj:∀ j,T j=tbS (ts j):=fun j=>by rw [hT]
 rw [←hT]
 have hsz:=imB_size N f m T
 have b2:bt (imB N f m T) 2=N:=imB_head (by omega) hN h4 hf40 T
 have b3:bt (imB N f m T) 3=m:=imB_head (by omega) hN h4 hf40 T
 have b4:bt (imB N f m T) 4=f.size:=imB_head (by omega) hN h4 hf40 T
 have hz5:(strN [86,80,N,m,f.size]).size=5:=strN_size' _
 have himf:imF (imB N f m T)=f:=by
  unfold imF
  rw [b4]
  apply ByteArray.ext
  apply Array.ext
  ·show ((imB N f m T).extract 5 (5+f.size)).size=f.size
   rw [ByteArray.size_extract];omega
  ·intro k hk1 hk2
   have hk3:k < f.size:=hk2
   have e:=bt_ext (imB N f m T) 5 (5+f.size) k
   rw [if_pos (by omega)] at e
   have e2:bt (imB N f m T) (5+k)=bt f k:=by
    unfold imB
    rw [bt_appB,if_pos (by rw [ByteArray.size_append,hz5];omega),bt_appB,if_neg (by rw [hz5];omega),hz5,Nat.add_sub_cancel_left]
   rw [e2,←bt_at f k hk3,←bt_at _ k hk1] at e
   exact UInt8.toNat.inj e
 have hst:∀ i,i < m→Stand (imB N f m T) (5+f.size+(joinT T i).size) (T i):=fun i hi k hk=>by
  have h5:=joinT_stand T m i hi k hk
  unfold imB
  rw [bt_appB,if_neg (by rw [ByteArray.size_append,hz5];omega),ByteArray.size_append,hz5,show 5+f.size+(joinT T i).size+k - (5+f.size)=(joinT T i).size+k by omega]
  exact h5
 have hfit:∀ i,i < m→5+f.size+(joinT T i).size+(T i).size≤(imB N f m T).size:=fun i hi=>by have:=joinT_mono T m hi;omega
 have hpos:∀ i,i≤m→tpos (imB N f m T) (5+f.size) i=5+f.size+(joinT T i).size:=fun i=>by
  induction i with
  | zero=>intro _;rfl
  | succ i ih =>
   intro hi
   have e:=ih (by omega)
   have g:=(stand_tab (hok i (by omega)) (by rw [←hTj];exact hst i (by omega)) (by rw [←hTj];exact hfit i (by omega))).2.1
   rw [tpos,e,g,joinT,ByteArray.size_append,hTj];omega
 refine ⟨⟨by omega,imB_head (by omega) hN h4 hf40 T,imB_head (by omega) hN h4 hf40 T,by omega,by omega,by omega,by omega,by omega,by omega,by rw [himf,b3];exact hfs,?_⟩,himf,b2,b3,fun j hj=>?_⟩
 ·rw [b4,b3]
  refine ⟨fun i hi=>?_,?_⟩
  ·rw [hpos i (by omega)]
   exact (stand_tab (hok i hi) (by rw [←hTj];exact hst i hi) (by rw [←hTj];exact hfit i hi)).1
  ·rw [hpos m (Nat.le_refl _),hsz]
 ·unfold imT
  rw [b4,hpos j (by omega)]
  exact (stand_tab (hok j hj) (by rw [←hTj];exact hst j hj) (by rw [←hTj];exact hfit j hj)).2.2
end
end Mc
end Go.Proofs.YtjooemengpeaaaaGreat
namespace Go.Proofs.YtjooemengpeaaaaGreat
open Go.RowKit
theorem below_drewY {B:Nat} {a w:World} (h:Below B a w) (n:Nat):Below B a (w.drewN n):=⟨h.os,h.tape,h.output,h.size,h.block⟩
end Go.Proofs.YtjooemengpeaaaaGreat
namespace Go.Proofs.YtjooemengpeaaaaGreat
def hexd (k:Nat):Nat:=if k < 10 then 48+k else 87+k
def escN (b:Nat):List Nat:=[92,hexd (b / 16),hexd (b % 16)]
theorem hexd_facts:∀ k,k < 16→hexB (hexd k:Int)=true∧mayBeEscapedB (hexd k:Int)=false∧digitI (hexd k:Int)=(k:Int):=by decide
def Gy (x:List Nat) (v:Int):Prop:=Lead x∧(∀ c y,x=c ::y→c≠93∧c≠45∧c≠94)∧∀ t A,AtW t A x→SB t A (A+x.length)∧sbV t A=v∧∀ s:Sc,8≤s.mode→∃ bk,Go' t A s (A+x.length) ⟨toS s,s.depth,bk⟩
theorem esc_sb {t:ByteArray} {A b:Nat} (hb:b < 256) (h:AtW t A (escN b)):SB t A (A+3)∧sbV t A=(b:Int)∧byteAt t A=92∧∀ x d bk,goesS x 92=(true,⟨2,d,bk⟩)→Go' t A x (A+3) ⟨bk,d,bk⟩:=by
 obtain ⟨b0,l0,a1⟩:=h.head
 obtain ⟨b1,l1,a2⟩:=a1.head
 obtain ⟨b2,l2,_⟩:=a2.head
 obtain ⟨p1,p2,p3⟩:=hexd_facts (b / 16) (by omega)
 obtain ⟨q1,q2,q3⟩:=hexd_facts (b % 16) (by omega)
 have b0':byteAt t A=92:=b0
 refine ⟨Or.inr (Or.inl ⟨b0',by rw [b1];exact p2,l2,by rw [b1];exact p1,by rw [show A+2=A+1+1 from rfl,b2];exact q1,rfl⟩),?_,b0',fun x d bk hg=>?_⟩
 ·unfold sbV
  rw [if_pos b0',b1,if_neg (by rw [p2];simp),show A+2=A+1+1 from rfl,b2,p3,q3]
  omega
 ·have g0:Go' t A x (A+1) ⟨2,d,bk⟩:=Go'.step (by rw [b0'];exact hg)
  have g1:Go' t (A+1) ⟨2,d,bk⟩ (A+1+1) ⟨3,d,bk⟩:=Go'.step (by rw [b1,goes2 rfl,p1,p2];rfl)
  have g2:Go' t (A+1+1) ⟨3,d,bk⟩ (A+1+1+1) ⟨bk,d,bk⟩:=Go'.step (by rw [b2,goes3 rfl,q1])
  exact (g0.trans g1).trans g2
theorem Gy.esc {b:Nat} (hb:b < 256):Gy (escN b) (b:Int):=by
 refine ⟨⟨92,_,rfl,by decide⟩,fun c y h=>by simp [escN] at h;omega,fun t A h=>?_⟩
 obtain ⟨s1,s2,s3,s4⟩:=esc_sb hb h
 exact ⟨s1,s2,fun s hs=>⟨toS s,s4 s _ _ (in_92 hs)⟩⟩
theorem Gy.plain {c:Nat} (hc:isPlainInSetB (c:Int)=true) (hs:atSuffixB (c:Int)=false):Gy [c] (c:Int):=by
 have hc':=hc
 simp only [isPlainInSetB,Bool.and_eq_true,Bool.not_eq_true',Bool.or_eq_false_iff,beq_eq_false_iff_ne,decide_eq_true_eq] at hc'
 refine ⟨⟨c,[],rfl,hs⟩,fun c' y h=>by simp at h;omega,fun t A h=>?_⟩
 obtain ⟨b0,l0,_⟩:=h.head
 refine ⟨Or.inr (Or.inr ⟨by rw [b0];omega,by rw [b0];omega,l0,rfl⟩),by unfold sbV;rw [if_neg (by rw [b0];omega),b0],fun s hs=>⟨s.back,Go'.step (by rw [b0];exact in_plain hs hc)⟩⟩
def Gm (x:List Nat) (G:(Nat→Bool)→Nat→Bool):Prop:=(∃ c y,x=c ::y∧c≠94∧c≠45)∧∀ t A,AtW t A (x++[93]) →
 Items t A (A+x.length)∧ItemsV t A (A+x.length) G∧∀ md d bk,(md=8∨md=9∨md=10∨md=12)→∃ md' bk',(md'=10∨md'=12)∧Go' t A ⟨md,d,bk⟩ (A+x.length) ⟨md',d,bk'⟩
theorem Gy.first {x:List Nat} {v:Int} (h:Gy x v) (y:List Nat):∃ c z,x++y=c ::z∧c≠94∧c≠45:=by
 obtain ⟨c,z,rfl,_⟩:=h.1
 exact ⟨c,z++y,rfl,(h.2.1 c z rfl).2.2,(h.2.1 c z rfl).2.1⟩
theorem toS_ten {md d bk:Int} (h:md=8∨md=9∨md=10∨md=12):toS ⟨md,d,bk⟩=10:=by
 unfold toS;rw [if_neg];simp;omega
theorem Gm.one {x:List Nat} {v:Int} (h:Gy x v):Gm x (fun f=>addR f v v):=by
 refine ⟨by have:=h.first [];rw [List.append_nil] at this;exact this,fun t A ha=>?_⟩
 obtain ⟨ax,ac⟩:=ha.app
 obtain ⟨b0,l0,_⟩:=ac.head
 obtain ⟨s1,s2,s3⟩:=h.2.2 t A ax
 refine ⟨Items.one s1 (by rw [b0];decide) (Items.none l0 b0),?_,fun md d bk hm=>?_⟩
 ·have:=ItemsV.one s1 (by rw [b0];decide) (ItemsV.none l0 b0)
  rw [s2] at this;exact this
 ·obtain ⟨bk',g⟩:=s3 ⟨md,d,bk⟩ (by simp only;omega)
  rw [toS_ten hm] at g
  exact ⟨10,bk',Or.inl rfl,g⟩
theorem Gm.two {x y:List Nat} {v u:Int} (h:Gy x v) (k:Gy y u):Gm (x++45 ::y) (fun f=>addR f v u):=by
 refine ⟨h.first _,fun t A ha=>?_⟩
 rw [List.append_assoc] at ha
 obtain ⟨ax,ay⟩:=ha.app
 obtain ⟨b0,l0,a1⟩:=ay.head
 obtain ⟨a2,ac⟩:=AtW.app (x:=y) (y:=[93]) a1
 obtain ⟨b1,l1,_⟩:=ac.head
 obtain ⟨s1,s2,s3⟩:=h.2.2 t A ax
 obtain ⟨r1,r2,r3⟩:=k.2.2 t _ a2
 have e:A+(x++45 ::y).length=A+x.length+1+y.length:=by simp;omega
 rw [e]
 refine ⟨Items.two s1 b0 r1 (Items.none l1 b1),?_,fun md d bk hm=>?_⟩
 ·have:=ItemsV.two s1 b0 r1 (ItemsV.none l1 b1)
  rw [s2,r2] at this;exact this
 ·obtain ⟨bk',g⟩:=s3 ⟨md,d,bk⟩ (by simp only;omega)
  rw [toS_ten hm] at g
  have g1:Go' t (A+x.length) ⟨10,d,bk'⟩ (A+x.length+1) ⟨11,d,bk'⟩:=Go'.step (by rw [b0];rfl)
  obtain ⟨bk2,g2⟩:=r3 ⟨11,d,bk'⟩ (by simp only;omega)
  exact ⟨12,bk2,Or.inr rfl,(g.trans g1).trans g2⟩
theorem Gm.cons {x y:List Nat} {v:Int} {G:(Nat→Bool)→Nat→Bool} (h:Gy x v) (k:Gm y G):Gm (x++y) (fun f=>G (addR f v v)):=by
 refine ⟨h.first _,fun t A ha=>?_⟩
 rw [List.append_assoc] at ha
 obtain ⟨ax,ay⟩:=ha.app
 obtain ⟨s1,s2,s3⟩:=h.2.2 t A ax
 obtain ⟨i1,i2,i3⟩:=k.2 t _ ay
 obtain ⟨c,z,rfl,_,h45⟩:=k.1
 have b0:=ay.head.1
 rw [List.length_append,←Nat.add_assoc]
 refine ⟨Items.one s1 (by rw [b0];omega) i1,?_,fun md d bk hm=>?_⟩
 ·have:=ItemsV.one s1 (by rw [b0];omega) i2
  rw [s2] at this;exact this
 ·obtain ⟨bk',g⟩:=s3 ⟨md,d,bk⟩ (by simp only;omega)
  rw [toS_ten hm] at g
  obtain ⟨md2,bk2,hm2,g2⟩:=i3 10 d bk' (Or.inr (Or.inr (Or.inl rfl)))
  exact ⟨md2,bk2,hm2,g.trans g2⟩
theorem step_set {t:ByteArray} {A E:Nat} (h91:byteAt t A=91) (it:Items t (A+1) E):StepT t A (E+1):=by
 have h1':=it.1
 intro a b h1 h2 h3 f hf
 have hs:=size_ext (a:=a) h3
 obtain ⟨f,rfl⟩:∃ f',f=f'+1:=⟨f - 1,by omega⟩
 rw [ovF,if_pos (by omega),byteAt_win h3 h1 (by omega),if_neg (by simp [h91]),if_pos (by simp [h91]),show A - a+1=A+1 - a from by omega]
 exact (it.2.2 a b (by omega) (by omega) h3).1 f (by omega)
theorem step_not {t:ByteArray} {A E:Nat} (h91:byteAt t A=91) (h94:byteAt t (A+1)=94) (it:Items t (A+2) E):StepT t A (E+1):=by
 have h1':=it.1
 intro a b h1 h2 h3 f hf
 have hs:=size_ext (a:=a) h3
 obtain ⟨f,rfl⟩:∃ f',f=f'+2:=⟨f - 2,by omega⟩
 rw [ovF,if_pos (by omega),byteAt_win h3 h1 (by omega),if_neg (by simp [h91]),if_pos (by simp [h91]),show A - a+1=A+1 - a from by omega]
 rw [ovF,if_pos (by omega),byteAt_win h3 (by omega) (by omega),if_neg (by simp [h94]),if_neg (by simp [h94]),show A+1 - a+1=A+2 - a from by omega]
 exact (it.2.2 a b (by omega) (by omega) h3).1 f (by omega)
theorem Ga.leaf {x:List Nat} {f:Nat→Bool} (hl:Lead x) (h:∀ t A,t.size≤60→AtW t A x→StepT t A (A+x.length)∧byteAt t A≠40∧noBar (byteAt t A)=true∧leafS (t.extract A (A+x.length))=some ⟨2,0,0,0,0,f⟩∧ScanA t A (A+x.length)):Ga x (Re.set f).val:=by
 refine ⟨hl,fun t A h60 ha=>?_⟩
 obtain ⟨h1,h2,h3,h4,h5⟩:=h t A h60 ha
 obtain ⟨c,z,rfl,_⟩:=hl
 exact ⟨atoV_leaf h1 (by simp) (by have:=ha.1;omega) h2 h3 h4,h5⟩
theorem Ga.esc {b:Nat} (hb:b < 256):Ga (escN b) (Re.set (addR noSet (b:Int) (b:Int))).val:=by
 refine Ga.leaf ⟨92,_,rfl,by decide⟩ fun t A h60 ha=>?_
 obtain ⟨s1,s2,s3,s4⟩:=esc_sb hb ha
 have hB:A+3≤t.size:=ha.1
 refine ⟨step_escape s1 s3,by rw [s3];decide,by rw [s3];decide,?_,fun m d bk hm hd=>⟨1,s4 _ _ _ (by rw [goes_out hm];rfl)⟩⟩
 show leafS (t.extract A (A+3))=_
 have hs:=size_ext (t:=t) (a:=A) hB
 have b0:byteAt (t.extract A (A+3)) 0=92:=by rw [byteAt_ext hB (by omega),Nat.add_zero];exact s3
 have hv:=s1.val (Nat.le_refl _) (Nat.le_refl _) hB
 rw [Nat.sub_self,s2] at hv
 unfold leafS
 rw [if_pos (by omega),b0,if_neg (by decide),if_neg (by decide),hv]
 rfl
theorem Ga.mark {c:Nat} (hc:mayBeEscapedB (c:Int)=true):Ga [92,c] (Re.set (addR noSet (c:Int) (c:Int))).val:=by
 refine Ga.leaf ⟨92,_,rfl,by decide⟩ fun t A h60 ha=>?_
 obtain ⟨b0,l0,a1⟩:=ha.head
 obtain ⟨b1,l1,_⟩:=a1.head
 have s3:byteAt t A=92:=b0
 have hB:A+2≤t.size:=ha.1
 have s1:SB t A (A+2):=Or.inl ⟨s3,l1,by rw [b1];exact hc,rfl⟩
 have s2:sbV t A=(c:Int):=by unfold sbV;rw [if_pos s3,b1,if_pos hc]
 refine ⟨step_escape s1 s3,by rw [s3];decide,by rw [s3];decide,?_,fun m d bk hm hd=>⟨1,?_⟩⟩
 ·show leafS (t.extract A (A+2))=_
  have hs:=size_ext (t:=t) (a:=A) hB
  have b0:byteAt (t.extract A (A+2)) 0=92:=by rw [byteAt_ext hB (by omega),Nat.add_zero];exact s3
  have hv:=s1.val (Nat.le_refl _) (Nat.le_refl _) hB
  rw [Nat.sub_self,s2] at hv
  unfold leafS
  rw [if_pos (by omega),b0,if_neg (by decide),if_neg (by decide),hv]
  rfl
 ·have g0:Go' t A ⟨m,d,bk⟩ (A+1) ⟨2,d,1⟩:=Go'.step (by rw [s3,goes_out hm];rfl)
  have g1:Go' t (A+1) ⟨2,d,1⟩ (A+1+1) ⟨1,d,1⟩:=Go'.step (by rw [b1,goes2 rfl,hc];rfl)
  exact g0.trans g1
theorem Ga.plain {c:Nat} (hc:isPlainB (c:Int)=true):Ga [c] (Re.set (addR noSet (c:Int) (c:Int))).val:=by
 have hc':=hc
 simp only [isPlainB,isMarkB,Bool.and_eq_true,Bool.not_eq_true',Bool.or_eq_false_iff,beq_eq_false_iff_ne,decide_eq_true_eq] at hc'
 refine Ga.leaf ⟨c,[],rfl,by unfold atSuffixB;simp;omega⟩ fun t A h60 ha=>?_
 obtain ⟨b0,l0,_⟩:=ha.head
 have hB:A+1≤t.size:=ha.1
 have s1:SB t A (A+1):=Or.inr (Or.inr ⟨by rw [b0];omega,by rw [b0];omega,l0,rfl⟩)
 have s2:sbV t A=(c:Int):=by unfold sbV;rw [if_neg (by rw [b0];omega),b0]
 refine ⟨step_one l0 (by rw [b0];omega) (by rw [b0];omega) (by rw [b0];omega),by rw [b0];omega,by rw [b0];simp only [noBar,Bool.and_eq_true,Bool.not_eq_true',beq_eq_false_iff_ne];omega,?_,fun m d bk hm hd=>⟨bk,Go'.step (by rw [b0];exact out_plain hm (Or.inl hc))⟩⟩
 show leafS (t.extract A (A+1))=_
 have hs:=size_ext (t:=t) (a:=A) hB
 have b0':byteAt (t.extract A (A+1)) 0=(c:Int):=by rw [byteAt_ext hB (by omega),Nat.add_zero];exact b0
 have hv:=s1.val (Nat.le_refl _) (Nat.le_refl _) hB
 rw [Nat.sub_self,s2] at hv
 unfold leafS
 rw [if_pos (by omega),b0',if_neg (by simp;omega),if_neg (by simp;omega),hv]
 rfl
theorem Ga.dot:Ga [46] (Re.set fun _=>true).val:=by
 refine Ga.leaf ⟨46,[],rfl,by decide⟩ fun t A h60 ha=>?_
 obtain ⟨b0,l0,_⟩:=ha.head
 have b0:byteAt t A=46:=b0
 have hB:A+1≤t.size:=ha.1
 refine ⟨step_one l0 (by rw [b0];decide) (by rw [b0];decide) (by rw [b0];decide),by rw [b0];decide,by rw [b0];decide,?_,fun m d bk hm hd=>⟨bk,Go'.step (by rw [b0];exact out_plain hm (Or.inr rfl))⟩⟩
 show leafS (t.extract A (A+1))=_
 have hs:=size_ext (t:=t) (a:=A) hB
 have b0':byteAt (t.extract A (A+1)) 0=46:=by rw [byteAt_ext hB (by omega),Nat.add_zero];exact b0
 unfold leafS
 rw [if_pos (by omega),b0',if_pos (by decide)]
theorem goes_91 {m d bk:Int} (h:m=0∨m=1):goesS ⟨m,d,bk⟩ 91=(true,⟨8,d,bk⟩):=by rw [goes_out h];rfl
theorem goes_93 {m d bk:Int} (h:m=10∨m=12):goesS ⟨m,d,bk⟩ 93=(true,⟨1,d,bk⟩):=by
 rcases h with rfl | rfl<;>rfl
theorem Ga.set {x:List Nat} {G:(Nat→Bool)→Nat→Bool} (h:Gm x G):Ga (91 ::(x++[93])) (Re.set (G noSet)).val:=by
 refine Ga.leaf ⟨91,_,rfl,by decide⟩ fun t A h60 ha=>?_
 obtain ⟨b0,l0,a1⟩:=ha.head
 have b0:byteAt t A=91:=b0
 obtain ⟨i1,i2,i3⟩:=h.2 t _ a1
 obtain ⟨ax,ac⟩:=a1.app
 obtain ⟨b1,l1,_⟩:=ac.head
 obtain ⟨c,z,rfl,h94,_⟩:=h.1
 have c1:byteAt t (A+1)=(c:Int):=ax.head.1
 have e:A+(91 ::(c ::z++[93])).length=A+1+(c ::z).length+1:=by simp;omega
 rw [e]
 refine ⟨step_set b0 i1,by rw [b0];decide,by rw [b0];decide,?_,fun m d bk hm hd=>?_⟩
 ·have hB:A+1+(c ::z).length+1≤t.size:=l1
  have hs:=size_ext (t:=t) (a:=A) hB
  have b0':byteAt (t.extract A (A+1+(c ::z).length+1)) 0=91:=by rw [byteAt_ext hB (by omega),Nat.add_zero];exact b0
  have b1':byteAt (t.extract A (A+1+(c ::z).length+1)) 1=(c:Int):=by rw [byteAt_ext hB (by simp;omega)];exact c1
  have hi:=i2.2.2 A (A+1+(c ::z).length+1) (by omega) (by omega) hB 61 (by omega) noSet
  rw [show A+1 - A=1 from by omega] at hi
  unfold leafS
  rw [if_pos (by omega),b0',if_neg (by decide),if_pos (by decide),if_pos (by omega),b1',if_neg (by simp;omega),hi]
  rfl
 ·have g0:Go' t A ⟨m,d,bk⟩ (A+1) ⟨8,d,bk⟩:=Go'.step (by rw [b0];exact goes_91 hm)
  obtain ⟨md',bk',hm',g1⟩:=i3 8 d bk (Or.inl rfl)
  exact ⟨bk',(g0.trans g1).trans (Go'.step (by rw [b1];exact goes_93 hm'))⟩
theorem Ga.not {x:List Nat} {G:(Nat→Bool)→Nat→Bool} (h:Gm x G):Ga (91 ::94 ::(x++[93])) (Re.set fun j=>!G noSet j).val:=by
 refine Ga.leaf ⟨91,_,rfl,by decide⟩ fun t A h60 ha=>?_
 obtain ⟨b0,l0,a1⟩:=ha.head
 have b0:byteAt t A=91:=b0
 obtain ⟨c1,l2,a2⟩:=a1.head
 have c1:byteAt t (A+1)=94:=c1
 obtain ⟨i1,i2,i3⟩:=h.2 t _ a2
 obtain ⟨ax,ac⟩:=a2.app
 obtain ⟨b1,l1,_⟩:=ac.head
 have e:A+(91 ::94 ::(x++[93])).length=A+1+1+x.length+1:=by simp;omega
 rw [e]
 refine ⟨step_not b0 c1 i1,by rw [b0];decide,by rw [b0];decide,?_,fun m d bk hm hd=>?_⟩
 ·have hB:A+1+1+x.length+1≤t.size:=l1
  have hs:=size_ext (t:=t) (a:=A) hB
  have b0':byteAt (t.extract A (A+1+1+x.length+1)) 0=91:=by rw [byteAt_ext hB (by omega),Nat.add_zero];exact b0
  have b1':byteAt (t.extract A (A+1+1+x.length+1)) 1=94:=by rw [byteAt_ext hB (by omega)];exact c1
  have hi:=i2.2.2 A (A+1+1+x.length+1) (by omega) (by omega) hB 61 (by omega) noSet
  rw [show A+1+1 - A=2 from by omega] at hi
  unfold leafS
  rw [if_pos (by omega),b0',if_neg (by decide),if_pos (by decide),if_pos (by omega),b1',if_pos (by decide),hi]
  rfl
 ·have g0:Go' t A ⟨m,d,bk⟩ (A+1) ⟨8,d,bk⟩:=Go'.step (by rw [b0];exact goes_91 hm)
  have g0':Go' t (A+1) ⟨8,d,bk⟩ (A+1+1) ⟨9,d,bk⟩:=Go'.step (by rw [c1];rfl)
  obtain ⟨md',bk',hm',g1⟩:=i3 9 d bk (Or.inr (Or.inl rfl))
  exact ⟨bk',((g0.trans g0').trans g1).trans (Go'.step (by rw [b1];exact goes_93 hm'))⟩
end Go.Proofs.YtjooemengpeaaaaGreat
namespace Go.Proofs.YtjooemengpeaaaaGreat
open Go.RowKit
attribute [local go_sem ↓] Go.wp_at_zero Go.wp_at_succ
theorem bytesN_app (a b:ByteArray):bytesN (a++b)=bytesN a++bytesN b:=by simp [bytesN]
theorem atW_all (p:ByteArray):AtW p 0 (bytesN p):=by
 refine ⟨by rw [bytesN_len];omega,fun i c hi=>?_⟩
 have hl:=(List.getElem?_eq_some_iff.1 hi).1
 have hl':i < p.size:=by rw [bytesN_len] at hl;exact hl
 rw [Nat.zero_add,byteAt_eq hl',←bytesN_at p i hl' hl]
 rw [List.getElem?_eq_getElem hl] at hi
 rw [Option.some.inj hi]
def digitsB:ByteArray:={ data:=#[48,49,50,51,52,53,54,55,56,57,97,98,99,100,101,102] }
theorem digits_at:∀ k,k < 16→bytesN (digitsB.extract k (k+1))=[hexd k]:=by decide
theorem below_drewN {B:Nat} {a w:World} (h:Below B a w) (n:Nat):Below B a (w.drewN n):=⟨h.os,h.tape,h.output,h.size,h.block⟩
end Go.Proofs.YtjooemengpeaaaaGreat
