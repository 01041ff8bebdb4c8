/-
  The document's answer: Compile.
  What is compiled is an image.
-/
import Derived.Test.YtjooemengpeaaaaGreatT22
import Derived.Test.YtjooemengpeaaaaGreatQd
namespace Go.Proofs.YtjooemengpeaaaaGreat
namespace Mc
open Go.RowKit
attribute [local go_sem ↓] Go.wp_at_zero Go.wp_at_succ
def TabsOk:Prop:=∀ (p t:ByteArray) (er:Int),PatA p t er→∀ w:World,Calls Tryz.prog 28 #[.string p] w fun e w'=>e=.returned (.tuple #[.string t,.int .i64 er])∧Below w.heap.size w w'
set_option maxRecDepth 20000 in
set_option maxHeartbeats 4000000 in
theorem RCompile_main (hTO:TabsOk) (w:World) (p:ByteArray) (N:Nat) (hp:p.size≤284) (hn:N≤16) (hl:1≤(cutL p).length∧(cutL p).length≤4) (i0:Nat) (hi0:i0≤(cutL p).length) (t:Nat→ByteArray) (ht:∀ j,j < i0→PatA ((cutL p).getD j ByteArray.empty) (t j) 0∧(t j).size≤1000) (s:ByteArray) (er at_:Int)
  (hbad:i0 < (cutL p).length→er≠0∧PatA ((cutL p).getD i0 ByteArray.empty) ⟨#[]⟩ er∧s=⟨#[]⟩∧at_=(i0:Int))
  (hfin:i0=(cutL p).length→((fcheck (cutL p).length (cutR p)).1=6∧s=⟨#[]⟩∧er=6∧at_=((fcheck (cutL p).length (cutR p)).2:Int))∨((fcheck (cutL p).length (cutR p)).1=0∧s=imB N (cutR p) (cutL p).length t∧er=0∧at_=0)) :
  Calls Tryz.prog 15 #[.string p,.int .i64 (N:Int)] w fun e w'=>e=.returned (.tuple #[.string s,.int .i64 er,.int .i64 at_])∧Below w.heap.size w w':=by
 have hpI:(p.size:Int)≤284:=by omega
 have hn1:(0:Int)≤(N:Int):=by omega
 have hn2:(N:Int)≤16:=by omega
 have HCU:=hide (cut_any w p hp)
 have HFZ:Hid ((cutR p).size≤284):=Nat.le_trans (cutR_sz p) hp
 have HTO:=hide hTO
 have HN:=hide hn
 clear hp hn hTO
 generalize cutL p=L at *
 generalize cutR p=f at *
 have hl1:(1:Int)≤(L.length:Int):=by omega
 have hl4:(L.length:Int)≤4:=by omega
 have HL:=hide hl
 have HI0:=hide hi0
 have HT:=hide ht
 have HBAD:=hide hbad
 have HFIN:=hide hfin
 clear hl hi0 ht hbad hfin
 go_enter Tryz.func15,Tryz.ntmps15
 go_wp2_with fail
 refine (unhide HCU).mono ?_
 rintro e w1 ⟨va,vc,rfl,hC⟩
 have HB1:=hide hC.below
 have HR1:=hide hC.row
 clear hC HCU
 go_wp2_with fail
 go_loopw [9,10] (fun sx ix wr=>∃ i:Nat,sx=.string (joinT t i)∧ix=.int .i64 (i:Int)∧Hid (i≤i0∧Below w1.heap.size w1 wr)) (fun _ ix _=>L.length - (intOf ix).toNat)
 case atStart=>exact ⟨0,rfl,rfl,Nat.zero_le _,Below.refl _ _⟩
 case round =>
  rename World=>wr
  obtain ⟨i,rfl,rfl,HH⟩:=hrel
  obtain ⟨hi,hb⟩:=unhide HH
  clear HH
  have hjz:=joinT_size t i (fun j hj=>(unhide HT j (by omega)).2)
  have hi4:i≤4:=by have:=unhide HI0;have:=unhide HL;omega
  by_cases hlt:i < L.length
  ·have hiI:(i:Int) < (L.length:Int):=by omega
   have hi0':(0:Int)≤(i:Int):=by omega
   have hi1:((i:Int)).toNat=i:=by omega
   obtain ⟨gl,rfl,hgl,k0⟩:=((unhide HR1).below hb).at hlt
   by_cases hii:i < i0
   ·have hpt:=unhide HT i hii
    have HTB:=hide (unhide HTO _ _ _ hpt.1 wr)
    have hz:¬9223372036854775807 < (joinT t i).size+(t i).size:=by have:=hpt.2;omega
    have HNX:Hid (joinT t i++t i=joinT t (i+1)):=rfl
    have HB:=hide hb
    have HII:=hide hii
    have HLT:=hide hlt
    generalize joinT t i=jt at *
    generalize t i=ti at *
    generalize L.getD i ByteArray.empty=q at *
    clear hi hb hjz hlt hii hpt hi4
    go_wp2_with fail
    refine (unhide HTB).mono ?_
    rintro e w3 ⟨rfl,hb3⟩
    have HB3:=hide (below_tr (unhide HB) hb3)
    clear hb3 HTB k0
    go_wp2_with fail
    go_roundw
    case rel=>exact ⟨i+1,congrArg Value.string (unhide HNX),by go_num,unhide HII,unhide HB3⟩
    case measure=>have:=unhide HLT;simp [intOf];omega
   ·have hie:i=i0:=by omega
    subst hie
    obtain ⟨her,hpa,rfl,rfl⟩:=unhide HBAD hlt
    have her':¬er=0:=her
    have HTB:=hide (unhide HTO _ _ _ hpa wr)
    have HB:=hide hb
    generalize joinT t i=jt at *
    generalize L.getD i ByteArray.empty=q at *
    clear hi hb hjz hlt hii hi4 her hpa
    go_wp2_with fail
    refine (unhide HTB).mono ?_
    rintro e w3 ⟨rfl,hb3⟩
    have HB3:=hide (below_tr (unhide HB1) (below_tr (unhide HB) hb3))
    clear hb3 HTB k0
    go_wp2_with fail
    refine bodyPost_ret (v:=.tuple #[.string ⟨#[]⟩,.int .i64 er,.int .i64 (i:Int)]) (by simp [results,Tryz.results15,go_sem]) rfl ?_
    exact ⟨rfl,unhide HB3⟩
  ·have hie:i=L.length:=by have:=unhide HI0;omega
   subst hie
   have hi0e:i0=L.length:=by have:=unhide HI0;omega
   have hff:=unhide HFIN hi0e
   have HBW:=hide (below_tr (unhide HB1) hb)
   clear hi hlt hi0e
   unfold fcheck at hff
   by_cases h40:40 < f.size
   ·have hfI:(40:Int) < (f.size:Int):=by omega
    rw [if_pos h40] at hff
    obtain ⟨-,rfl,rfl,rfl⟩:(6:Nat)=6∧s=⟨#[]⟩∧er=6∧at_=((40:Nat):Int):=by
     rcases hff with h | h
     ·exact h
     ·exact absurd h.1 (by decide)
    clear hff hjz h40 hb hi4
    generalize joinT t L.length=jt at *
    go_wp2_with fail
    refine bodyPost_ret (v:=.tuple #[.string ⟨#[]⟩,.int .i64 6,.int .i64 40]) (by simp [results,Tryz.results15,go_sem]) rfl ?_
    exact ⟨rfl,unhide HBW⟩
   ·have hfI:(f.size:Int)≤40:=by omega
    rw [if_neg h40] at hff
    have HFP:=hide (formPlace_any wr f L.length (by have:=unhide HL;omega) (by omega))
    have HF40:Hid (f.size≤40):=by show _≤_;omega
    cases hfs:fscan L.length f f.size 0 0 0 with
    | some k =>
     rw [hfs] at hff
     obtain ⟨-,rfl,rfl,rfl⟩:(6:Nat)=6∧s=⟨#[]⟩∧er=6∧at_=((k:Nat):Int):=by
      rcases hff with h | h
      ·exact h
      ·exact absurd h.1 (by simp [fans])
     rw [hfs] at HFP
     have hk0:(0:Int)≤(k:Int):=by omega
     have hfp:fpl (some k)=(k:Int):=rfl
     rw [hfp] at HFP
     clear hff hjz h40 hb hi4 hfs hfp
     generalize joinT t L.length=jt at *
     go_wp2_with fail
     refine (unhide HFP).mono ?_
     rintro e w3 ⟨rfl,rfl⟩
     go_wp2_with fail
     refine bodyPost_ret (v:=.tuple #[.string ⟨#[]⟩,.int .i64 6,.int .i64 (k:Int)]) (by simp [results,Tryz.results15,go_sem]) rfl ?_
     exact ⟨rfl,unhide HBW⟩
    | none =>
     rw [hfs] at hff
     obtain ⟨-,rfl,rfl,rfl⟩:(0:Nat)=0∧s=imB N f L.length t∧er=0∧at_=0:=by
      rcases hff with h | h
      ·exact absurd h.1 (by simp [fans])
      ·exact h
     rw [hfs] at HFP
     have hfp:fpl none=-1:=rfl
     rw [hfp] at HFP
     have hw1:=wrapB N (by have:=unhide HN;omega)
     have hw2:=wrapB L.length (by have:=unhide HL;omega)
     have hw3:=wrapB f.size (by omega)
     have hrow:URow (wr.alloc (.cells #[.int .u8 (N:Int),.int .u8 (L.length:Int),.int .u8 (f.size:Int)] 5)) 0 (.slice (some ⟨wr.heap.size,0,none⟩) [N,L.length,f.size].length 3) [N,L.length,f.size]:=⟨rfl,.inr ⟨_,3,_,rfl,Nat.zero_le _,heap_alloc_new _ _,Nat.le_refl _,by unfold maxLen;omega,rfl,rfl⟩⟩
     have hcv:=conv_row hrow (fun x hx=>by have:=unhide HN;have:=unhide HL;simp at hx;omega)
     simp only [List.length_cons,List.length_nil] at hcv
     have hz0:(strN [N,L.length,f.size]).size=3:=strN_size' _
     have HIM:Hid (⟨#[86,80]⟩++strN [N,L.length,f.size]++f++joinT t L.length=imB N f L.length t):=rfl
     have HB3:=hide ((unhide HBW).alloc (unhide HBW).size (.cells #[.int .u8 (N:Int),.int .u8 (L.length:Int),.int .u8 (f.size:Int)] 5))
     clear hff h40 hb hfs hfp hrow
     generalize joinT t L.length=jt at *
     generalize strN [N,L.length,f.size]=s3 at *
     have hz1:¬9223372036854775807 < 2+s3.size:=by omega
     have hz2:¬9223372036854775807 < 2+s3.size+f.size:=by have:=unhide HF40;omega
     have hz3:¬9223372036854775807 < 2+s3.size+f.size+jt.size:=by have:=unhide HF40;omega
     clear hjz hi4
     go_wp2_with fail
     refine (unhide HFP).mono ?_
     rintro e w3 ⟨rfl,rfl⟩
     go_wp2_with fail
     refine bodyPost_ret (v:=.tuple #[.string (imB N f L.length t),.int .i64 0,.int .i64 0]) (by rw [←unhide HIM];simp [results,Tryz.results15,go_sem]) rfl ?_
     exact ⟨rfl,unhide HB3⟩
set_option maxRecDepth 20000 in
set_option maxHeartbeats 2000000 in
theorem RCompile_of (hTO:TabsOk) (w:World) {p:ByteArray} {n:Int} {s:ByteArray} {er at_:Int} (hx:p.size≤9223372036854775807) (h:CpA p n s er at_) :
  Calls Tryz.prog 15 #[.string p,.int .i64 n] w fun e w'=>e=.returned (.tuple #[.string s,.int .i64 er,.int .i64 at_])∧Below w.heap.size w w':=by
 rcases h with ⟨hE,rfl⟩ | ⟨N,ts,hO,rfl,rfl,rfl⟩
 ·cases hE with
  | long h =>
   have hI:(284:Int) < (p.size:Int):=by omega
   have hxI:(p.size:Int)≤9223372036854775807:=by omega
   clear h hx
   go_enter Tryz.func15,Tryz.ntmps15
   go_wp2_with fail
   exact bodyPost_ret (v:=.tuple #[.string ⟨#[]⟩,.int .i64 1,.int .i64 0]) (by simp [results,Tryz.results15,go_sem]) rfl ⟨rfl,Below.refl _ _⟩
  | arg h hn =>
   have hI:(p.size:Int)≤284:=by omega
   have hsc:n < 0∨(0≤n∧16 < n):=by omega
   clear h hx hn
   rcases hsc with i1 | ⟨i1,i2⟩
   all_goals
    go_enter Tryz.func15,Tryz.ntmps15
    go_wp2_with fail
    exact bodyPost_ret (v:=.tuple #[.string ⟨#[]⟩,.int .i64 4,.int .i64 0]) (by simp [results,Tryz.results15,go_sem]) rfl ⟨rfl,Below.refl _ _⟩
  | rules h hn hl =>
   have hI:(p.size:Int)≤284:=by omega
   have HCU:=hide (cut_any w p h)
   have hls:((cutL p).length:Int) < 1∨((1:Int)≤((cutL p).length:Int)∧(4:Int) < ((cutL p).length:Int)):=by omega
   obtain ⟨n1,n2⟩:=hn
   clear h hx hl
   generalize cutL p=L at *
   generalize cutR p=f at *
   rcases hls with hl1 | ⟨hl1,hl4⟩
   all_goals
    go_enter Tryz.func15,Tryz.ntmps15
    go_wp2_with fail
    refine (unhide HCU).mono ?_
    rintro e w1 ⟨va,vc,rfl,hC⟩
    have HB1:=hide hC.below
    clear hC HCU
    go_wp2_with fail
    exact bodyPost_ret (v:=.tuple #[.string ⟨#[]⟩,.int .i64 5,.int .i64 0]) (by simp [results,Tryz.results15,go_sem]) rfl ⟨rfl,unhide HB1⟩
  | rule h hn hl i er hi hb he hp =>
   obtain ⟨N,rfl⟩:=Int.eq_ofNat_of_zero_le hn.1
   have hc:∃ t:Nat→ByteArray,∀ j,j < i→PatA ((cutL p).getD j ByteArray.empty) (t j) 0∧(t j).size≤1000:=⟨fun j=>if hj:j < i then Classical.choose (hb j hj) else ⟨#[]⟩,fun j hj=>by simp only [dif_pos hj];exact Classical.choose_spec (hb j hj)⟩
   obtain ⟨t,ht⟩:=hc
   exact RCompile_main hTO w p N h (by omega) hl i (by omega) t ht _ _ _ (fun _=>⟨he,hp,rfl,rfl⟩) (fun e=>by omega)
  | form h hn hl hb hf =>
   obtain ⟨N,rfl⟩:=Int.eq_ofNat_of_zero_le hn.1
   have hc:∃ t:Nat→ByteArray,∀ j,j < (cutL p).length→PatA ((cutL p).getD j ByteArray.empty) (t j) 0∧(t j).size≤1000:=⟨fun j=>if hj:j < (cutL p).length then Classical.choose (hb j hj) else ⟨#[]⟩,fun j hj=>by simp only [dif_pos hj];exact Classical.choose_spec (hb j hj)⟩
   obtain ⟨t,ht⟩:=hc
   exact RCompile_main hTO w p N h (by omega) hl _ (Nat.le_refl _) t ht _ _ _ (fun e=>by omega) (fun _=>.inl ⟨hf,rfl,rfl,rfl⟩)
 ·obtain rfl:=hO.n_
  exact RCompile_main hTO w p N hO.sz hO.n16 ⟨hO.l1,hO.l4⟩ _ (Nat.le_refl _) (fun j=>tbS (ts j)) (fun j hj=>⟨hO.pat j hj,tbS_le (hO.ok j hj)⟩) _ _ _ (fun e=>by omega) (fun _=>.inr ⟨hO.form,rfl,rfl,rfl⟩)
end Mc
end Go.Proofs.YtjooemengpeaaaaGreat
namespace Go.Proofs.YtjooemengpeaaaaGreat
namespace Mc
open Go.RowKit
theorem bt_appB (a b:ByteArray) (k:Nat):bt (a++b) k=if k < a.size then bt a k else bt b (k - a.size):=by
 have hs:(a++b).size=a.size+b.size:=ByteArray.size_append
 unfold bt
 by_cases h:k < a.size
 ·rw [if_pos h,dif_pos (by omega),dif_pos h,ByteArray.getElem_append_left h]
 ·rw [if_neg h]
  by_cases h2:k - a.size < b.size
  ·rw [dif_pos (by omega),dif_pos h2,ByteArray.getElem_append_right (by omega)]
  ·rw [dif_neg (by omega),dif_neg h2]
theorem bt_strN {xs:List Nat} (h:∀ x∈xs,x < 256) (k:Nat):bt (strN xs) k=xs.getD k 0:=by
 unfold bt
 by_cases hk:k < (strN xs).size
 ·rw [dif_pos hk]
  have hk2:k < xs.length:=by rwa [strN_size'] at hk
  have e:(strN xs)[k]'hk=(xs.map UInt8.ofNat)[k]'(by rw [List.length_map];exact hk2):=rfl
  rw [e,List.getElem_map,u8_ofNat (h _ (List.getElem_mem _)),List.getD_eq_getElem?_getD,List.getElem?_eq_getElem hk2];rfl
 ·rw [dif_neg hk,List.getD_eq_getElem?_getD,List.getElem?_eq_none (by rw [strN_size'] at hk;omega)];rfl
theorem gD_l {l r:List Nat} {k:Nat} (h:k < l.length):(l++r).getD k 0=l.getD k 0:=by
 rw [List.getD_eq_getElem?_getD,List.getD_eq_getElem?_getD,List.getElem?_append_left h]
theorem gD_r {l r:List Nat} {k:Nat} (h:l.length≤k):(l++r).getD k 0=r.getD (k - l.length) 0:=by
 rw [List.getD_eq_getElem?_getD,List.getD_eq_getElem?_getD,List.getElem?_append_right h]
theorem gD_map {f:Nat→Nat} {n k:Nat} (h:k < n):((List.range n).map f).getD k 0=f k:=by
 rw [List.getD_eq_getElem?_getD,List.getElem?_map,List.getElem?_range h];rfl
section
variable {t : TabN}
theorem lay_lt (h:t.Ok):∀ x∈layTab t.S t.C t.cl t.gr t.nx,x < 256:=fun x hx=>by
 have h1:=h.s2
 have h2:=h.c2
 unfold layTab at hx
 rcases List.mem_append.1 hx with hx | hx
 ·rcases List.mem_append.1 hx with hx | hx
  ·rcases List.mem_append.1 hx with hx | hx
   ·simp at hx;omega
   ·obtain ⟨b,hb,rfl⟩:=List.mem_map.1 hx
    have:=h.cl b (List.mem_range.1 hb)
    omega
  ·obtain ⟨b,hb,rfl⟩:=List.mem_map.1 hx
   split<;>omega
 ·obtain ⟨i,hi,hx⟩:=List.mem_flatMap.1 hx
  obtain ⟨c,hc,rfl⟩:=List.mem_map.1 hx
  have:=h.nx i c (List.mem_range.1 hi) (List.mem_range.1 hc)
  omega
theorem tbS_0 (h:t.Ok):bt (tbS t) 0=t.S:=by
 unfold tbS;rw [bt_strN (lay_lt h)];rfl
theorem tbS_1 (h:t.Ok):bt (tbS t) 1=t.C:=by
 unfold tbS;rw [bt_strN (lay_lt h)];rfl
theorem tbS_cl (h:t.Ok) {b:Nat} (hb:b < 256):bt (tbS t) (2+b)=t.cl b:=by
 unfold tbS
 rw [bt_strN (lay_lt h)]
 unfold layTab
 rw [gD_l (by simp;omega),gD_l (by simp;omega),gD_r (by simp),show 2+b - [t.S,t.C].length=b by simp,gD_map hb]
theorem tbS_gr (h:t.Ok) {q:Nat} (hq:q < t.S):bt (tbS t) (258+q)=if t.gr q then 1 else 0:=by
 unfold tbS
 rw [bt_strN (lay_lt h)]
 unfold layTab
 rw [gD_l (by simp;omega),gD_r (by simp),show 258+q - ([t.S,t.C]++(List.range 256).map t.cl).length=q by simp,gD_map hq]
theorem tbS_nx (h:t.Ok) {q c:Nat} (hq:q < t.S) (hc:c < t.C):bt (tbS t) (258+t.S+(q * t.C+c))=t.nx q c:=by
 unfold tbS
 rw [bt_strN (lay_lt h)]
 unfold layTab
 have hlen:([t.S,t.C]++(List.range 256).map t.cl++(List.range t.S).map (fun i=>if t.gr i then (1:Nat) else 0)).length=258+t.S:=by simp;omega
 rw [gD_r (by rw [hlen];omega),hlen,Nat.add_sub_cancel_left]
 exact flat_getD _ _ _ _ _ hq hc
end
def Stand (x:ByteArray) (p:Nat) (y:ByteArray):Prop:=∀ k,k < y.size→bt x (p+k)=bt y k
structure SameT (a t:TabN):Prop where
 S:a.S=t.S
 C:a.C=t.C
 cl:∀ b,b < 256→a.cl b=t.cl b
 gr:∀ q,q < t.S→a.gr q=t.gr q
 nx:∀ q c,q < t.S→c < t.C→a.nx q c=t.nx q c
theorem stand_tab {x:ByteArray} {p:Nat} {t:TabN} (h:t.Ok) (hs:Stand x p (tbS t)) (hl:p+(tbS t).size≤x.size):TOk x p∧tsz x p=(tbS t).size∧SameT (tabAt x p) t:=by
 have hz:=tbS_size t
 have e0:bt x p=t.S:=by have:=hs 0 (by omega);rw [Nat.add_zero] at this;rw [this,tbS_0 h]
 have e1:bt x (p+1)=t.C:=by rw [hs 1 (by omega),tbS_1 h]
 have ec:∀ b,b < 256→bt x (p+2+b)=t.cl b:=fun b hb=>by rw [Nat.add_assoc,hs _ (by omega),tbS_cl h hb]
 have eg:∀ q,q < t.S→bt x (p+258+q)=if t.gr q then 1 else 0:=fun q hq=>by rw [Nat.add_assoc,hs _ (by omega),tbS_gr h hq]
 have en:∀ q c,q < t.S→c < t.C→bt x (p+258+t.S+(q * t.C+c))=t.nx q c:=fun q c hq hc=>by
  have h1:(q+1) * t.C≤t.S * t.C:=Nat.mul_le_mul_right _ hq
  rw [Nat.add_mul,Nat.one_mul] at h1
  rw [show p+258+t.S+(q * t.C+c)=p+(258+t.S+(q * t.C+c)) by omega,hs _ (by omega),tbS_nx h hq hc]
 have ez:tsz x p=(tbS t).size:=by unfold tsz;rw [e0,e1,hz]
 refine ⟨⟨by rw [e0];exact h.s1,by rw [e0];exact h.s2,by rw [e1];exact h.c1,by rw [e1];exact h.c2,by rw [ez];exact hl,fun b hb=>by rw [ec b hb,e1];exact h.cl b hb,fun q hq=>?_,fun k hk=>?_⟩,ez,⟨e0,e1,ec,fun q hq=>?_,fun q c hq hc=>?_⟩⟩
 ·rw [e0] at hq
  rw [eg q hq]
  split<;>omega
 ·rw [e0,e1] at hk
  rw [e0]
  have hC:0 < t.C:=h.c1
  have hq:k / t.C < t.S:=by rw [Nat.div_lt_iff_lt_mul hC];exact hk
  have hc:k % t.C < t.C:=Nat.mod_lt _ hC
  have e:k / t.C * t.C+k % t.C=k:=by rw [Nat.mul_comm];exact Nat.div_add_mod _ _
  have:=en _ _ hq hc
  rw [e] at this
  rw [this]
  exact h.nx _ _ hq hc
 ·show decide (bt x (p+258+q)=1)=t.gr q
  rw [eg q hq]
  cases t.gr q<;>simp
 ·show bt x (p+258+bt x p+(q * bt x (p+1)+c))=t.nx q c
  rw [e0,e1];exact en q c hq hc
section
variable {N m : Nat} {f : ByteArray} {ts : Nat → TabN}
theorem imB_size (N:Nat) (f:ByteArray) (m:Nat) (ts:Nat→ByteArray):(imB N f m ts).size=5+f.size+(joinT ts m).size:=by
 unfold imB
 rw [ByteArray.size_append,ByteArray.size_append,strN_size'];rfl
theorem imB_head {k:Nat} (hk:k < 5) (hN:N≤16) (hm:m≤4) (hf:f.size≤40) (T:Nat→ByteArray):bt (imB N f m T) k=[86,80,N,m,f.size].getD k 0:=by
 have hz:(strN [86,80,N,m,f.size]).size=5:=strN_size' _
 unfold imB
 rw [bt_appB,if_pos (by rw [ByteArray.size_append,hz];omega),bt_appB,if_pos (by rw [hz];exact hk),bt_strN (fun x hx=>by simp at hx;omega)]
theorem joinT_stand (T:Nat→ByteArray):∀ (m i:Nat),i < m→Stand (joinT T m) (joinT T i).size (T i)
 | 0,i,hi=>by omega
 | m+1,i,hi=>fun k hk=>by
  show bt (joinT T m++T m) _=_
  by_cases h:i < m
  ·have ih:=joinT_stand T m i h k hk
   have hle:∀ m,i < m→(joinT T i).size+(T i).size≤(joinT T m).size:=fun m=>by
    induction m with
    | zero=>intro h;omega
    | succ m ihm =>
     intro h
     rw [joinT,ByteArray.size_append]
     by_cases h2:i < m
     ·have:=ihm h2;omega
     ·have:i=m:=by omega
      subst this;omega
   have:=hle m h
   rw [bt_appB,if_pos (by omega)]
   exact ih
  ·have:i=m:=by omega
   subst this
   rw [bt_appB,if_neg (by omega),Nat.add_sub_cancel_left]
theorem joinT_mono (T:Nat→ByteArray) {i:Nat}:∀ m,i < m→(joinT T i).size+(T i).size≤(joinT T m).size
 | 0,h=>by omega
 | m+1,h=>by
  rw [joinT,ByteArray.size_append]
  by_cases h2:i < m
  ·have:=joinT_mono T m h2;omega
  ·have:i=m:=by omega
   subst this;omega
theorem imB_ok (hN:N≤16) (h1:1≤m) (h4:m≤4) (hf:(fcheck m f).1=0) (hok:∀ j,j < m→(ts j).Ok) :
  ImOk (imB N f m (fun j=>tbS (ts j)))∧imF (imB N f m (fun j=>tbS (ts j)))=f∧bt (imB N f m (fun j=>tbS (ts j))) 2=N∧bt (imB N f m (fun j=>tbS (ts j))) 3=m∧∀ j,j < m→SameT (imT (imB N f m (fun j=>tbS (ts j))) j) (ts j):=by
 obtain ⟨hf40,hfs⟩:=fcheck_ok.1.1 hf
 have hf1:1≤f.size:=by
  cases hz:f.size with
  | zero=>rw [hz] at hfs;unfold fscan at hfs;rw [if_pos (Or.inr (by decide))] at hfs;cases hfs
  | succ k=>omega
 obtain ⟨T,hT⟩:∃ T:Nat→ByteArray,T=fun j=>tbS (ts j):=⟨_,rfl⟩
 have hTj:∀ j,T j=tbS (ts j):=fun j=>by rw [hT]
 rw [←hT]
 have hsz:=imB_size N f m T
 have b2:bt (imB N f m T) 2=N:=imB_head (by omega) hN h4 hf40 T
 have b3:bt (imB N f m T) 3=m:=imB_head (by omega) hN h4 hf40 T
 have b4:bt (imB N f m T) 4=f.size:=imB_head (by omega) hN h4 hf40 T
 have hz5:(strN [86,80,N,m,f.size]).size=5:=strN_size' _
 have himf:imF (imB N f m T)=f:=by
  unfold imF
  rw [b4]
  apply ByteArray.ext
  apply Array.ext
  ·show ((imB N f m T).extract 5 (5+f.size)).size=f.size
   rw [ByteArray.size_extract];omega
  ·intro k hk1 hk2
   have hk3:k < f.size:=hk2
   have e:=bt_ext (imB N f m T) 5 (5+f.size) k
   rw [if_pos (by omega)] at e
   have e2:bt (imB N f m T) (5+k)=bt f k:=by
    unfold imB
    rw [bt_appB,if_pos (by rw [ByteArray.size_append,hz5];omega),bt_appB,if_neg (by rw [hz5];omega),hz5,Nat.add_sub_cancel_left]
   rw [e2,←bt_at f k hk3,←bt_at _ k hk1] at e
   exact UInt8.toNat.inj e
 have hst:∀ i,i < m→Stand (imB N f m T) (5+f.size+(joinT T i).size) (T i):=fun i hi k hk=>by
  have h5:=joinT_stand T m i hi k hk
  unfold imB
  rw [bt_appB,if_neg (by rw [ByteArray.size_append,hz5];omega),ByteArray.size_append,hz5,show 5+f.size+(joinT T i).size+k - (5+f.size)=(joinT T i).size+k by omega]
  exact h5
 have hfit:∀ i,i < m→5+f.size+(joinT T i).size+(T i).size≤(imB N f m T).size:=fun i hi=>by have:=joinT_mono T m hi;omega
 have hpos:∀ i,i≤m→tpos (imB N f m T) (5+f.size) i=5+f.size+(joinT T i).size:=fun i=>by
  induction i with
  | zero=>intro _;rfl
  | succ i ih =>
   intro hi
   have e:=ih (by omega)
   have g:=(stand_tab (hok i (by omega)) (by rw [←hTj];exact hst i (by omega)) (by rw [←hTj];exact hfit i (by omega))).2.1
   rw [tpos,e,g,joinT,ByteArray.size_append,hTj];omega
 refine ⟨⟨by omega,imB_head (by omega) hN h4 hf40 T,imB_head (by omega) hN h4 hf40 T,by omega,by omega,by omega,by omega,by omega,by omega,by rw [himf,b3];exact hfs,?_⟩,himf,b2,b3,fun j hj=>?_⟩
 ·rw [b4,b3]
  refine ⟨fun i hi=>?_,?_⟩
  ·rw [hpos i (by omega)]
   exact (stand_tab (hok i hi) (by rw [←hTj];exact hst i hi) (by rw [←hTj];exact hfit i hi)).1
  ·rw [hpos m (Nat.le_refl _),hsz]
 ·unfold imT
  rw [b4,hpos j (by omega)]
  exact (stand_tab (hok j hj) (by rw [←hTj];exact hst j hj) (by rw [←hTj];exact hfit j hj)).2.2
end
end Mc
end Go.Proofs.YtjooemengpeaaaaGreat
