/-
  The document's answer: sets of terms: both, before, sameTerms.
  Sets of terms: what is joined, what stands before a part.
  The document's answer: what is left of a part behind a byte.
  The document's answer: what left answers at a node, whichever.
-/
import Derived.Test.YtjooemengpeaaaaGreatT31
import Derived.Deep.DrawnRows
import Derived.Deep.QuietTactic
import Derived.BigQuiet
import Derived.Laws.IdiomStrings
import Derived.Test.YtjooemengpeaaaaGreatT18
import Derived.Deep.DeepCutAuto
namespace Go.Proofs.YtjooemengpeaaaaGreat
open Go.RowKit
attribute [local go_sem ↓] Go.wp_at_zero Go.wp_at_succ
theorem low_len (s:ByteArray):∀ l,(lowS s l).length+(highS s l).length=l.length:=fun l=>by
 rw [←List.length_append,low_high]
theorem insS_len (l:List ByteArray) (s:ByteArray):(insS l s).length≤l.length+1:=by
 unfold insS
 have h1:=low_len s l
 have h2:((highS s l).filter (fun x=>decide (x≠s))).length≤(highS s l).length:=List.length_filter_le _ _
 simp only [List.length_append,List.length_cons,List.length_nil]
 omega
def bothS (X Y:List ByteArray):List ByteArray:=Y.foldl insS X
theorem bothS_srt {X:List ByteArray} (h:SrtS X):∀ Y,SrtS (bothS X Y):=fun Y=>by
 unfold bothS
 induction Y generalizing X with
 | nil=>exact h
 | cons s Y ih=>exact ih (insS_srt h s)
theorem bothS_mem (X Y:List ByteArray) (x:ByteArray):x∈bothS X Y↔x∈X∨x∈Y:=by
 unfold bothS
 induction Y generalizing X with
 | nil=>simp
 | cons s Y ih =>
  rw [List.foldl_cons,ih,insS_mem,List.mem_cons]
  constructor
  ·rintro ((h | h) | h)
   ·exact .inr (.inl h)
   ·exact .inl h
   ·exact .inr (.inr h)
  ·rintro (h | h | h)
   ·exact .inl (.inr h)
   ·exact .inl (.inl h)
   ·exact .inr h
theorem bothS_len (X Y:List ByteArray):(bothS X Y).length≤X.length+Y.length:=by
 unfold bothS
 induction Y generalizing X with
 | nil=>simp
 | cons s Y ih =>
  have h1:=ih (insS X s)
  have h2:=insS_len X s
  rw [List.foldl_cons,List.length_cons]
  omega
theorem foldl_take {f:List ByteArray→ByteArray→List ByteArray} {X Y:List ByteArray} {k:Nat} (hk:k < Y.length):(Y.take (k+1)).foldl f X=f ((Y.take k).foldl f X) (Y.getD k ByteArray.empty):=by
 have e:Y.take (k+1)=Y.take k++[Y.getD k ByteArray.empty]:=by
  rw [List.take_add_one,List.getD_eq_getElem?_getD,List.getElem?_eq_getElem hk];rfl
 rw [e,List.foldl_append];rfl
set_option maxHeartbeats 1000000 in
theorem both_any (w:World) (B B2:Nat) (v u:Value) (X Y:List ByteArray) (h:SRow w B v X) (hy:SRow w B2 u Y) (hl:X.length+Y.length≤9000) :
  Calls Tryz.prog 151 #[v,u] w fun e w'=>∃ v',e=.returned v'∧SRow w' 0 v' (bothS X Y)∧Below w.heap.size w w':=by
 obtain ⟨ya,yc,rfl⟩:=hy.form
 obtain ⟨xa,xc,rfl⟩:=h.form
 have HX:=hide h.zero
 have HY:=hide hy
 have HL:=hide hl
 have hlI:(Y.length:Int)≤9000:=by omega
 clear h hy hl
 go_enter Tryz.func151,Tryz.ntmps151
 go_wp2_with fail
 go_loopw [0,5] (fun av kx wr=>∃ (k:Nat) (aa:Option Addr) (an ac:Nat),av=.slice aa an ac∧kx=.int .i64 (k:Int)∧Hid (k≤Y.length∧Below w.heap.size w wr∧SRow wr 0 (.slice aa an ac) (bothS X (Y.take k)))) (fun _ kx _=>Y.length - (intOf kx).toNat)
 case atStart=>exact ⟨0,_,_,_,rfl,rfl,Nat.zero_le _,Below.refl _ _,unhide HX⟩
 case round =>
  rename World=>wr
  obtain ⟨k,aa,an,ac,rfl,rfl,HH⟩:=hrel
  obtain ⟨hk,hB,hR⟩:=unhide HH
  have HB:=hide hB
  have HR:=hide hR
  by_cases hlt:k < Y.length
  ·have hltI:(k:Int) < (Y.length:Int):=by omega
   have HLT:=hide hlt
   obtain ⟨g,cap,he,hx⟩:=((unhide HY).below hB).at hlt
   simp only [Value.slice.injEq,true_and] at he
   obtain ⟨rfl,rfl⟩:=he
   have HF:Hid (bothS X (Y.take (k+1))=insS (bothS X (Y.take k)) (Y.getD k ByteArray.empty)):=foldl_take hlt
   have hbl:(bothS X (Y.take k)).length≤10000:=by
    have h1:=bothS_len X (Y.take k)
    rw [List.length_take] at h1
    have:=unhide HL
    omega
   generalize Y.getD k ByteArray.empty=a at *
   have HC:=hide (with_any wr 0 _ _ a hR hbl)
   clear HH hk hB hR hlt hbl
   go_wp2_with fail
   refine (unhide HC).mono ?_
   rintro e w1 ⟨v',rfl,hv,hw1⟩
   obtain ⟨va,vc,rfl⟩:=hv.form
   have HB1:=hide ((unhide HB).trans (hw1.mono (unhide HB).size))
   have HV:=hide hv.zero
   clear hv hw1
   go_wp2_with fail
   go_roundw
   case rel=>exact ⟨k+1,va,_,vc,rfl,by go_num,unhide HLT,unhide HB1,by rw [unhide HF];exact unhide HV⟩
   case measure=>have:=unhide HLT;simp [intOf];omega
  ·have hk2:k=Y.length:=by omega
   subst hk2
   clear HH hk hB hR hlt
   go_wp2_with fail
   go_ret
   exact ⟨_,rfl,by have:=unhide HR;rw [List.take_length] at this;exact this,unhide HB⟩
def oneB (k:Nat):ByteArray:=⟨#[UInt8.ofNat k]⟩
theorem bytesN_appZ (a b:ByteArray):bytesN (a++b)=bytesN a++bytesN b:=by unfold bytesN;simp
theorem bytesN_oneB {k:Nat} (h:k < 256):bytesN (oneB k)=[k]:=by
 unfold bytesN oneB
 simp
 omega
theorem conv_cell (W:World) (g c:Nat) (hc:c < 256) (hW:W.cell? ⟨g,0,none⟩=some (.int .u8 (c:Int))) :
  (convert 71 9 (.slice (some ⟨g,0,none⟩) 1 1)).run Tryz.prog W=.ok (.string (oneB c)) W:=by
 have h:=run_convert_bytes_back (P:=Tryz.prog) W 71 9 5 ⟨g,0,none⟩ 1 [UInt8.ofNat c] Tryz.underlying71 Tryz.underlying5 Tryz.underlying9 (by
  intro j hj
  have:j=0:=by simp at hj;omega
  subst this
  have e:(UInt8.ofNat c).toNat=c:=by rw [UInt8.toNat_ofNat'];exact Nat.mod_eq_of_lt (by omega)
  show W.cell? ⟨g,0,none⟩=some (.int .u8 ((UInt8.ofNat c).toNat:Int))
  rw [e];exact hW)
 exact h
def befS (X:List ByteArray) (k:Nat):List ByteArray:=bothS [] (X.map (·++oneB k))
theorem befS_srt (X:List ByteArray) (k:Nat):SrtS (befS X k):=bothS_srt List.Pairwise.nil _
theorem befS_mem (X:List ByteArray) (k:Nat) (x:ByteArray):x∈befS X k↔∃ a∈X,x=a++oneB k:=by
 unfold befS
 rw [bothS_mem]
 simp only [List.not_mem_nil,false_or,List.mem_map]
 constructor
 ·rintro ⟨a,h1,h2⟩;exact ⟨a,h1,h2.symm⟩
 ·rintro ⟨a,h1,h2⟩;exact ⟨a,h1,h2.symm⟩
theorem befS_len (X:List ByteArray) (k:Nat):(befS X k).length≤X.length:=by
 have:=bothS_len [] (X.map (·++oneB k))
 simpa [befS] using this
theorem befS_take {X:List ByteArray} {k q:Nat} (hq:q < X.length):befS (X.take (q+1)) k=insS (befS (X.take q) k) (X.getD q ByteArray.empty++oneB k):=by
 have e:X.take (q+1)=X.take q++[X.getD q ByteArray.empty]:=by
  rw [List.take_add_one,List.getD_eq_getElem?_getD,List.getElem?_eq_getElem hq];rfl
 unfold befS bothS
 rw [e,List.map_append,List.foldl_append];rfl
set_option maxRecDepth 20000 in
set_option maxHeartbeats 2000000 in
theorem before_any (w:World) (B:Nat) (v:Value) (X:List ByteArray) (k:Nat) (h:SRow w B v X) (hl:X.length≤9000) (hk:k < 256) (hz:∀ s∈X,s.size≤100000) :
  Calls Tryz.prog 150 #[v,.int .i64 (k:Int)] w fun e w'=>∃ v',e=.returned v'∧SRow w' 0 v' (befS X k)∧Below w.heap.size w w':=by
 obtain ⟨xa,xc,rfl⟩:=h.form
 have HX:=hide h
 have HL:=hide hl
 have HK:=hide hk
 have HZ:=hide hz
 have hlI:(X.length:Int)≤9000:=by omega
 have hkI:(k:Int) < 256:=by omega
 have hw8:IntKind.u8.wrap (k:Int)=(k:Int):=by rw [IntKind.wrap_u8];omega
 clear h hl hk hz
 go_enter Tryz.func150,Tryz.ntmps150
 go_wp2_with fail
 go_loopw [5,6] (fun ov qx wr=>∃ (q:Nat) (oa:Option Addr) (on oc:Nat),ov=.slice oa on oc∧qx=.int .i64 (q:Int)∧Hid (q≤X.length∧Below w.heap.size w wr∧SRow wr 0 (.slice oa on oc) (befS (X.take q) k))) (fun _ qx _=>X.length - (intOf qx).toNat)
 case atStart=>exact ⟨0,none,0,0,rfl,rfl,Nat.zero_le _,Below.refl _ _,World.ownsRow_nil _ _ _ _⟩
 case round =>
  rename World=>wr
  obtain ⟨q,oa,on,oc,rfl,rfl,HH⟩:=hrel
  obtain ⟨hq,hB,hR⟩:=unhide HH
  have HB:=hide hB
  have HR:=hide hR
  by_cases hlt:q < X.length
  ·have hltI:(q:Int) < (X.length:Int):=by omega
   have HLT:=hide hlt
   obtain ⟨g,cap,he,hx⟩:=((unhide HX).below hB).at hlt
   have hgx:g < wr.heap.size:=by
    rw [he] at HX
    exact (((unhide HX).below hB).lt g rfl).2
   simp only [Value.slice.injEq,true_and] at he
   obtain ⟨rfl,rfl⟩:=he
   have HF:=hide (befS_take (k:=k) hlt)
   have hsz:(X.getD q ByteArray.empty).size≤100000:=by
    rw [List.getD_eq_getElem?_getD,List.getElem?_eq_getElem hlt];exact unhide HZ _ (List.getElem_mem _)
   have hbl:(befS (X.take q) k).length≤10000:=by
    have h1:=befS_len (X.take q) k
    rw [List.length_take] at h1
    have:=unhide HL
    omega
   generalize X.getD q ByteArray.empty=a at *
   have hsz2:a.size+(oneB k).size≤9223372036854775807:=by
    have:(oneB k).size=1:=rfl
    omega
   have HWI:Hid (∀ W,Below wr.heap.size wr W→Calls Tryz.prog 128 #[.slice oa on oc,.string (a++oneB k)] W fun e w'=>∃ v',e=.returned v'∧SRow w' W.heap.size v' (insS (befS (X.take q) k) (a++oneB k))∧Below W.heap.size W w'):=fun W hW=>with_any W 0 _ _ _ ((unhide HR).below hW) hbl
   have HBA:Hid (Below wr.heap.size wr (wr.alloc (Obj.cells #[.int .u8 (k:Int)] 5))):=(Below.refl _ _).alloc (Nat.le_refl _) _
   have hcv2:=conv_cell ((wr.alloc (Obj.cells #[.int .u8 (k:Int)] 5)).drew) wr.heap.size k (unhide HK) (by
    show (wr.alloc (Obj.cells #[.int .u8 (k:Int)] 5)).cell? ⟨wr.heap.size,0,none⟩=_
    rw [World.cell?_alloc_mark];rfl)
   generalize oneB k=ob at *
   clear HH hq hB hR hlt hbl hsz
   go_wp2_with fail
   go_region_with (go_at_call 128;refine (unhide HWI _ (by first | exact (unhide HBA).drew | exact unhide HBA)).mono ?_;rintro e w1 ⟨v',rfl,hv,hw1⟩;obtain ⟨va,vc,rfl⟩:=hv.form;have HB1:=hide ((unhide HB).trans ((((unhide HBA).drew).trans (hw1.mono (by first | exact (unhide HBA).drew.size | exact (unhide HBA).size))).mono (unhide HB).size));have HV:=hide hv.zero;clear hv hw1)
   all_goals
    go_wp2_with fail
    go_roundw
    case rel=>exact ⟨q+1,va,_,vc,rfl,by go_num,unhide HLT,unhide HB1,by rw [unhide HF];exact unhide HV⟩
    case measure=>have:=unhide HLT;simp [intOf];omega
  ·have hq2:q=X.length:=by omega
   subst hq2
   clear HH hq hB hR hlt
   go_wp2_with fail
   go_ret
   exact ⟨_,rfl,by have:=unhide HR;rw [List.take_length] at this;exact this,unhide HB⟩
end Go.Proofs.YtjooemengpeaaaaGreat
namespace Go.Proofs.YtjooemengpeaaaaGreat
theorem VSet.both {rs0 rs:List Rn} {U V W:List (List Nm)} {X Y:List ByteArray} (h:VSet rs0 rs U X) (k:VSet rs0 rs V Y) (hU:∀ u∈U,u∈W) (hV:∀ u∈V,u∈W):VSet rs0 rs W (bothS X Y):=by
 refine ⟨bothS_srt h.srt _,fun s hs=>?_,fun s hs=>?_⟩
 ·rcases (bothS_mem X Y s).1 hs with g | g
  ·exact (h.mono hU).inu s g
  ·exact (k.mono hV).inu s g
 ·rcases (bothS_mem X Y s).1 hs with g | g
  ·exact h.num s g
  ·exact k.num s g
theorem stB_both (rs:List Rn) (X Y:List ByteArray):stB rs (bothS X Y)=altL (stB rs X) (stB rs Y):=Lang.ext fun w=>by
 constructor
 ·rintro ⟨s,h1,h2⟩
  rcases (bothS_mem X Y s).1 h1 with g | g
  ·exact .inl ⟨s,g,h2⟩
  ·exact .inr ⟨s,g,h2⟩
 ·rintro (⟨s,h1,h2⟩ | ⟨s,h1,h2⟩)
  ·exact ⟨s,(bothS_mem X Y s).2 (.inl h1),h2⟩
  ·exact ⟨s,(bothS_mem X Y s).2 (.inr h1),h2⟩
theorem VSet.bef {rs0 rs:List Rn} {U W:List (List Nm)} {X:List ByteArray} {k:Nat} (h:VSet rs0 rs U X) (hk:NumOk rs0 rs k) (hl:k < rs.length) (h256:k < 256) (hW:∀ u∈U,u++[nmOf rs0 rs k]∈W):VSet rs0 rs W (befS X k):=by
 have key:∀ {a:ByteArray},bytesN (a++oneB k)=bytesN a++[k]:=fun {a}=>by rw [bytesN_appZ,bytesN_oneB h256]
 refine ⟨befS_srt _ _,fun s hs=>?_,fun s hs j hj=>?_⟩
 ·obtain ⟨a,h1,rfl⟩:=(befS_mem X k s).1 hs
  refine ⟨fun j hj=>?_,?_⟩
  ·rw [key] at hj
   rcases List.mem_append.1 hj with hj | hj
   ·exact (h.inu a h1).1 j hj
   ·simp only [List.mem_singleton] at hj;subst hj;exact hl
  ·unfold nmS
   rw [key,List.map_append]
   exact hW _ (h.inu a h1).2
 ·obtain ⟨a,h1,rfl⟩:=(befS_mem X k s).1 hs
  rw [key] at hj
  rcases List.mem_append.1 hj with hj | hj
  ·exact h.num a h1 j hj
  ·simp only [List.mem_singleton] at hj;subst hj;exact hk
theorem stB_bef (rs:List Rn) (X:List ByteArray) {k:Nat} (h256:k < 256):stB rs (befS X k)=catL (stB rs X) (LN rs k):=Lang.ext fun w=>by
 have key:∀ a:ByteArray,tmL rs (bytesN (a++oneB k))=catL (tmL rs (bytesN a)) (LN rs k):=fun a=>by
  rw [bytesN_appZ,bytesN_oneB h256,tmL_append]
  show catL _ (catL (LN rs k) epsL)=_
  rw [catL_eps]
 constructor
 ·rintro ⟨s,h1,h2⟩
  obtain ⟨a,g1,rfl⟩:=(befS_mem X k s).1 h1
  rw [key] at h2
  obtain ⟨u,v,e,q1,q2⟩:=h2
  exact ⟨u,v,e,⟨a,g1,q1⟩,q2⟩
 ·rintro ⟨u,v,e,⟨a,g1,q1⟩,q2⟩
  refine ⟨a++oneB k,(befS_mem X k _).2 ⟨a,g1,rfl⟩,?_⟩
  rw [key]
  exact ⟨u,v,e,q1,q2⟩
theorem VSet.one {rs0 rs:List Rn} {U:List (List Nm)} (hU:[]∈U):VSet rs0 rs U [⟨#[]⟩]:=by
 refine ⟨List.pairwise_singleton _ _,fun s hs=>?_,fun s hs k hk=>?_⟩
 ·simp only [List.mem_singleton] at hs
  subst hs
  exact ⟨(fun k hk=>by cases hk),hU⟩
 ·simp only [List.mem_singleton] at hs
  subst hs
  cases hk
theorem stB_one (rs:List Rn):stB rs [⟨#[]⟩]=epsL:=Lang.ext fun w=>by
 constructor
 ·rintro ⟨s,h1,h2⟩
  simp only [List.mem_singleton] at h1
  subst h1;exact h2
 ·intro h;exact ⟨_,List.mem_singleton.2 rfl,h⟩
theorem found_star {rs0 rs rs':List Rn} (hg:GrowT rs0 rs) {a:Re} {l:Nat} (ha:Dr rs0 a (l:Int)) (hw:a.wt≤12) (hc:Nm.x 5 (l:Int) 0 0∈ctsT rs0) {i:Nat}
  (h:(fstC (ctOf ⟨5,(l:Int),0,0,0,noSet⟩) rs=some i∧rs'=rs)∨(fstC (ctOf ⟨5,(l:Int),0,0,0,noSet⟩) rs=none∧i=rs.length∧rs'=rs++[⟨5,(l:Int),0,0,0,noSet⟩])) :
  GrowT rs0 rs'∧(∃ x,rs'=rs++x)∧i < rs'.length∧nmOf rs0 rs' i=resN rs0 (.x 5 (l:Int) 0 0)∧NumOk rs0 rs' i∧Dr rs' (.star a) (i:Int):=by
 obtain ⟨e,he⟩:=hg.gr.pre
 rcases h with ⟨h1,rfl⟩ | ⟨h1,rfl,rfl⟩
 ·obtain ⟨q1,q2⟩:=hg.gr.found h1
  obtain ⟨r,g1,g2⟩:=fstC_some h1
  simp only [ctOf,Nm.x.injEq] at g2
  obtain ⟨e1,e2,e3,e4⟩:=g2
  have hd:Dr rs' (.star a) (i:Int):=⟨r,by omega,by rw [Int.toNat_natCast];exact g1,e1,by rw [e2,he];exact ha.app e⟩
  refine ⟨hg,⟨[],by simp⟩,q2,q1,?_,hd⟩
  by_cases hi:i < rs0.length
  ·refine .inl ⟨hi,.star a,⟨r,by omega,?_,e1,by rw [e2];exact ha⟩,hw⟩
   rw [Int.toNat_natCast]
   rw [he,List.getElem?_append_left hi] at g1;exact g1
  ·exact .inr ⟨by omega,r,g1,a,by rw [e2];exact ha,hw,.inl ⟨e1,e3,e4⟩⟩
 ·obtain ⟨q1,q2⟩:=hg.gr.put h1
  have hget:(rs++[(⟨5,(l:Int),0,0,0,noSet⟩:Rn)])[rs.length]?=some ⟨5,(l:Int),0,0,0,noSet⟩:=by simp
  have hlen:=hg.gr.len
  refine ⟨hg.put h1 hc,⟨_,rfl⟩,by simp,q2,.inr ⟨hlen,_,hget,a,ha,hw,.inl ⟨rfl,rfl,rfl⟩⟩,⟨_,by omega,by rw [Int.toNat_natCast];exact hget,rfl,?_⟩⟩
  show Dr (rs++[_]) a (l:Int)
  rw [he];exact (ha.app e).app _
theorem found_times {rs0 rs rs':List Rn} (hg:GrowT rs0 rs) {a:Re} {l m n:Nat} (ha:Dr rs0 a (l:Int)) (hw:a.wt≤12) (hw2:(Re.times m n a).wt≤12) (hm:m≤9) (hn:n≤9) (hc:Nm.x 8 (l:Int) (m:Int) (n:Int)∈ctsT rs0) {i:Nat}
  (h:(fstC (ctOf ⟨8,(l:Int),0,(m:Int),(n:Int),noSet⟩) rs=some i∧rs'=rs)∨(fstC (ctOf ⟨8,(l:Int),0,(m:Int),(n:Int),noSet⟩) rs=none∧i=rs.length∧rs'=rs++[⟨8,(l:Int),0,(m:Int),(n:Int),noSet⟩])) :
  GrowT rs0 rs'∧(∃ x,rs'=rs++x)∧i < rs'.length∧nmOf rs0 rs' i=resN rs0 (.x 8 (l:Int) (m:Int) (n:Int))∧NumOk rs0 rs' i∧Dr rs' (.times m n a) (i:Int):=by
 obtain ⟨e,he⟩:=hg.gr.pre
 rcases h with ⟨h1,rfl⟩ | ⟨h1,rfl,rfl⟩
 ·obtain ⟨q1,q2⟩:=hg.gr.found h1
  obtain ⟨r,g1,g2⟩:=fstC_some h1
  simp only [ctOf,Nm.x.injEq] at g2
  obtain ⟨e1,e2,e3,e4⟩:=g2
  have hd:Dr rs' (.times m n a) (i:Int):=⟨r,by omega,by rw [Int.toNat_natCast];exact g1,e1,e3,e4,hm,hn,by rw [e2,he];exact ha.app e⟩
  refine ⟨hg,⟨[],by simp⟩,q2,q1,?_,hd⟩
  by_cases hi:i < rs0.length
  ·refine .inl ⟨hi,.times m n a,⟨r,by omega,?_,e1,e3,e4,hm,hn,by rw [e2];exact ha⟩,hw2⟩
   rw [Int.toNat_natCast]
   rw [he,List.getElem?_append_left hi] at g1;exact g1
  ·exact .inr ⟨by omega,r,g1,a,by rw [e2];exact ha,hw,.inr ⟨e1,m,n,e3,e4,hm,hn,hw2⟩⟩
 ·obtain ⟨q1,q2⟩:=hg.gr.put h1
  have hget:(rs++[(⟨8,(l:Int),0,(m:Int),(n:Int),noSet⟩:Rn)])[rs.length]?=some ⟨8,(l:Int),0,(m:Int),(n:Int),noSet⟩:=by simp
  have hlen:=hg.gr.len
  refine ⟨hg.put h1 hc,⟨_,rfl⟩,by simp,q2,.inr ⟨hlen,_,hget,a,ha,hw,.inr ⟨rfl,m,n,rfl,rfl,hm,hn,hw2⟩⟩,⟨_,by omega,by rw [Int.toNat_natCast];exact hget,rfl,rfl,rfl,hm,hn,?_⟩⟩
  show Dr (rs++[_]) a (l:Int)
  rw [he];exact (ha.app e).app _
theorem cts_plus {rs0:List Rn} {a:Re} {k:Nat} {r:Rn} (h:rs0[k]?=some r) (hk:r.kind=6) (ha:Dr rs0 a r.l):Nm.x 5 ((r.l.toNat:Nat):Int) 0 0∈ctsT rs0:=by
 refine List.mem_flatMap.2 ⟨r,List.mem_of_getElem? h,?_⟩
 unfold ctsR
 rw [if_pos hk,toNat_cast ha.nonneg]
 simp
theorem cts_times {rs0:List Rn} {a:Re} {k m n j:Nat} {r:Rn} (h:rs0[k]?=some r) (hk:r.kind=8) (hm:r.m=(m:Int)) (hn:r.n=(n:Int)) (ha:Dr rs0 a r.l) (hj:j < n):Nm.x 8 ((r.l.toNat:Nat):Int) ((m - (j+1):Nat):Int) ((n - (j+1):Nat):Int)∈ctsT rs0:=by
 refine List.mem_flatMap.2 ⟨r,List.mem_of_getElem? h,?_⟩
 unfold ctsR
 rw [if_neg (by rw [hk];decide),if_pos hk,toNat_cast ha.nonneg,hm,hn]
 simp only [Int.toNat_natCast]
 exact List.mem_map.2 ⟨j,List.mem_range.2 hj,rfl⟩
theorem cts_next {rs0:List Rn} {l m n:Nat} (h:Nm.x 8 (l:Int) (m:Int) (n:Int)∈ctsT rs0) (hn:1≤n):Nm.x 8 (l:Int) ((m - 1:Nat):Int) ((n - 1:Nat):Int)∈ctsT rs0:=by
 obtain ⟨r,h1,h2⟩:=List.mem_flatMap.1 h
 refine List.mem_flatMap.2 ⟨r,h1,?_⟩
 unfold ctsR at h2 ⊢
 split at h2
 ·simp at h2
 ·next h6 =>
  rw [if_neg h6]
  split at h2
  ·next h8 =>
   rw [if_pos h8]
   obtain ⟨j,q1,q2⟩:=List.mem_map.1 h2
   simp only [Nm.x.injEq,true_and] at q2
   obtain ⟨e1,e2,e3⟩:=q2
   have hj:=List.mem_range.1 q1
   refine List.mem_map.2 ⟨j+1,List.mem_range.2 (by omega),?_⟩
   simp only [Nm.x.injEq,true_and]
   exact ⟨e1,by omega,by omega⟩
  ·cases h2
end Go.Proofs.YtjooemengpeaaaaGreat
namespace Go.Proofs.YtjooemengpeaaaaGreat
open Go.RowKit
structure Nl (w wr:World) (b:Nat) (r:Rn):Prop where
 at_:wr.heap[w.heap.size]?=some (.cells (rnA r) 197 (0,0))
 off:¬RowAt wr b w.heap.size
 lt:b < w.heap.size
theorem Nl.start {w:World} {b:Nat} {rs:List Rn} (hb:RtS w b rs) (r:Rn):Nl w ((w.alloc (Obj.cells Tryz.zeroCells197 197)).setRow w.heap.size (rnA r)) b r:=by
 have hbl:=RtS_lt hb
 have hbt:Below w.heap.size w ((w.alloc (Obj.cells Tryz.zeroCells197 197)).setRow w.heap.size (rnA r)):=below_setRow ((Below.refl _ _).alloc (Nat.le_refl _) _) (Nat.le_refl _) _
 refine ⟨setRow_heap _ _ _ (rnA r) _ _ (heap_alloc_new w _),fun hr=>?_,hbl⟩
 obtain ⟨v,fr,h1,h2⟩:=hr
 rw [hbt.block b hbl] at h1
 obtain ⟨cs,fr',h3⟩:=hb.rowNode ⟨v,fr,h1,h2⟩
 have:=(Array.getElem?_eq_some_iff.1 h3).1
 omega
theorem Nl.next {w wr w1:World} {b:Nat} {r:Rn} (h:Nl w wr b r) (hf:Fy b wr w1):Nl w w1 b r:=by
 have hl:=(Array.getElem?_eq_some_iff.1 h.at_).1
 have hlt:=h.lt
 refine ⟨?_,fun hr=>?_,hlt⟩
 ·rw [hf.keep _ hl (by omega) h.off];exact h.at_
 ·rcases hf.row _ hr with g | g
  ·exact h.off g
  ·omega
theorem Nl.cells {w wr:World} {b:Nat} {r:Rn} (h:Nl w wr b r):wr.cell? ⟨w.heap.size,0,none⟩=some (.int .i64 r.kind)∧wr.cell? ⟨w.heap.size,1,none⟩=some (.int .i64 r.l)∧wr.cell? ⟨w.heap.size,2,none⟩=some (.int .i64 r.r)∧wr.cell? ⟨w.heap.size,3,none⟩=some (.int .i64 r.m)∧wr.cell? ⟨w.heap.size,4,none⟩=some (.int .i64 r.n):=by
 obtain ⟨y0,y1,y2,y3,y4⟩:=rnA_fields r
 refine ⟨?_,?_,?_,?_,?_⟩<;>rw [cell_of_row _ _ _ _ _ _ h.at_]
 ·exact y0
 ·exact y1
 ·exact y2
 ·exact y3
 ·exact y4
theorem Dr.lt0 {rs:List Rn} {R:Re} {k:Nat} (h:Dr rs R (k:Int)):k < rs.length:=by
 obtain ⟨r,h1,_⟩:=h.kind
 rw [Int.toNat_natCast] at h1
 exact (List.getElem?_eq_some_iff.1 h1).1
theorem grow_trans {rs rs1 rs2:List Rn} (h:∃ x,rs1=rs++x) (k:∃ x,rs2=rs1++x):∃ x,rs2=rs++x:=by
 obtain ⟨x,rfl⟩:=h
 obtain ⟨y,rfl⟩:=k
 exact ⟨x++y,by rw [List.append_assoc]⟩
structure LfOk (rs0:List Rn) (b:Nat) (w w':World) (rs:List Rn) (U:List (List Nm)) (L:Lang) (v:Value) (X:List ByteArray) (rs':List Rn):Prop where
 fy:Fy b w w'
 rt:RtS w' b rs'
 gr:GrowT rs0 rs'
 ex:∃ x,rs'=rs++x
 row:SRow w' 0 v X
 vs:VSet rs0 rs' U X
 eq:stB rs' X=L
def DoesLf (rs0:List Rn) (b c:Nat) (R:Re):Prop:=∀ (kn:Nat) (w:World) (rs:List Rn),R.wt≤12→Dr rs0 R (kn:Int)→RtS w b rs→GrowT rs0 rs →
  Calls Tryz.prog 127 #[.pointer (some ⟨b,0,none⟩),.int .i64 (kn:Int),.int .i64 (c:Int)] w fun e w'=>∃ v X rs',e=.returned v∧LfOk rs0 b w w' rs (uni rs0 R kn) (derL c R.L) v X rs'
theorem phi_len (rs0:List Rn):rs0.length≤phiR rs0:=by have:=ctsT_len rs0;omega
set_option maxRecDepth 20000 in
set_option maxHeartbeats 2000000 in
theorem left_blank {rs0:List Rn} (hphi:phiR rs0≤121) (hwf:WfT rs0) {b c:Nat} (hc:c < 256) :DoesLf rs0 b c .blank:=by
  have HPHI:=hide hphi
  have HWF:=hide hwf
  intro kn w rs hwt hd hb hg
  obtain ⟨r,h0,h1,hk⟩:=hd
  have hmem:∃ e,rs=rs0++e:=hg.gr.pre
  obtain ⟨e0,he0⟩:=hmem
  rw [Int.toNat_natCast] at h1
  have h1':rs[kn]?=some r:=by rw [he0];exact getElem?_app h1 e0
  have hbl:=RtS_lt hb
  have hsm:=hg.small
  have hl':(rs.length:Int)≤121:=by have:=unhide HPHI;omega
  have hcI:(c:Int) < 256:=by omega
  obtain ⟨g,cap,hkl',c0,hcc⟩:=nd_begin hb h1'
  have HL:=hide hcc
  have HN1:=hide (heap_alloc_new w (Obj.cells Tryz.zeroCells197 197))
  have hbt:Below w.heap.size w ((w.alloc (Obj.cells Tryz.zeroCells197 197)).setRow w.heap.size (rnA r)):=below_setRow ((Below.refl _ _).alloc (Nat.le_refl _) _) (Nat.le_refl _) _
  have HNL:=hide (Nl.start hb r)
  have HF0:=hide (Fy.ofBelow hbt hbl)
  have HRT2:=hide (RtS_below hb hbt)
  have HG:=hide hg
  obtain ⟨x0,x1,x2,x3,x4⟩:=nd_cells w r
  rw [hk] at x0
  have HKR:Hid (kn < rs0.length∧rs0[kn]?=some r):=⟨(List.getElem?_eq_some_iff.1 h1).1,h1⟩
  have HE0:=hide he0
  have HC256:=hide hc
  clear hbt hb h1 h1' h0 hcc hg hsm he0 hbl hc hphi hwf hwt
  go_enter Tryz.func127,Tryz.ntmps127
  go_upto_region 2 with (first
   | refine wpList_load_mid rfl 197 _ rfl ⟨g,kn * 261,none⟩ rfl (rnA r) (unhide HL) _ Tryz.underlying197 rfl (by rw [size_rnA];exact info78) ?_
   | refine wpList_store_row0 rfl 197 _ _ rfl rfl w.heap.size _ rfl rfl 197 _ (unhide HN1) (by rw [size_rnA];exact info78) (by rw [zero78,size_rnA,size_rnA]) (rnA_one _) ?_)
  clear HL HN1 c0
  go_wp2_with fail
  go_ret
  exact ⟨_,[],rs,rfl,unhide HF0,unhide HRT2,unhide HG,⟨[],by simp⟩,World.ownsRow_nil _ _ _ _,VSet.nil _ _ _,by rw [stB_nil];exact (der_eps c).symm⟩
set_option maxRecDepth 20000 in
set_option maxHeartbeats 2000000 in
theorem left_set {rs0:List Rn} (hphi:phiR rs0≤121) (hwf:WfT rs0) {b c:Nat} (hc:c < 256) (f:Nat→Bool):DoesLf rs0 b c (.set f):=by
  have HPHI:=hide hphi
  have HWF:=hide hwf
  intro kn w rs hwt hd hb hg
  obtain ⟨r,h0,h1,hk,hf⟩:=hd
  have hmem:∃ e,rs=rs0++e:=hg.gr.pre
  obtain ⟨e0,he0⟩:=hmem
  rw [Int.toNat_natCast] at h1
  have h1':rs[kn]?=some r:=by rw [he0];exact getElem?_app h1 e0
  have hbl:=RtS_lt hb
  have hsm:=hg.small
  have hl':(rs.length:Int)≤121:=by have:=unhide HPHI;omega
  have hcI:(c:Int) < 256:=by omega
  obtain ⟨g,cap,hkl',c0,hcc⟩:=nd_begin hb h1'
  have HL:=hide hcc
  have HN1:=hide (heap_alloc_new w (Obj.cells Tryz.zeroCells197 197))
  have hbt:Below w.heap.size w ((w.alloc (Obj.cells Tryz.zeroCells197 197)).setRow w.heap.size (rnA r)):=below_setRow ((Below.refl _ _).alloc (Nat.le_refl _) _) (Nat.le_refl _) _
  have HNL:=hide (Nl.start hb r)
  have HF0:=hide (Fy.ofBelow hbt hbl)
  have HRT2:=hide (RtS_below hb hbt)
  have HG:=hide hg
  obtain ⟨x0,x1,x2,x3,x4⟩:=nd_cells w r
  rw [hk] at x0
  have HKR:Hid (kn < rs0.length∧rs0[kn]?=some r):=⟨(List.getElem?_eq_some_iff.1 h1).1,h1⟩
  have HE0:=hide he0
  have HC256:=hide hc
  clear hbt hb h1 h1' h0 hcc hg hsm he0 hbl hc hphi hwf hwt
  have x5:((w.alloc (Obj.cells Tryz.zeroCells197 197)).setRow w.heap.size (rnA r)).cell? ⟨w.heap.size,5+c,none⟩=some (.bool (f c)):=by
   rw [cell_of_row _ _ _ _ _ _ (unhide HNL).at_,←hf]
   unfold rnA
   rw [Array.getElem?_append_right (by simp)]
   simp only [List.size_toArray,List.length_cons,List.length_nil,Nat.add_sub_cancel_left]
   exact get_setA r.f c (unhide HC256)
  cases hfc:f c
  ·rw [hfc] at x5
   have HS:Hid (derL c (Re.set f).L=voidL):=by show derL c (setL f)=_;rw [der_set,if_neg (by rw [hfc];simp)]
   clear hfc hf
   go_enter Tryz.func127,Tryz.ntmps127
   go_upto_region 2 with (first
    | refine wpList_load_mid rfl 197 _ rfl ⟨g,kn * 261,none⟩ rfl (rnA r) (unhide HL) _ Tryz.underlying197 rfl (by rw [size_rnA];exact info78) ?_
    | refine wpList_store_row0 rfl 197 _ _ rfl rfl w.heap.size _ rfl rfl 197 _ (unhide HN1) (by rw [size_rnA];exact info78) (by rw [zero78,size_rnA,size_rnA]) (rnA_one _) ?_)
   clear HL HN1 c0
   go_wp2_with fail
   go_ret
   exact ⟨_,[],rs,rfl,unhide HF0,unhide HRT2,unhide HG,⟨[],by simp⟩,World.ownsRow_nil _ _ _ _,VSet.nil _ _ _,by rw [stB_nil];exact (unhide HS).symm⟩
  ·rw [hfc] at x5
   have HS:Hid (derL c (Re.set f).L=epsL):=by show derL c (setL f)=_;rw [der_set,if_pos hfc]
   clear hfc hf
   go_enter Tryz.func127,Tryz.ntmps127
   go_upto_region 2 with (first
    | refine wpList_load_mid rfl 197 _ rfl ⟨g,kn * 261,none⟩ rfl (rnA r) (unhide HL) _ Tryz.underlying197 rfl (by rw [size_rnA];exact info78) ?_
    | refine wpList_store_row0 rfl 197 _ _ rfl rfl w.heap.size _ rfl rfl 197 _ (unhide HN1) (by rw [size_rnA];exact info78) (by rw [zero78,size_rnA,size_rnA]) (rnA_one _) ?_)
   clear HL HN1 c0
   go_wp2_with fail
   go_ret
   have hbn:Below ((w.alloc (Obj.cells Tryz.zeroCells197 197)).setRow w.heap.size (rnA r)).heap.size ((w.alloc (Obj.cells Tryz.zeroCells197 197)).setRow w.heap.size (rnA r)) (((w.alloc (Obj.cells Tryz.zeroCells197 197)).setRow w.heap.size (rnA r)).alloc (Obj.cells #[.string ⟨#[]⟩] 9)):=(Below.refl _ _).alloc (Nat.le_refl _) _
   refine ⟨_,[⟨#[]⟩],rs,rfl,(unhide HF0).trans (Fy.ofBelow hbn (RtS_lt (unhide HRT2))),RtS_below (unhide HRT2) hbn,unhide HG,⟨[],by simp⟩,?_,VSet.one (by simp [uni]),by rw [stB_one];exact (unhide HS).symm⟩
   exact ⟨rfl,.inr ⟨_,1,#[.string ⟨#[]⟩],rfl,Nat.zero_le _,by have h:=heap_alloc_new ((w.alloc (Obj.cells Tryz.zeroCells197 197)).setRow w.heap.size (rnA r)) (Obj.cells #[.string ⟨#[]⟩] 9);simpa using h,Nat.le_refl _,by unfold maxLen;omega,rfl,rfl⟩⟩
end Go.Proofs.YtjooemengpeaaaaGreat
namespace Go.Proofs.YtjooemengpeaaaaGreat
open Go.RowKit
structure LnOk (rs0:List Rn) (b c:Nat) (w w':World) (rs:List Rn) (kn:Nat) (v:Value) (X:List ByteArray) (rs':List Rn):Prop where
 fy:Fy b w w'
 rt:RtS w' b rs'
 gr:GrowT rs0 rs'
 ex:∃ x,rs'=rs++x
 row:SRow w' 0 v X
 num:∀ s∈X,∀ k∈bytesN s,k < rs'.length∧NumOk rs0 rs' k
 der:∀ s∈X,Der1 rs0 (nmOf rs0 rs kn) (nmS rs0 rs' s)
 len:X.length≤12
 size:∀ s∈X,s.size≤200
 eq:stB rs' X=derL c (LN rs kn)
theorem LfOk.ln {rs0:List Rn} {b c:Nat} {w w':World} {rs:List Rn} {kn:Nat} {v:Value} {X:List ByteArray} {rs':List Rn} {U:List (List Nm)} {L:Lang} (h:LfOk rs0 b w w' rs U L v X rs') (hd:∀ u∈U,Der1 rs0 (nmOf rs0 rs kn) u) (hl:U.length≤12) (hz:∀ u∈U,u.length≤200) (hL:L=derL c (LN rs kn)):LnOk rs0 b c w w' rs kn v X rs' :=
 ⟨h.fy,h.rt,h.gr,h.ex,h.row,fun s hs k hk=>⟨(h.vs.inu s hs).1 k hk,h.vs.num s hs k hk⟩,fun s hs=>hd _ (h.vs.inu s hs).2,Nat.le_trans (h.vs.len h.gr) hl,fun s hs=>by
  have:=hz _ (h.vs.inu s hs).2
  unfold nmS at this
  rw [List.length_map,bytesN_len] at this
  exact this,by rw [←hL];exact h.eq⟩
def DoesLn (rs0:List Rn) (b c:Nat):Prop:=∀ (kn:Nat) (rs:List Rn) (w:World),RtS w b rs→GrowT rs0 rs→NumOk rs0 rs kn →
  Calls Tryz.prog 127 #[.pointer (some ⟨b,0,none⟩),.int .i64 (kn:Int),.int .i64 (c:Int)] w fun e w'=>∃ v X rs',e=.returned v∧LnOk rs0 b c w w' rs kn v X rs'
end Go.Proofs.YtjooemengpeaaaaGreat
