/-
  The document's answer: what is left of a set of terms behind a byte: the languages.
  The document's answer: what is left of a set of terms behind a byte: the walk.
  The document's answer: left: once or not, either.
  The document's answer: left: star, plus.
-/
import Derived.Test.YtobfpgoepaeknaaGreatPO29
import Derived.Deep.DeepCutAuto
namespace Go.Proofs.YtobfpgoepaeknaaGreat
open Go.RowKit
def contr (rs:List Rn) (c:Nat) (l:List Nat) (j:Nat):Lang:=catL (derL c (LN rs (l.getD j 0))) (tmL rs (l.drop (j+1)))
theorem der_upto {rs:List Rn} {c:Nat} {l:List Nat} {J:Nat} (hJ:J≤l.length) (hn:∀ q,q+1 < J→LN rs (l.getD q 0) []) (he:J=l.length∨(1≤J∧¬LN rs (l.getD (J - 1) 0) [])) (w:List Nat):derL c (tmL rs l) w↔∃ j,j < J∧contr rs c l j w:=by
 rw [der_tm]
 constructor
 ·rintro ⟨a,k,d,rfl,h1,h2⟩
  refine ⟨a.length,?_,?_⟩
  ·rcases he with rfl | ⟨g1,g2⟩
   ·simp
   ·refine Nat.lt_of_not_le fun hle=>g2 (h1 _ ?_)
    have hlt:J - 1 < a.length:=by omega
    rw [List.getD_eq_getElem?_getD,List.getElem?_append_left hlt,List.getElem?_eq_getElem hlt]
    exact List.getElem_mem _
  ·unfold contr
   have e1:(a++k ::d).getD a.length 0=k:=by rw [List.getD_eq_getElem?_getD,List.getElem?_append_right (Nat.le_refl _),Nat.sub_self];rfl
   have e2:(a++k ::d).drop (a.length+1)=d:=by rw [←List.drop_drop,List.drop_left];rfl
   rw [e1,e2];exact h2
 ·rintro ⟨j,hj,h⟩
  have hjl:j < l.length:=by omega
  refine ⟨l.take j,l.getD j 0,l.drop (j+1),?_,fun x hx=>?_,h⟩
  ·rw [List.getD_eq_getElem?_getD,List.getElem?_eq_getElem hjl,Option.getD_some,←List.drop_eq_getElem_cons hjl,List.take_append_drop]
  ·obtain ⟨q,hq,rfl⟩:=List.getElem_of_mem hx
   have hq2:q < j:=by simp at hq;omega
   have:=hn q (by omega)
   rw [List.getD_eq_getElem?_getD,List.getElem?_eq_getElem (by omega),Option.getD_some] at this
   rw [List.getElem_take];exact this
def accO (rs:List Rn) (c:Nat) (X:List ByteArray) (i:Nat):Lang:=fun w=>∃ q,q < i∧q < X.length∧derL c (tmL rs (bytesN (X.getD q ByteArray.empty))) w
theorem accO_zero (rs:List Rn) (c:Nat) (X:List ByteArray):accO rs c X 0=voidL:=Lang.ext fun _=>⟨(fun ⟨_,h,_⟩=>absurd h (Nat.not_lt_zero _)),fun h=>h.elim⟩
theorem accO_all (rs:List Rn) (c:Nat) (X:List ByteArray):accO rs c X X.length=derL c (stB rs X):=Lang.ext fun w=>by
 constructor
 ·rintro ⟨q,_,h1,h2⟩
  refine ⟨_,?_,h2⟩
  rw [List.getD_eq_getElem?_getD,List.getElem?_eq_getElem h1];exact List.getElem_mem _
 ·rintro ⟨s,h1,h2⟩
  obtain ⟨q,hq,rfl⟩:=List.getElem_of_mem h1
  refine ⟨q,hq,hq,?_⟩
  rw [List.getD_eq_getElem?_getD,List.getElem?_eq_getElem hq];exact h2
def accI (rs:List Rn) (c:Nat) (X:List ByteArray) (i:Nat) (l:List Nat) (j:Nat):Lang:=fun w=>accO rs c X i w∨∃ q,q < j∧contr rs c l q w
theorem accI_zero (rs:List Rn) (c:Nat) (X:List ByteArray) (i:Nat) (l:List Nat):accI rs c X i l 0=accO rs c X i:=Lang.ext fun _=>⟨fun h=>h.elim id (fun ⟨_,h,_⟩=>absurd h (Nat.not_lt_zero _)),.inl⟩
theorem accI_end {rs:List Rn} {c:Nat} {X:List ByteArray} {i J:Nat} (hi:i < X.length) (hJ:J≤(bytesN (X.getD i ByteArray.empty)).length) (hn:∀ q,q+1 < J→LN rs ((bytesN (X.getD i ByteArray.empty)).getD q 0) [])
  (he:J=(bytesN (X.getD i ByteArray.empty)).length∨(1≤J∧¬LN rs ((bytesN (X.getD i ByteArray.empty)).getD (J - 1) 0) [])):accI rs c X i (bytesN (X.getD i ByteArray.empty)) J=accO rs c X (i+1):=Lang.ext fun w=>by
 constructor
 ·rintro (⟨q,h1,h2,h3⟩ | h)
  ·exact ⟨q,by omega,h2,h3⟩
  ·exact ⟨i,by omega,hi,(der_upto hJ hn he w).2 h⟩
 ·rintro ⟨q,h1,h2,h3⟩
  by_cases e:q=i
  ·subst e;exact .inr ((der_upto hJ hn he w).1 h3)
  ·exact .inl ⟨q,by omega,h2,h3⟩
def accM (A:Lang) (rs1:List Rn) (Z:List ByteArray) (d:List Nat) (m:Nat):Lang:=fun w=>A w∨∃ q,q < m∧q < Z.length∧tmL rs1 (bytesN (Z.getD q ByteArray.empty)++d) w
theorem accM_zero (A:Lang) (rs1:List Rn) (Z:List ByteArray) (d:List Nat):accM A rs1 Z d 0=A:=Lang.ext fun _=>⟨fun h=>h.elim id (fun ⟨_,h,_⟩=>absurd h (Nat.not_lt_zero _)),.inl⟩
theorem accM_all {rs rs1:List Rn} {c:Nat} {X:List ByteArray} {i j:Nat} {l:List Nat} {Z:List ByteArray} (hZ:stB rs1 Z=derL c (LN rs (l.getD j 0))) (hd:tmL rs1 (l.drop (j+1))=tmL rs (l.drop (j+1))):accM (accI rs c X i l j) rs1 Z (l.drop (j+1)) Z.length=accI rs c X i l (j+1):=Lang.ext fun w=>by
 have key:(∃ q,q < Z.length∧q < Z.length∧tmL rs1 (bytesN (Z.getD q ByteArray.empty)++l.drop (j+1)) w)↔contr rs c l j w:=by
  unfold contr
  rw [←hZ,←hd]
  constructor
  ·rintro ⟨q,_,h1,h2⟩
   rw [tmL_append] at h2
   obtain ⟨u,v,e,g1,g2⟩:=h2
   refine ⟨u,v,e,⟨_,?_,g1⟩,g2⟩
   rw [List.getD_eq_getElem?_getD,List.getElem?_eq_getElem h1];exact List.getElem_mem _
  ·rintro ⟨u,v,e,⟨s,g0,g1⟩,g2⟩
   obtain ⟨q,hq,rfl⟩:=List.getElem_of_mem g0
   refine ⟨q,hq,hq,?_⟩
   rw [tmL_append,List.getD_eq_getElem?_getD,List.getElem?_eq_getElem hq]
   exact ⟨u,v,e,g1,g2⟩
 unfold accM
 rw [key]
 unfold accI
 constructor
 ·rintro ((h | ⟨q,h1,h2⟩) | h)
  ·exact .inl h
  ·exact .inr ⟨q,by omega,h2⟩
  ·exact .inr ⟨j,by omega,h⟩
 ·rintro (h | ⟨q,h1,h2⟩)
  ·exact .inl (.inl h)
  ·by_cases e:q=j
   ·subst e;exact .inr h2
   ·exact .inl (.inr ⟨q,by omega,h2⟩)
structure OnI (rs0:List Rn) (U:List (List Nm)) (b:Nat) (w:World) (rs:List Rn) (wr:World) (ov:Value) (Y:List ByteArray) (rs1:List Rn) (A:Lang):Prop where
 fy:Fy b w wr
 rt:RtS wr b rs1
 gr:GrowT rs0 rs1
 ex:∃ x,rs1=rs++x
 row:SRow wr 0 ov Y
 vs:VSet rs0 rs1 U Y
 eq:stB rs1 Y=A
section on
variable {rs0 : List Rn} {U : List (List Nm)} {b c : Nat} {w wr w2 : World} {rs rs1 : List Rn} {ov : Value} {Y : List ByteArray} {A : Lang}
theorem OnI.below (h:OnI rs0 U b w rs wr ov Y rs1 A) (k:Below wr.heap.size wr w2):OnI rs0 U b w rs w2 ov Y rs1 A:=⟨h.fy.trans (Fy.ofBelow k (RtS_lt h.rt)),RtS_below h.rt k,h.gr,h.ex,h.row.below k,h.vs,h.eq⟩
theorem OnI.left (h:OnI rs0 U b w rs wr ov Y rs1 A) {kn:Nat} {v:Value} {Z:List ByteArray} {rs2:List Rn} (k:LnOk rs0 b c wr w2 rs1 kn v Z rs2):OnI rs0 U b w rs w2 ov Y rs2 A:=by
 obtain ⟨x,hx⟩:=k.ex
 refine ⟨h.fy.trans k.fy,k.rt,k.gr,grow_trans h.ex k.ex,h.row.fy k.fy h.rt,?_,?_⟩
 ·rw [hx];exact h.vs.grow x
 ·rw [hx,stB_app h.gr h.vs x];exact h.eq
theorem OnI.ins (h:OnI rs0 U b w rs wr ov Y rs1 A) (k:Below wr.heap.size wr w2) {v':Value} {s:ByteArray} (hr:SRow w2 0 v' (insS Y s)) (hi:InT rs0 rs1 U s) (hn:∀ k∈bytesN s,NumOk rs0 rs1 k) {A':Lang} (hA:∀ x,A' x↔A x∨tmL rs1 (bytesN s) x):OnI rs0 U b w rs w2 v' (insS Y s) rs1 A':=by
 refine ⟨h.fy.trans (Fy.ofBelow k (RtS_lt h.rt)),RtS_below h.rt k,h.gr,h.ex,hr,⟨insS_srt h.vs.srt s,fun t ht=>?_,fun t ht=>?_⟩,Lang.ext fun x=>?_⟩
 ·rcases (insS_mem Y s t).1 ht with rfl | g
  ·exact hi
  ·exact h.vs.inu t g
 ·rcases (insS_mem Y s t).1 ht with rfl | g
  ·exact hn
  ·exact h.vs.num t g
 ·rw [hA,←h.eq]
  constructor
  ·rintro ⟨t,h1,h2⟩
   rcases (insS_mem Y s t).1 h1 with rfl | g
   ·exact .inr h2
   ·exact .inl ⟨t,g,h2⟩
  ·rintro (⟨t,h1,h2⟩ | h2)
   ·exact ⟨t,(insS_mem Y s t).2 (.inr h1),h2⟩
   ·exact ⟨s,(insS_mem Y s s).2 (.inl rfl),h2⟩
end on
theorem bytesN_dropZ (s:ByteArray) (a:Nat):bytesN (s.extract a s.size)=(bytesN s).drop a:=by
 unfold bytesN
 rw [ByteArray.data_extract,Array.toList_extract,List.extract_eq_take_drop,List.map_take,List.map_drop,List.take_of_length_le]
 rw [List.length_drop,List.length_map,Array.length_toList]
 exact Nat.le_refl _
end Go.Proofs.YtobfpgoepaeknaaGreat
namespace Go.Proofs.YtobfpgoepaeknaaGreat
open Go.RowKit
attribute [local go_sem ↓] Go.wp_at_zero Go.wp_at_succ
theorem list_at {l:List Nat} {j:Nat} (hj:j < l.length):l=l.take j++l.getD j 0 ::l.drop (j+1):=by
 rw [List.getD_eq_getElem?_getD,List.getElem?_eq_getElem hj,Option.getD_some,←List.drop_eq_getElem_cons hj,List.take_append_drop]
theorem step_in {rs0 rs rs1 rs2:List Rn} {U:List (List Nm)} (hU:Closed rs0 U) {x1 x2:List Rn} (h1:rs1=rs++x1) (h2:rs2=rs1++x2) {s t:ByteArray} (hs:InT rs0 rs U s) (hsn:∀ k∈bytesN s,NumOk rs0 rs k) {j:Nat} (hj:j < (bytesN s).length)
  (htn:∀ k∈bytesN t,k < rs2.length∧NumOk rs0 rs2 k) (hd:Der1 rs0 (nmOf rs0 rs1 ((bytesN s).getD j 0)) (nmS rs0 rs2 t)):InT rs0 rs2 U (t++s.extract (j+1) s.size)∧∀ k∈bytesN (t++s.extract (j+1) s.size),NumOk rs0 rs2 k:=by
 have hb:bytesN (t++s.extract (j+1) s.size)=bytesN t++(bytesN s).drop (j+1):=by rw [bytesN_appZ,bytesN_dropZ]
 have h12:rs2=rs++(x1++x2):=by rw [h2,h1,List.append_assoc]
 have hsub:∀ k∈(bytesN s).drop (j+1),k∈bytesN s:=fun k hk=>List.mem_of_mem_drop hk
 refine ⟨⟨fun k hk=>?_,?_⟩,fun k hk=>?_⟩
 ·rw [hb] at hk
  rcases List.mem_append.1 hk with g | g
  ·exact (htn k g).1
  ·have:=hs.1 k (hsub k g)
   rw [h12,List.length_append];omega
 ·unfold nmS at hd ⊢
  rw [hb,List.map_append]
  have e1:((bytesN s).drop (j+1)).map (nmOf rs0 rs2)=((bytesN s).drop (j+1)).map (nmOf rs0 rs):=List.map_congr_left fun k hk=>by rw [h12];exact nmOf_app (hs.1 k (hsub k hk)) _
  have e2:nmOf rs0 rs1 ((bytesN s).getD j 0)=nmOf rs0 rs ((bytesN s).getD j 0):=by
   rw [h1]
   refine nmOf_app (hs.1 _ ?_) x1
   rw [List.getD_eq_getElem?_getD,List.getElem?_eq_getElem hj];exact List.getElem_mem _
  rw [e1]
  rw [e2] at hd
  refine hU _ hs.2 (((bytesN s).take j).map (nmOf rs0 rs)) _ _ _ ?_ hd
  unfold nmS
  conv=>lhs;rw [list_at hj]
  rw [List.map_append,List.map_cons]
 ·rw [hb] at hk
  rcases List.mem_append.1 hk with g | g
  ·exact (htn k g).2
  ·rw [h12];exact (hsn k (hsub k g)).grow _
theorem getD_byte (s:ByteArray) {j:Nat} (h:j < s.size):(bytesN s).getD j 0=s[j].toNat:=by
 have h2:j < (bytesN s).length:=by rw [bytesN_len];exact h
 rw [List.getD_eq_getElem?_getD,List.getElem?_eq_getElem h2,Option.getD_some,bytesN_at s j h h2]
theorem accM_succ {A:Lang} {rs1:List Rn} {Z:List ByteArray} {d:List Nat} {m:Nat} (hm:m < Z.length) (x:List Nat):accM A rs1 Z d (m+1) x↔accM A rs1 Z d m x∨tmL rs1 (bytesN (Z.getD m ByteArray.empty)++d) x:=by
 unfold accM
 constructor
 ·rintro (h | ⟨q,h1,h2,h3⟩)
  ·exact .inl (.inl h)
  ·by_cases e:q=m
   ·subst e;exact .inr h3
   ·exact .inl (.inr ⟨q,by omega,h2,h3⟩)
 ·rintro ((h | ⟨q,h1,h2,h3⟩) | h)
  ·exact .inl h
  ·exact .inr ⟨q,by omega,h2,h3⟩
  ·exact .inr ⟨m,by omega,hm,h⟩
structure OnJ (rs0:List Rn) (U:List (List Nm)) (b:Nat) (w:World) (rs:List Rn) (wr:World) (ov:Value) (Y:List ByteArray) (rs1:List Rn) (A:Lang):Prop extends OnI rs0 U b w rs wr ov Y rs1 A where
 new:∀ q,ov.ownBlock=some q→w.heap.size≤q
section onj
variable {rs0 : List Rn} {U : List (List Nm)} {b c : Nat} {w wr w2 : World} {rs rs1 : List Rn} {ov : Value} {Y : List ByteArray} {A : Lang}
theorem OnJ.below (h:OnJ rs0 U b w rs wr ov Y rs1 A) (k:Below wr.heap.size wr w2):OnJ rs0 U b w rs w2 ov Y rs1 A:=⟨h.toOnI.below k,h.new⟩
theorem OnJ.left (h:OnJ rs0 U b w rs wr ov Y rs1 A) {kn:Nat} {v:Value} {Z:List ByteArray} {rs2:List Rn} (k:LnOk rs0 b c wr w2 rs1 kn v Z rs2):OnJ rs0 U b w rs w2 ov Y rs2 A:=⟨h.toOnI.left k,h.new⟩
theorem OnJ.ins (h:OnJ rs0 U b w rs wr ov Y rs1 A) (k:Below wr.heap.size wr w2) {v':Value} {s:ByteArray} (hr:SRow w2 wr.heap.size v' (insS Y s)) (hi:InT rs0 rs1 U s) (hn:∀ k∈bytesN s,NumOk rs0 rs1 k) {A':Lang} (hA:∀ x,A' x↔A x∨tmL rs1 (bytesN s) x):OnJ rs0 U b w rs w2 v' (insS Y s) rs1 A' :=
 ⟨h.toOnI.ins k hr.zero hi hn hA,fun q hq=>Nat.le_trans h.fy.below.size (World.ownsRow.lt hr q hq).1⟩
end onj
set_option maxRecDepth 20000 in
set_option maxHeartbeats 8000000 in
theorem on_any {rs0:List Rn} {U:List (List Nm)} (hphi:phiR rs0≤121) (hU:Closed rs0 U) (hU13:U.length≤13) (hUz:∀ u∈U,u.length≤200) {b c:Nat} (hc:c < 256) (hleft:DoesLn rs0 b c) (w:World) (rs:List Rn) (hb:RtS w b rs) (hg:GrowT rs0 rs) (B:Nat) (v:Value) (X:List ByteArray) (h:SRow w B v X) (hX:VSet rs0 rs U X) :
  Calls Tryz.prog 44 #[.pointer (some ⟨b,0,none⟩),v,.int .i64 (c:Int)] w fun e w'=>∃ v' Y rs',e=.returned v'∧OnJ rs0 U b w rs w' v' Y rs' (derL c (stB rs X)):=by
 obtain ⟨xa,xc,rfl⟩:=h.form
 have hx13:X.length≤13:=Nat.le_trans (hX.len hg) hU13
 have hxI:(X.length:Int)≤13:=by omega
 have hcI:(c:Int) < 256:=by omega
 have HX:=hide h
 have HV:=hide hX
 have HRT:=hide hb
 have HG:=hide hg
 have HPHI:=hide hphi
 have HU:=hide hU
 have HUZ:=hide hUz
 have HU13:=hide hU13
 have HLF:=hide hleft
 have H0:Hid (OnJ rs0 U b w rs w (.slice none 0 0) [] rs (accO rs c X 0)):=⟨⟨Fy.refl _ _,hb,hg,⟨[],by simp⟩,World.ownsRow_nil _ _ _ _,VSet.nil _ _ _,by rw [stB_nil,accO_zero]⟩,fun q hq=>by simp [Value.ownBlock] at hq⟩
 clear h hX hb hg hphi hU hUz hU13 hleft hc hx13
 go_enter Tryz.func44,Tryz.ntmps44
 go_wp2_with fail
 go_loopw [7,8] (fun ov ix wr=>∃ (i:Nat) (oa:Option Addr) (on oc:Nat) (Y:List ByteArray) (rs1:List Rn),ov=.slice oa on oc∧ix=.int .i64 (i:Int)∧Hid (i≤X.length∧OnJ rs0 U b w rs wr (.slice oa on oc) Y rs1 (accO rs c X i))) (fun _ ix _=>X.length - (intOf ix).toNat)
 case atStart=>exact ⟨0,none,0,0,[],rs,rfl,rfl,Nat.zero_le _,unhide H0⟩
 case round =>
  clear H0
  rename World=>wr
  obtain ⟨i,oa,on,oc,Y,rs1,rfl,rfl,HH⟩:=hrel
  obtain ⟨hi,hI⟩:=unhide HH
  have HI1:=hide hI
  by_cases hlt:i < X.length
  ·have hltI:(i:Int) < (X.length:Int):=by omega
   have HLT:=hide hlt
   obtain ⟨g,cap,he,hx⟩:=((unhide HX).fy hI.fy (unhide HRT)).at hlt
   simp only [Value.slice.injEq,true_and] at he
   obtain ⟨rfl,rfl⟩:=he
   have hmem:X.getD i ByteArray.empty∈X:=by rw [List.getD_eq_getElem?_getD,List.getElem?_eq_getElem hlt];exact List.getElem_mem _
   have HIN:=hide ((unhide HV).inu _ hmem)
   have HNM:=hide ((unhide HV).num _ hmem)
   have HSZ:Hid ((X.getD i ByteArray.empty).size≤200):=by
    have:=unhide HUZ _ ((unhide HV).inu _ hmem).2
    unfold nmS at this
    rw [List.length_map,bytesN_len] at this
    exact this
   have HEND:Hid (∀ J,J≤(bytesN (X.getD i ByteArray.empty)).length→(∀ q,q+1 < J→LN rs ((bytesN (X.getD i ByteArray.empty)).getD q 0) [])→(J=(bytesN (X.getD i ByteArray.empty)).length∨(1≤J∧¬LN rs ((bytesN (X.getD i ByteArray.empty)).getD (J - 1) 0) []))→accI rs c X i (bytesN (X.getD i ByteArray.empty)) J=accO rs c X (i+1)):=fun J h1 h2 h3=>accI_end hlt h1 h2 h3
   have HST:Hid (OnJ rs0 U b w rs wr (.slice oa on oc) Y rs1 (accI rs c X i (bytesN (X.getD i ByteArray.empty)) 0)):=by rw [accI_zero];exact hI
   generalize X.getD i ByteArray.empty=s at *
   have hsI:(s.size:Int)≤200:=by have:=unhide HSZ;omega
   clear HH hi hI hlt hmem
   go_wp2_with fail
   go_loopw [7,10] (fun ov jx wy=>∃ (j:Nat) (oa:Option Addr) (on oc:Nat) (Y:List ByteArray) (rs1:List Rn),ov=.slice oa on oc∧jx=.int .i64 (j:Int)∧Hid (j≤s.size∧OnJ rs0 U b w rs wy (.slice oa on oc) Y rs1 (accI rs c X i (bytesN s) j)∧∀ q,q < j→LN rs ((bytesN s).getD q 0) [])) (fun _ jx _=>s.size - (intOf jx).toNat)
   case atStart=>exact ⟨0,oa,on,oc,Y,rs1,rfl,rfl,Nat.zero_le _,unhide HST,fun q hq=>absurd hq (Nat.not_lt_zero _)⟩
   case round =>
    clear HST HI1 hx
    rename World=>wy
    obtain ⟨j,oa,on,oc,Y,rs1,rfl,rfl,HH⟩:=hrel
    obtain ⟨hj,hI,hnul⟩:=unhide HH
    have HI1:=hide hI
    have HNUL:=hide hnul
    by_cases hlt:j < s.size
    ·have hltI:(j:Int) < (s.size:Int):=by omega
     have HJT:=hide hlt
     have hbt:s[j].toNat < 256:=s[j].toNat_lt
     have hbI:(s[j].toNat:Int) < 256:=by omega
     have hkm:s[j].toNat∈bytesN s:=bytesN_memZ s hlt
     have HKN:=hide (unhide HNM _ hkm)
     obtain ⟨x1,hx1⟩:=hI.ex
     have HX1:=hide hx1
     have HC:=hide (unhide HLF s[j].toNat rs1 wy hI.rt hI.gr (by rw [hx1];exact (unhide HNM _ hkm).grow x1))
     have HGD:=hide (getD_byte s hlt)
     clear HH hj hI hnul hbt hkm hx1
     go_wp2_with fail
     refine (unhide HC).mono ?_
     rintro e w1 ⟨lv,Z,rs2,rfl,hk⟩
     generalize s[j].toNat=kk at *
     obtain ⟨la,lc,rfl⟩:=hk.row.form
     have HLN:=hide hk
     have hI2:=(unhide HI1).left hk
     have HGR:=hide hI2.gr
     have HI3:Hid (OnJ rs0 U b w rs w1 (.slice oa on oc) Y rs2 (accM (accI rs c X i (bytesN s) j) rs2 Z ((bytesN s).drop (j+1)) 0)):=by rw [accM_zero];exact hI2
     have HALL:Hid (accM (accI rs c X i (bytesN s) j) rs2 Z ((bytesN s).drop (j+1)) Z.length=accI rs c X i (bytesN s) (j+1)):=by
      obtain ⟨x2,hx2⟩:=hI2.ex
      refine accM_all ?_ ?_
      ·rw [hk.eq,unhide HGD,unhide HX1,LN_app ((unhide HKN).nd (unhide HG))]
      ·rw [hx2]
       exact tmL_app x2 fun q hq=>(unhide HNM q (List.mem_of_mem_drop hq)).nd (unhide HG)
     have hzI:(Z.length:Int)≤12:=by have:=hk.len;omega
     have HEM:Hid (∃ R,Dr rs2 R (kk:Int)∧(LN rs kk []↔nulB R=true)):=by
      obtain ⟨x2,hx2⟩:=hI2.ex
      obtain ⟨R,hR⟩:=(unhide HKN).nd (unhide HG)
      exact ⟨R,by rw [hx2];exact hR.app x2,LN_nul hR⟩
     clear hk hI2 HC HI1
     go_wp2_with fail
     go_loopw [7,13] (fun ov mx wz=>∃ (m:Nat) (oa:Option Addr) (on oc:Nat) (Y:List ByteArray),ov=.slice oa on oc∧mx=.int .i64 (m:Int)∧Hid (m≤Z.length∧Below w1.heap.size w1 wz∧OnJ rs0 U b w rs wz (.slice oa on oc) Y rs2 (accM (accI rs c X i (bytesN s) j) rs2 Z ((bytesN s).drop (j+1)) m))) (fun _ mx _=>Z.length - (intOf mx).toNat)
     case atStart=>exact ⟨0,oa,on,oc,Y,rfl,rfl,Nat.zero_le _,Below.refl _ _,unhide HI3⟩
     case round =>
      clear HI3
      rename World=>wz
      obtain ⟨m,oa,on,oc,Y,rfl,rfl,HH⟩:=hrel
      obtain ⟨hm,hB,hI⟩:=unhide HH
      have HB:=hide hB
      have HI4:=hide hI
      by_cases hlt:m < Z.length
      ·have hltI2:(m:Int) < (Z.length:Int):=by omega
       have HMT:=hide hlt
       obtain ⟨g,cap,he,hx⟩:=((unhide HLN).row.below hB).at hlt
       simp only [Value.slice.injEq,true_and] at he
       obtain ⟨rfl,rfl⟩:=he
       have hmem:Z.getD m ByteArray.empty∈Z:=by rw [List.getD_eq_getElem?_getD,List.getElem?_eq_getElem hlt];exact List.getElem_mem _
       have hsz2:(Z.getD m ByteArray.empty).size+(s.extract (j+1) s.size).size≤9223372036854775807:=by
        have h1:=(unhide HLN).size _ hmem
        have h2:=unhide HSZ
        rw [ByteArray.size_extract]
        omega
       have hyl:Y.length≤10000:=by have h1:=hI.vs.len hI.gr;have h2:=unhide HU13;omega
       have HIN2:Hid (InT rs0 rs2 U (Z.getD m ByteArray.empty++s.extract (j+1) s.size)∧∀ k∈bytesN (Z.getD m ByteArray.empty++s.extract (j+1) s.size),NumOk rs0 rs2 k):=by
        obtain ⟨x2,hx2⟩:=(unhide HLN).ex
        refine step_in (unhide HU) (unhide HX1) hx2 (unhide HIN) (unhide HNM) (by rw [bytesN_len];exact unhide HJT) ((unhide HLN).num _ hmem) ?_
        rw [unhide HGD];exact (unhide HLN).der _ hmem
       have HSU:Hid (∀ x,accM (accI rs c X i (bytesN s) j) rs2 Z ((bytesN s).drop (j+1)) (m+1) x↔accM (accI rs c X i (bytesN s) j) rs2 Z ((bytesN s).drop (j+1)) m x∨tmL rs2 (bytesN (Z.getD m ByteArray.empty++s.extract (j+1) s.size)) x):=fun x=>by
        rw [accM_succ hlt,bytesN_appZ,bytesN_dropZ]
       generalize Z.getD m ByteArray.empty=a at *
       have HWI:Hid (∀ W,Below wz.heap.size wz W→Calls Tryz.prog 80 #[.slice oa on oc,.string (a++s.extract (j+1) s.size)] W fun e w'=>∃ v',e=.returned v'∧SRow w' W.heap.size v' (insS Y (a++s.extract (j+1) s.size))∧Below W.heap.size W w'):=fun W hW=>with_any W 0 _ _ _ (hI.row.below hW) hyl
       have HBA:Hid (Below wz.heap.size wz wz):=Below.refl _ _
       have hjs:(j:Int)+1≤(s.size:Int):=by have:=unhide HJT;omega
       have hjz:(0:Int)≤(j:Int)+1:=by omega
       have hwj:IntKind.i64.wrap ((j:Int)+1)=(j:Int)+1:=by have hs200:=unhide HSZ;unfold IntKind.wrap;simp [IntKind.bits,IntKind.signed];omega
       have hjn:((j:Int)+1).toNat=j+1:=by omega
       have hsz4:¬9223372036854775807 < a.size+(s.size - (j+1)):=by rw [ByteArray.size_extract] at hsz2;omega
       have hsz5:a.size+(s.size - (j+1))≤9223372036854775807:=by omega
       have hsz6:¬9223372036854775807 < a.size+(min s.size s.size - (j+1)):=by rw [Nat.min_self];exact hsz4
       have hsz3:¬a.size+(s.extract (j+1) s.size).size > 9223372036854775807:=by omega
       clear HH hm hB hI hlt hmem hyl
       go_wp2_with fail
       go_region_with (go_at_call 80;refine (unhide HWI _ (by first | exact (unhide HBA).drew | exact unhide HBA)).mono ?_;rintro e w2 ⟨v',rfl,hv,hw2⟩;obtain ⟨va,vc,rfl⟩:=hv.form;have HB2:=hide (((unhide HBA).drew).trans (hw2.mono (by first | exact (unhide HBA).drew.size | exact (unhide HBA).size)));have HV:Hid (SRow w2 wz.heap.size (.slice va _ vc) _):=(by first | exact hv | exact (by simpa using hv));clear hv hw2)
       all_goals
        go_wp2_with fail
        go_roundw
        case rel=>exact ⟨m+1,va,_,vc,_,rfl,by go_num,unhide HMT,(unhide HB).trans ((unhide HB2).mono (unhide HB).size),(unhide HI4).ins (unhide HB2) (unhide HV) (unhide HIN2).1 (unhide HIN2).2 (unhide HSU)⟩
        case measure=>have:=unhide HMT;simp [intOf];omega
      ·have hm2:m=Z.length:=by omega
       subst hm2
       have HI5:Hid (OnJ rs0 U b w rs wz (.slice oa on oc) Y rs2 (accI rs c X i (bytesN s) (j+1))):=by rw [←unhide HALL];exact hI
       obtain ⟨R,hR,hRn⟩:=unhide HEM
       have HRN:=hide hRn
       have HC:=hide (empty_any rs2 (by have h1:=hI.gr.small;have h2:=unhide HPHI;omega) b R _ wz hI.rt hR)
       generalize nulB R=z at *
       clear HH hm hB hI hlt hR hRn HI4
       go_wp2_with fail
       refine (unhide HC).mono ?_
       rintro e w2 ⟨rfl,hw2⟩
       have HI6:=hide ((unhide HI5).below hw2)
       clear hw2 HI5 HC
       cases z
       ·have HEQ:Hid (accI rs c X i (bytesN s) (j+1)=accO rs c X (i+1)):=unhide HEND (j+1) (by rw [bytesN_len];exact unhide HJT) (fun q hq=>unhide HNUL q (by omega)) (.inr ⟨by omega,by
         rw [Nat.add_sub_cancel,unhide HGD,unhide HRN];simp⟩)
        go_wp2_with fail
        go_roundw
        case rel=>exact ⟨i+1,oa,on,oc,Y,rs2,rfl,by go_num,unhide HLT,by rw [←unhide HEQ];exact unhide HI6⟩
        case measure=>have:=unhide HLT;simp [intOf];omega
       ·go_wp2_with fail
        go_roundw
        case rel=>exact ⟨j+1,oa,on,oc,Y,rs2,rfl,by go_num,unhide HJT,unhide HI6,fun q hq=>by
          by_cases e:q=j
          ·subst e;rw [unhide HGD];exact (unhide HRN).2 (by simp)
          ·exact unhide HNUL q (by omega)⟩
        case measure=>have:=unhide HJT;simp [intOf];omega
    ·have hj2:j=s.size:=by omega
     have HEQ:Hid (accI rs c X i (bytesN s) j=accO rs c X (i+1)):=unhide HEND j (by rw [bytesN_len];omega) (fun q hq=>hnul q (by omega)) (.inl (by rw [bytesN_len];exact hj2))
     subst hj2
     clear HH hj hI hnul hlt
     go_wp2_with fail
     go_roundw
     case rel=>exact ⟨i+1,oa,on,oc,Y,rs1,rfl,by go_num,unhide HLT,by rw [←unhide HEQ];exact unhide HI1⟩
     case measure=>have:=unhide HLT;simp [intOf];omega
  ·have hi2:i=X.length:=by omega
   subst hi2
   clear HH hi hI hlt
   go_wp2_with fail
   go_ret
   exact ⟨_,Y,rs1,rfl,by rw [←accO_all];exact unhide HI1⟩
end Go.Proofs.YtobfpgoepaeknaaGreat
namespace Go.Proofs.YtobfpgoepaeknaaGreat
open Go.RowKit
set_option maxRecDepth 20000 in
set_option maxHeartbeats 2000000 in
theorem left_opt {rs0:List Rn} (hphi:phiR rs0≤121) (hwf:WfT rs0) {b c:Nat} (hc:c < 256) {a:Re} (iha:DoesLf rs0 b c a):DoesLf rs0 b c (.opt a):=by
  have HPHI:=hide hphi
  have HWF:=hide hwf
  intro kn w rs hwt hd hb hg
  obtain ⟨r,h0,h1,hk,ha⟩:=hd.optE
  clear hd
  have HWA:Hid (a.wt≤12):=hwt
  have hmem:∃ e,rs=rs0++e:=hg.gr.pre
  obtain ⟨e0,he0⟩:=hmem
  rw [Int.toNat_natCast] at h1
  have h1':rs[kn]?=some r:=by rw [he0];exact getElem?_app h1 e0
  have hbl:=RtS_lt hb
  have hsm:=hg.small
  have hl':(rs.length:Int)≤121:=by have:=unhide HPHI;omega
  have hcI:(c:Int) < 256:=by omega
  obtain ⟨g,cap,hkl',c0,hcc⟩:=nd_begin hb h1'
  have HL:=hide hcc
  have HN1:=hide (heap_alloc_new w (Obj.cells Tryz.zeroCells151 151))
  have hbt:Below w.heap.size w ((w.alloc (Obj.cells Tryz.zeroCells151 151)).setRow w.heap.size (rnA r)):=below_setRow ((Below.refl _ _).alloc (Nat.le_refl _) _) (Nat.le_refl _) _
  have HNL:=hide (Nl.start hb r)
  have HF0:=hide (Fy.ofBelow hbt hbl)
  have HRT2:=hide (RtS_below hb hbt)
  have HG:=hide hg
  obtain ⟨x0,x1,x2,x3,x4⟩:=nd_cells w r
  rw [hk] at x0
  have HKR:Hid (kn < rs0.length∧rs0[kn]?=some r):=⟨(List.getElem?_eq_some_iff.1 h1).1,h1⟩
  have HE0:=hide he0
  have HC256:=hide hc
  clear hbt hb h1 h1' h0 hcc hg hsm he0 hbl hc hphi hwf hwt
  obtain ⟨ln,hln⟩:∃ ln:Nat,r.l=(ln:Int):=⟨r.l.toNat,(toNat_cast ha.nonneg).symm⟩
  have hkl:kidL rs0 kn=ln:=by rw [kidL_of (unhide HKR).2,hln,Int.toNat_natCast]
  rw [hln] at ha x1
  have HLN:=hide hln
  have HKL:=hide hkl
  have HDA:=hide ha
  have IHA:=hide iha
  clear ha iha hln hkl
  go_enter Tryz.func79,Tryz.ntmps79
  go_upto_region 2 with (first
   | refine wpList_load_mid rfl 151 _ rfl ⟨g,kn * 261,none⟩ rfl (rnA r) (unhide HL) _ Tryz.underlying151 rfl (by rw [size_rnA];exact info78) ?_
   | refine wpList_store_row0 rfl 151 _ _ rfl rfl w.heap.size _ rfl rfl 151 _ (unhide HN1) (by rw [size_rnA];exact info78) (by rw [zero78,size_rnA,size_rnA]) (rnA_one _) ?_)
  clear HL HN1 c0
  go_wp2_with fail
  refine (unhide IHA ln _ rs (unhide HWA) (unhide HDA) (unhide HRT2) (unhide HG)).mono ?_
  rintro e w1 ⟨v1,X1,rs1,rfl,k1⟩
  have HK1:=hide k1
  have HN2:=hide ((unhide HNL).next k1.fy)
  have HF1:=hide ((unhide HF0).trans k1.fy)
  obtain ⟨va1,vc1,rfl⟩:=k1.row.form
  obtain ⟨z0,z1,z2,z3,z4⟩:=(unhide HN2).cells
  rw [hk] at z0
  rw [unhide HLN] at z1
  have hX1:X1.length≤12:=by
   have q1:=k1.vs.len k1.gr
   have q2:=uni_len rs0 a ln
   have:=unhide HWA
   omega
  have HX1:=hide hX1
  have HSZ1:Hid (∀ s∈X1,s.size≤100000):=fun s hs=>by
   have q1:=k1.vs.size s hs
   have q2:=rdep_le (unhide HWF) (unhide HDA)
   have q3:=Dr.lt0 (unhide HDA)
   have q4:=phi_len rs0
   have q5:=unhide HPHI
   omega
  clear x0 x1 x2 x3 x4 k1 hX1
  go_wp2_with fail
  go_ret
  refine ⟨_,X1,rs1,rfl,unhide HF1,(unhide HK1).rt,(unhide HK1).gr,(unhide HK1).ex,(unhide HK1).row,?_,?_⟩
  ·show VSet rs0 rs1 (uni rs0 a (kidL rs0 kn)) X1
   rw [unhide HKL];exact (unhide HK1).vs
  ·rw [(unhide HK1).eq];exact (der_opt c a.L).symm
set_option maxRecDepth 20000 in
set_option maxHeartbeats 2000000 in
theorem left_alt {rs0:List Rn} (hphi:phiR rs0≤121) (hwf:WfT rs0) {b c:Nat} (hc:c < 256) {a d:Re} (iha:DoesLf rs0 b c a) (ihb:DoesLf rs0 b c d):DoesLf rs0 b c (.alt a d):=by
  have HPHI:=hide hphi
  have HWF:=hide hwf
  intro kn w rs hwt hd hb hg
  obtain ⟨r,h0,h1,hk,ha,hb2⟩:=hd.altE
  clear hd
  have HWA:Hid (a.wt≤12):=by have:=Re.wt_pos d;rw [Re.wt_alt] at hwt;show _≤_;omega
  have HWB:Hid (d.wt≤12):=by have:=Re.wt_pos a;rw [Re.wt_alt] at hwt;show _≤_;omega
  have hmem:∃ e,rs=rs0++e:=hg.gr.pre
  obtain ⟨e0,he0⟩:=hmem
  rw [Int.toNat_natCast] at h1
  have h1':rs[kn]?=some r:=by rw [he0];exact getElem?_app h1 e0
  have hbl:=RtS_lt hb
  have hsm:=hg.small
  have hl':(rs.length:Int)≤121:=by have:=unhide HPHI;omega
  have hcI:(c:Int) < 256:=by omega
  obtain ⟨g,cap,hkl',c0,hcc⟩:=nd_begin hb h1'
  have HL:=hide hcc
  have HN1:=hide (heap_alloc_new w (Obj.cells Tryz.zeroCells151 151))
  have hbt:Below w.heap.size w ((w.alloc (Obj.cells Tryz.zeroCells151 151)).setRow w.heap.size (rnA r)):=below_setRow ((Below.refl _ _).alloc (Nat.le_refl _) _) (Nat.le_refl _) _
  have HNL:=hide (Nl.start hb r)
  have HF0:=hide (Fy.ofBelow hbt hbl)
  have HRT2:=hide (RtS_below hb hbt)
  have HG:=hide hg
  obtain ⟨x0,x1,x2,x3,x4⟩:=nd_cells w r
  rw [hk] at x0
  have HKR:Hid (kn < rs0.length∧rs0[kn]?=some r):=⟨(List.getElem?_eq_some_iff.1 h1).1,h1⟩
  have HE0:=hide he0
  have HC256:=hide hc
  clear hbt hb h1 h1' h0 hcc hg hsm he0 hbl hc hphi hwf hwt
  obtain ⟨ln,hln⟩:∃ ln:Nat,r.l=(ln:Int):=⟨r.l.toNat,(toNat_cast ha.nonneg).symm⟩
  have hkl:kidL rs0 kn=ln:=by rw [kidL_of (unhide HKR).2,hln,Int.toNat_natCast]
  rw [hln] at ha x1
  have HLN:=hide hln
  have HKL:=hide hkl
  have HDA:=hide ha
  have IHA:=hide iha
  obtain ⟨qn,hqn⟩:∃ qn:Nat,r.r=(qn:Int):=⟨r.r.toNat,(toNat_cast hb2.nonneg).symm⟩
  have hkr:kidR rs0 kn=qn:=by rw [kidR_of (unhide HKR).2,hqn,Int.toNat_natCast]
  rw [hqn] at hb2 x2
  have HQN:=hide hqn
  have HKRR:=hide hkr
  have HDB:=hide hb2
  have IHB:=hide ihb
  clear ha iha hln hkl hb2 ihb hqn hkr
  go_enter Tryz.func79,Tryz.ntmps79
  go_upto_region 2 with (first
   | refine wpList_load_mid rfl 151 _ rfl ⟨g,kn * 261,none⟩ rfl (rnA r) (unhide HL) _ Tryz.underlying151 rfl (by rw [size_rnA];exact info78) ?_
   | refine wpList_store_row0 rfl 151 _ _ rfl rfl w.heap.size _ rfl rfl 151 _ (unhide HN1) (by rw [size_rnA];exact info78) (by rw [zero78,size_rnA,size_rnA]) (rnA_one _) ?_)
  clear HL HN1 c0
  go_wp2_with fail
  refine (unhide IHA ln _ rs (unhide HWA) (unhide HDA) (unhide HRT2) (unhide HG)).mono ?_
  rintro e w1 ⟨v1,X1,rs1,rfl,k1⟩
  have HK1:=hide k1
  have HN2:=hide ((unhide HNL).next k1.fy)
  have HF1:=hide ((unhide HF0).trans k1.fy)
  obtain ⟨va1,vc1,rfl⟩:=k1.row.form
  obtain ⟨z0,z1,z2,z3,z4⟩:=(unhide HN2).cells
  rw [hk] at z0
  rw [unhide HLN] at z1
  have hX1:X1.length≤12:=by
   have q1:=k1.vs.len k1.gr
   have q2:=uni_len rs0 a ln
   have:=unhide HWA
   omega
  have HX1:=hide hX1
  have HSZ1:Hid (∀ s∈X1,s.size≤100000):=fun s hs=>by
   have q1:=k1.vs.size s hs
   have q2:=rdep_le (unhide HWF) (unhide HDA)
   have q3:=Dr.lt0 (unhide HDA)
   have q4:=phi_len rs0
   have q5:=unhide HPHI
   omega
  clear x0 x1 x2 x3 x4 k1 hX1
  rw [unhide HQN] at z2
  go_wp2_with fail
  refine (unhide IHB qn _ rs1 (unhide HWB) (unhide HDB) (unhide HK1).rt (unhide HK1).gr).mono ?_
  rintro e w2 ⟨v2,X2,rs2,rfl,k2⟩
  have HK2:=hide k2
  have HF2:=hide ((unhide HF1).trans k2.fy)
  obtain ⟨va2,vc2,rfl⟩:=k2.row.form
  have hX2:X2.length≤12:=by
   have q1:=k2.vs.len k2.gr
   have q2:=uni_len rs0 d qn
   have:=unhide HWB
   omega
  have HR1:=hide ((unhide HK1).row.fy k2.fy (unhide HK1).rt)
  have HBO:=hide (both_any w2 0 0 _ _ X1 X2 (unhide HR1) k2.row (by have:=unhide HX1;omega))
  clear k2 hX2 z0 z1 z2 z3 z4
  go_wp2_with fail
  refine (unhide HBO).mono ?_
  rintro e w3 ⟨v3,rfl,hv3,hw3⟩
  have HV3:=hide hv3
  have HW3:=hide hw3
  obtain ⟨va3,vc3,rfl⟩:=hv3.form
  clear hv3 hw3
  go_wp2_with fail
  go_ret
  obtain ⟨x2,hx2⟩:=(unhide HK2).ex
  refine ⟨_,bothS X1 X2,rs2,rfl,(unhide HF2).trans (Fy.ofBelow (unhide HW3) (RtS_lt (unhide HK2).rt)),RtS_below (unhide HK2).rt (unhide HW3),(unhide HK2).gr,grow_trans (unhide HK1).ex ⟨x2,hx2⟩,unhide HV3,?_,?_⟩
  ·have q1:VSet rs0 rs2 (uni rs0 a ln) X1:=by rw [hx2];exact (unhide HK1).vs.grow x2
   simp only [uni_alt,unhide HKL,unhide HKRR]
   exact q1.both (unhide HK2).vs (fun u hu=>List.mem_append_left _ hu) (fun u hu=>List.mem_append_right _ hu)
  ·have q2:stB rs2 X1=derL c a.L:=by rw [hx2,stB_app (unhide HK1).gr (unhide HK1).vs x2];exact (unhide HK1).eq
   rw [stB_both,q2,(unhide HK2).eq];rfl
end Go.Proofs.YtobfpgoepaeknaaGreat
namespace Go.Proofs.YtobfpgoepaeknaaGreat
open Go.RowKit
set_option maxRecDepth 20000 in
set_option maxHeartbeats 2000000 in
theorem left_star {rs0:List Rn} (hphi:phiR rs0≤121) (hwf:WfT rs0) {b c:Nat} (hc:c < 256) {a:Re} (iha:DoesLf rs0 b c a):DoesLf rs0 b c (.star a):=by
  have HPHI:=hide hphi
  have HWF:=hide hwf
  intro kn w rs hwt hd hb hg
  have HD0:=hide hd
  obtain ⟨r,h0,h1,hk,ha⟩:=hd.starE
  clear hd
  have HWA:Hid (a.wt≤12):=hwt
  have hmem:∃ e,rs=rs0++e:=hg.gr.pre
  obtain ⟨e0,he0⟩:=hmem
  rw [Int.toNat_natCast] at h1
  have h1':rs[kn]?=some r:=by rw [he0];exact getElem?_app h1 e0
  have hbl:=RtS_lt hb
  have hsm:=hg.small
  have hl':(rs.length:Int)≤121:=by have:=unhide HPHI;omega
  have hcI:(c:Int) < 256:=by omega
  obtain ⟨g,cap,hkl',c0,hcc⟩:=nd_begin hb h1'
  have HL:=hide hcc
  have HN1:=hide (heap_alloc_new w (Obj.cells Tryz.zeroCells151 151))
  have hbt:Below w.heap.size w ((w.alloc (Obj.cells Tryz.zeroCells151 151)).setRow w.heap.size (rnA r)):=below_setRow ((Below.refl _ _).alloc (Nat.le_refl _) _) (Nat.le_refl _) _
  have HNL:=hide (Nl.start hb r)
  have HF0:=hide (Fy.ofBelow hbt hbl)
  have HRT2:=hide (RtS_below hb hbt)
  have HG:=hide hg
  obtain ⟨x0,x1,x2,x3,x4⟩:=nd_cells w r
  rw [hk] at x0
  have HKR:Hid (kn < rs0.length∧rs0[kn]?=some r):=⟨(List.getElem?_eq_some_iff.1 h1).1,h1⟩
  have HE0:=hide he0
  have HC256:=hide hc
  clear hbt hb h1 h1' h0 hcc hg hsm he0 hbl hc hphi hwf hwt
  obtain ⟨ln,hln⟩:∃ ln:Nat,r.l=(ln:Int):=⟨r.l.toNat,(toNat_cast ha.nonneg).symm⟩
  have hkl:kidL rs0 kn=ln:=by rw [kidL_of (unhide HKR).2,hln,Int.toNat_natCast]
  rw [hln] at ha x1
  have HLN:=hide hln
  have HKL:=hide hkl
  have HDA:=hide ha
  have IHA:=hide iha
  clear ha iha hln hkl
  have HK256:Hid (kn < 256):=by
   have q3:=(unhide HKR).1
   have q4:=phi_len rs0
   have q5:=unhide HPHI
   show _ < _
   omega
  go_enter Tryz.func79,Tryz.ntmps79
  go_upto_region 2 with (first
   | refine wpList_load_mid rfl 151 _ rfl ⟨g,kn * 261,none⟩ rfl (rnA r) (unhide HL) _ Tryz.underlying151 rfl (by rw [size_rnA];exact info78) ?_
   | refine wpList_store_row0 rfl 151 _ _ rfl rfl w.heap.size _ rfl rfl 151 _ (unhide HN1) (by rw [size_rnA];exact info78) (by rw [zero78,size_rnA,size_rnA]) (rnA_one _) ?_)
  clear HL HN1 c0
  go_wp2_with fail
  refine (unhide IHA ln _ rs (unhide HWA) (unhide HDA) (unhide HRT2) (unhide HG)).mono ?_
  rintro e w1 ⟨v1,X1,rs1,rfl,k1⟩
  have HK1:=hide k1
  have HN2:=hide ((unhide HNL).next k1.fy)
  have HF1:=hide ((unhide HF0).trans k1.fy)
  obtain ⟨va1,vc1,rfl⟩:=k1.row.form
  obtain ⟨z0,z1,z2,z3,z4⟩:=(unhide HN2).cells
  rw [hk] at z0
  rw [unhide HLN] at z1
  have hX1:X1.length≤12:=by
   have q1:=k1.vs.len k1.gr
   have q2:=uni_len rs0 a ln
   have:=unhide HWA
   omega
  have HX1:=hide hX1
  have HSZ1:Hid (∀ s∈X1,s.size≤100000):=fun s hs=>by
   have q1:=k1.vs.size s hs
   have q2:=rdep_le (unhide HWF) (unhide HDA)
   have q3:=Dr.lt0 (unhide HDA)
   have q4:=phi_len rs0
   have q5:=unhide HPHI
   omega
  clear x0 x1 x2 x3 x4 k1 hX1
  have HBE:=hide (before_any w1 0 _ X1 kn (unhide HK1).row (by have:=unhide HX1;omega) (unhide HK256) (unhide HSZ1))
  go_wp2_with fail
  refine (unhide HBE).mono ?_
  rintro e w2 ⟨v2,rfl,hv2,hw2⟩
  have HV2:=hide hv2
  have HW2:=hide hw2
  obtain ⟨va2,vc2,rfl⟩:=hv2.form
  clear hv2 hw2
  go_wp2_with fail
  go_ret
  have hl1:=(unhide HK1).gr.gr.len
  have hnm:nmOf rs0 rs1 kn=.o kn:=by unfold nmOf;rw [if_pos (unhide HKR).1]
  refine ⟨_,befS X1 kn,rs1,rfl,(unhide HF1).trans (Fy.ofBelow (unhide HW2) (RtS_lt (unhide HK1).rt)),RtS_below (unhide HK1).rt (unhide HW2),(unhide HK1).gr,(unhide HK1).ex,unhide HV2,?_,?_⟩
  ·simp only [uni_star,unhide HKL]
   refine (unhide HK1).vs.bef (.inl ⟨(unhide HKR).1,_,unhide HD0,unhide HWA⟩) (by have:=(unhide HKR).1;omega) (unhide HK256) (fun u hu=>?_)
   rw [hnm];exact List.mem_map.2 ⟨u,hu,rfl⟩
  ·obtain ⟨x1',hx1'⟩:=(unhide HK1).gr.gr.pre
   have hd1:Dr rs1 (.star a) (kn:Int):=by rw [hx1'];exact (unhide HD0).app x1'
   rw [stB_bef _ _ (unhide HK256),LN_eq hd1,(unhide HK1).eq]
   exact (der_star c a.L).symm
set_option maxRecDepth 20000 in
set_option maxHeartbeats 2000000 in
theorem left_plus {rs0:List Rn} (hphi:phiR rs0≤121) (hwf:WfT rs0) {b c:Nat} (hc:c < 256) {a:Re} (iha:DoesLf rs0 b c a):DoesLf rs0 b c (.plus a):=by
  have HPHI:=hide hphi
  have HWF:=hide hwf
  intro kn w rs hwt hd hb hg
  obtain ⟨r,h0,h1,hk,ha⟩:=hd.plusE
  clear hd
  have HWA:Hid (a.wt≤12):=hwt
  have HCT:Hid (Nm.x 5 ((r.l.toNat:Nat):Int) 0 0∈ctsT rs0):=cts_plus (by rw [Int.toNat_natCast] at h1;exact h1) hk ha
  have hmem:∃ e,rs=rs0++e:=hg.gr.pre
  obtain ⟨e0,he0⟩:=hmem
  rw [Int.toNat_natCast] at h1
  have h1':rs[kn]?=some r:=by rw [he0];exact getElem?_app h1 e0
  have hbl:=RtS_lt hb
  have hsm:=hg.small
  have hl':(rs.length:Int)≤121:=by have:=unhide HPHI;omega
  have hcI:(c:Int) < 256:=by omega
  obtain ⟨g,cap,hkl',c0,hcc⟩:=nd_begin hb h1'
  have HL:=hide hcc
  have HN1:=hide (heap_alloc_new w (Obj.cells Tryz.zeroCells151 151))
  have hbt:Below w.heap.size w ((w.alloc (Obj.cells Tryz.zeroCells151 151)).setRow w.heap.size (rnA r)):=below_setRow ((Below.refl _ _).alloc (Nat.le_refl _) _) (Nat.le_refl _) _
  have HNL:=hide (Nl.start hb r)
  have HF0:=hide (Fy.ofBelow hbt hbl)
  have HRT2:=hide (RtS_below hb hbt)
  have HG:=hide hg
  obtain ⟨x0,x1,x2,x3,x4⟩:=nd_cells w r
  rw [hk] at x0
  have HKR:Hid (kn < rs0.length∧rs0[kn]?=some r):=⟨(List.getElem?_eq_some_iff.1 h1).1,h1⟩
  have HE0:=hide he0
  have HC256:=hide hc
  clear hbt hb h1 h1' h0 hcc hg hsm he0 hbl hc hphi hwf hwt
  obtain ⟨ln,hln⟩:∃ ln:Nat,r.l=(ln:Int):=⟨r.l.toNat,(toNat_cast ha.nonneg).symm⟩
  have hkl:kidL rs0 kn=ln:=by rw [kidL_of (unhide HKR).2,hln,Int.toNat_natCast]
  rw [hln] at ha x1
  have HLN:=hide hln
  have HKL:=hide hkl
  have HDA:=hide ha
  have IHA:=hide iha
  rw [hln,Int.toNat_natCast] at HCT
  clear ha iha hln hkl
  go_enter Tryz.func79,Tryz.ntmps79
  go_upto_region 2 with (first
   | refine wpList_load_mid rfl 151 _ rfl ⟨g,kn * 261,none⟩ rfl (rnA r) (unhide HL) _ Tryz.underlying151 rfl (by rw [size_rnA];exact info78) ?_
   | refine wpList_store_row0 rfl 151 _ _ rfl rfl w.heap.size _ rfl rfl 151 _ (unhide HN1) (by rw [size_rnA];exact info78) (by rw [zero78,size_rnA,size_rnA]) (rnA_one _) ?_)
  clear HL HN1 c0
  go_wp2_with fail
  refine (unhide IHA ln _ rs (unhide HWA) (unhide HDA) (unhide HRT2) (unhide HG)).mono ?_
  rintro e w1 ⟨v1,X1,rs1,rfl,k1⟩
  have HK1:=hide k1
  have HN2:=hide ((unhide HNL).next k1.fy)
  have HF1:=hide ((unhide HF0).trans k1.fy)
  obtain ⟨va1,vc1,rfl⟩:=k1.row.form
  obtain ⟨z0,z1,z2,z3,z4⟩:=(unhide HN2).cells
  rw [hk] at z0
  rw [unhide HLN] at z1
  have hX1:X1.length≤12:=by
   have q1:=k1.vs.len k1.gr
   have q2:=uni_len rs0 a ln
   have:=unhide HWA
   omega
  have HX1:=hide hX1
  have HSZ1:Hid (∀ s∈X1,s.size≤100000):=fun s hs=>by
   have q1:=k1.vs.size s hs
   have q2:=rdep_le (unhide HWF) (unhide HDA)
   have q3:=Dr.lt0 (unhide HDA)
   have q4:=phi_len rs0
   have q5:=unhide HPHI
   omega
  clear x0 x1 x2 x3 x4 k1 hX1
  have HZ:Hid ((Tryz.zeroCells151.setIfInBounds 0 (.int .i64 5)).setIfInBounds 1 (.int .i64 (ln:Int))=rnA ⟨5,(ln:Int),0,0,0,noSet⟩):=by show _=_;rw [zero78,rnA_kind,rnA_l]
  have HFI:=hide (find_any w1 b rs1 ⟨5,(ln:Int),0,0,0,noSet⟩ (unhide HK1).rt (by have:=(unhide HK1).gr.small;have:=unhide HPHI;omega))
  go_wp2_with fail
  rw [unhide HZ]
  refine (unhide HFI).mono ?_
  rintro e w2 ⟨i,rs2,rfl,hf2,hr2,hfs⟩
  obtain ⟨g1,g2,g3,g4,g5,g6⟩:=found_star (unhide HK1).gr (unhide HDA) (unhide HWA) (unhide HCT) hfs
  have HG1:=hide g1
  have HG2:=hide g2
  have HG3:=hide g3
  have HG4:=hide g4
  have HG5:=hide g5
  have HG6:=hide g6
  have HF2:=hide ((unhide HF1).trans hf2)
  have HR2:=hide hr2
  have HI256:Hid (i < 256):=by have:=g1.small;have:=unhide HPHI;show _ < _;omega
  have HS2:=hide ((unhide HK1).row.fy hf2 (unhide HK1).rt)
  have HBE:=hide (before_any w2 0 _ X1 i (unhide HS2) (by have:=unhide HX1;omega) (unhide HI256) (unhide HSZ1))
  have HX2:Hid (VSet rs0 rs2 (uni rs0 a ln) X1∧stB rs2 X1=derL c a.L):=by
   obtain ⟨x2,hx2⟩:=g2
   rw [hx2]
   exact ⟨(unhide HK1).vs.grow x2,by rw [stB_app (unhide HK1).gr (unhide HK1).vs x2];exact (unhide HK1).eq⟩
  clear g1 g2 g3 g4 g5 g6 hf2 hr2 hfs
  go_wp2_with fail
  refine (unhide HBE).mono ?_
  rintro e w3 ⟨v3,rfl,hv3,hw3⟩
  have HV3:=hide hv3
  have HW3:=hide hw3
  obtain ⟨va3,vc3,rfl⟩:=hv3.form
  clear hv3 hw3
  go_wp2_with fail
  go_ret
  refine ⟨_,befS X1 i,rs2,rfl,(unhide HF2).trans (Fy.ofBelow (unhide HW3) (RtS_lt (unhide HR2))),RtS_below (unhide HR2) (unhide HW3),unhide HG1,grow_trans (unhide HK1).ex (unhide HG2),unhide HV3,?_,?_⟩
  ·simp only [uni_plus,unhide HKL]
   refine (unhide HX2).1.bef (unhide HG5) (unhide HG3) (unhide HI256) (fun u hu=>?_)
   rw [unhide HG4];exact List.mem_map.2 ⟨u,hu,rfl⟩
  ·rw [stB_bef _ _ (unhide HI256),LN_eq (unhide HG6),(unhide HX2).2]
   exact (der_plus c a.L).symm
end Go.Proofs.YtobfpgoepaeknaaGreat
