/-
  Plain mathematics: how long terms can be; sets of terms that are right; what they stand for.
  Sets of terms: what is joined, what stands before a part.
  The document's answer: what is left of a part behind a byte.
  The document's answer: what left answers at a node, whichever.
-/
import Derived.Test.YtobfpgoepaeknaaGreatTA10
import Derived.Test.YtobfpgoepaeknaaGreatTA08
import Derived.Test.YtobfpgoepaeknaaGreatTA09
import Derived.Deep.DeepCutAuto
namespace Go.Proofs.YtobfpgoepaeknaaGreat
def WfT (rs:List Rn):Prop:=∀ (k:Nat) (r:Rn),rs[k]?=some r→(3≤r.kind→0≤r.l∧r.l < (k:Int))∧((r.kind=3∨r.kind=4)→0≤r.r∧r.r < (k:Int))
theorem WfT.snoc {rs:List Rn} (h:WfT rs) (n:Rn) (h1:3≤n.kind→0≤n.l∧n.l < (rs.length:Int)) (h2:(n.kind=3∨n.kind=4)→0≤n.r∧n.r < (rs.length:Int)):WfT (rs++[n]):=fun k r hk=>by
 rcases get_snoc hk with g | ⟨rfl,rfl⟩
 ·exact h k r g
 ·exact ⟨h1,h2⟩
theorem leafS_kind {p:ByteArray} {r:Rn} (h:leafS p=some r):r.kind=2:=by
 unfold leafS at h
 split at h
 ·split at h
  ·cases h;rfl
  ·split at h
   ·split at h
    ·split at h
     ·rw [Option.bind_eq_some_iff] at h
      obtain ⟨f,_,h⟩:=h
      cases h;rfl
     ·rw [Option.bind_eq_some_iff] at h
      obtain ⟨f,_,h⟩:=h
      cases h;rfl
    ·cases h
   ·rw [Option.bind_eq_some_iff] at h
    obtain ⟨f,_,h⟩:=h
    cases h;rfl
 ·cases h
theorem rfF_wf:∀ (n tag:Nat) (p:ByteArray) (a:Nat) (l:Int) (rs:List Rn) (r:List Rn × Int),rfF n tag p a l rs=some r→WfT rs→(tag=3→0≤l∧l < (rs.length:Int))→WfT r.1∧0≤r.2∧r.2 < (r.1.length:Int):=by
 intro n
 induction n with
 | zero=>intro tag p a l rs r h;simp [rfF] at h
 | succ n ih =>
  intro tag p a l rs r h hw hl
  have len1:∀ (x:List Rn) (y:Rn),((x++[y]).length:Int)=(x.length:Int)+1:=fun x y=>by simp
  match tag with
  | 0 =>
   simp only [rfF] at h
   exact ih 1 _ _ _ _ _ h hw (fun e=>by cases e)
  | 1 =>
   simp only [rfF] at h
   split at h
   ·rw [Option.bind_eq_some_iff] at h
    obtain ⟨j,_,h⟩:=h
    exact ih 1 _ _ _ _ _ h hw (fun e=>by cases e)
   ·split at h
    ·rw [Option.bind_eq_some_iff] at h
     obtain ⟨x,hx,h⟩:=h
     obtain ⟨g1,g2,g3⟩:=ih 2 _ _ _ _ _ hx hw (fun e=>by cases e)
     split at h
     ·simp only [Option.some.injEq] at h;subst h;exact ⟨g1,g2,g3⟩
     ·rw [Option.bind_eq_some_iff] at h
      obtain ⟨y,hy,h⟩:=h
      obtain ⟨q1,q2,q3⟩:=ih 0 _ _ _ _ _ hy g1 (fun e=>by cases e)
      have hg:=rfF_grows _ _ _ _ _ _ _ hy
      simp only [Option.some.injEq] at h;subst h
      refine ⟨q1.snoc _ (fun _=>⟨g2,by show x.2 < _;omega⟩) (fun _=>⟨q2,q3⟩),by show (0:Int)≤(y.1.length:Int);omega,?_⟩
      show (y.1.length:Int) < ((y.1++[_]).length:Int)
      rw [len1];omega
    ·cases h
  | 2 =>
   simp only [rfF] at h
   split at h
   ·simp only [Option.some.injEq] at h;subst h
    refine ⟨hw.snoc _ (fun e=>absurd e (by show ¬(3:Int)≤1;omega)) (fun e=>absurd e (by show ¬((1:Int)=3∨(1:Int)=4);omega)),by show (0:Int)≤(rs.length:Int);omega,?_⟩
    show (rs.length:Int) < ((rs++[_]).length:Int)
    rw [len1];omega
   ·rw [Option.bind_eq_some_iff] at h
    obtain ⟨j,_,h⟩:=h
    split at h
    ·rw [Option.bind_eq_some_iff] at h
     obtain ⟨x,hx,h⟩:=h
     obtain ⟨g1,g2,g3⟩:=ih 4 _ _ _ _ _ hx hw (fun e=>by cases e)
     exact ih 3 _ _ _ _ _ h g1 (fun _=>⟨g2,g3⟩)
    ·cases h
  | 3 =>
   obtain ⟨l0,l1⟩:=hl rfl
   have one:∀ (k m q:Int),3 < k→k≠4→WfT (rs++[⟨k,l,0,m,q,noSet⟩]):=fun k m q h3 h4=>hw.snoc _ (fun _=>⟨l0,l1⟩) (fun e=>absurd e (by show ¬(k=3∨k=4);omega))
   have nx:∀ y:Rn,(0:Int)≤(rs.length:Int)∧(rs.length:Int) < ((rs++[y]).length:Int):=fun y=>by rw [len1];omega
   simp only [rfF] at h
   split at h
   ·exact ih 3 _ _ _ _ _ h (one 5 0 0 (by omega) (by omega)) (fun _=>nx _)
   ·split at h
    ·exact ih 3 _ _ _ _ _ h (one 6 0 0 (by omega) (by omega)) (fun _=>nx _)
    ·split at h
     ·exact ih 3 _ _ _ _ _ h (one 7 0 0 (by omega) (by omega)) (fun _=>nx _)
     ·split at h
      ·split at h
       ·exact ih 3 _ _ _ _ _ h (one 8 _ _ (by omega) (by omega)) (fun _=>nx _)
       ·cases h
      ·split at h
       ·simp only [Option.some.injEq] at h;subst h;exact ⟨hw,l0,l1⟩
       ·split at h
        ·rw [Option.bind_eq_some_iff] at h
         obtain ⟨y,hy,h⟩:=h
         obtain ⟨q1,q2,q3⟩:=ih 2 _ _ _ _ _ hy hw (fun e=>by cases e)
         have hg:=rfF_grows _ _ _ _ _ _ _ hy
         simp only [Option.some.injEq] at h;subst h
         refine ⟨q1.snoc _ (fun _=>⟨l0,by show l < _;omega⟩) (fun _=>⟨q2,q3⟩),by show (0:Int)≤(y.1.length:Int);omega,?_⟩
         show (y.1.length:Int) < ((y.1++[_]).length:Int)
         rw [len1];omega
        ·cases h
  | t+4 =>
   simp only [rfF] at h
   split at h
   ·split at h
    ·exact ih 0 _ _ _ _ _ h hw (fun e=>by cases e)
    ·cases h
   ·rw [Option.bind_eq_some_iff] at h
    obtain ⟨x,hx,h⟩:=h
    have hk:=leafS_kind hx
    simp only [Option.some.injEq] at h;subst h
    refine ⟨hw.snoc _ (fun e=>by omega) (fun e=>by omega),by show (0:Int)≤(rs.length:Int);omega,?_⟩
    show (rs.length:Int) < ((rs++[_]).length:Int)
    rw [len1];omega
def rdep:Re→Nat:=Re.fold ⟨0,fun _=>0,fun a b=>max (a+1) b,fun a b=>max a b,fun a=>a+1,fun a=>a+1,fun a=>a,fun _ _ a=>a+1⟩
theorem rdep_seq (a b:Re):rdep (.seq a b)=max (rdep a+1) (rdep b):=rfl
theorem rdep_alt (a b:Re):rdep (.alt a b)=max (rdep a) (rdep b):=rfl
theorem rdep_star (a:Re):rdep (.star a)=rdep a+1:=rfl
theorem rdep_plus (a:Re):rdep (.plus a)=rdep a+1:=rfl
theorem rdep_opt (a:Re):rdep (.opt a)=rdep a:=rfl
theorem rdep_times (m n:Nat) (a:Re):rdep (.times m n a)=rdep a+1:=rfl
theorem uni_dep (rs0:List Rn) (R:Re):∀ k:Nat,∀ τ∈uni rs0 R k,τ.length≤rdep R:=by
 induction R using Re.ind with
 | blank=>intro k τ h;cases h
 | set f =>
  intro k τ h
  rw [uni_set,List.mem_singleton] at h
  subst h;exact Nat.zero_le _
 | seq a b iha ihb =>
  intro k τ h
  rw [uni_seq] at h
  rw [rdep_seq]
  rcases List.mem_append.1 h with h | h
  ·obtain ⟨σ,h1,rfl⟩:=List.mem_map.1 h
   have:=iha _ σ h1
   simp;omega
  ·have:=ihb _ τ h
   omega
 | alt a b iha ihb =>
  intro k τ h
  rw [uni_alt] at h
  rw [rdep_alt]
  rcases List.mem_append.1 h with h | h
  ·have:=iha _ τ h;omega
  ·have:=ihb _ τ h;omega
 | star a iha =>
  intro k τ h
  rw [uni_star] at h
  obtain ⟨σ,h1,rfl⟩:=List.mem_map.1 h
  have:=iha _ σ h1
  rw [rdep_star]
  simp;omega
 | plus a iha =>
  intro k τ h
  rw [uni_plus] at h
  obtain ⟨σ,h1,rfl⟩:=List.mem_map.1 h
  have:=iha _ σ h1
  rw [rdep_plus]
  simp;omega
 | opt a iha=>exact fun k τ h=>iha _ τ h
 | times m n a iha =>
  intro k τ h
  rw [uni_times] at h
  split at h
  ·obtain ⟨j,_,h⟩:=List.mem_flatMap.1 h
   obtain ⟨σ,h1,rfl⟩:=List.mem_map.1 h
   have:=iha _ σ h1
   rw [rdep_times]
   simp;omega
  ·cases h
theorem rdep_le {rs:List Rn} (hw:WfT rs) {R:Re}:∀ {k:Int},Dr rs R k→(rdep R:Int)≤k:=by
 induction R using Re.ind with
 | blank=>intro k h;exact h.nonneg
 | set f=>intro k h;exact h.nonneg
 | seq a b iha ihb =>
  rintro k ⟨r,h0,h1,h2,ha,hb⟩
  have w:=hw _ _ h1
  have w1:=w.1 (by omega)
  have w2:=w.2 (.inl h2)
  have:=iha ha
  have:=ihb hb
  rw [Int.toNat_of_nonneg h0] at w1 w2
  rw [rdep_seq]
  omega
 | alt a b iha ihb =>
  rintro k ⟨r,h0,h1,h2,ha,hb⟩
  have w:=hw _ _ h1
  have w1:=w.1 (by omega)
  have w2:=w.2 (.inr h2)
  have:=iha ha
  have:=ihb hb
  rw [Int.toNat_of_nonneg h0] at w1 w2
  rw [rdep_alt]
  omega
 | star a iha =>
  rintro k ⟨r,h0,h1,h2,ha⟩
  have w1:=(hw _ _ h1).1 (by omega)
  have:=iha ha
  rw [Int.toNat_of_nonneg h0] at w1
  rw [rdep_star]
  omega
 | plus a iha =>
  rintro k ⟨r,h0,h1,h2,ha⟩
  have w1:=(hw _ _ h1).1 (by omega)
  have:=iha ha
  rw [Int.toNat_of_nonneg h0] at w1
  rw [rdep_plus]
  omega
 | opt a iha =>
  rintro k ⟨r,h0,h1,h2,ha⟩
  have w1:=(hw _ _ h1).1 (by omega)
  have:=iha ha
  rw [Int.toNat_of_nonneg h0] at w1
  rw [rdep_opt]
  omega
 | times m n a iha =>
  rintro k ⟨r,h0,h1,h2,_,_,_,_,ha⟩
  have w1:=(hw _ _ h1).1 (by omega)
  have:=iha ha
  rw [Int.toNat_of_nonneg h0] at w1
  rw [rdep_times]
  omega
def NumOk (rs0 rs:List Rn) (k:Nat):Prop:=(k < rs0.length∧∃ R,Dr rs0 R (k:Int)∧R.wt≤12)∨(rs0.length≤k∧∃ r,rs[k]?=some r∧∃ a,Dr rs0 a r.l∧a.wt≤12∧((r.kind=5∧r.m=0∧r.n=0)∨(r.kind=8∧∃ m n:Nat,r.m=(m:Int)∧r.n=(n:Int)∧m≤9∧n≤9∧(Re.times m n a).wt≤12)))
theorem NumOk.nd {rs0 rs:List Rn} (hg:GrowT rs0 rs) {k:Nat} (h:NumOk rs0 rs k):NdOk rs k:=by
 obtain ⟨e,rfl⟩:=hg.gr.pre
 rcases h with ⟨_,R,hR,_⟩ | ⟨_,r,h1,a,ha,_,h2 | ⟨h2,m,n,q1,q2,q3,q4,_⟩⟩
 ·exact ⟨R,hR.app e⟩
 ·exact ⟨.star a,r,by omega,by rw [Int.toNat_natCast];exact h1,h2.1,ha.app e⟩
 ·exact ⟨.times m n a,r,by omega,by rw [Int.toNat_natCast];exact h1,h2,q1,q2,q3,q4,ha.app e⟩
theorem NumOk.grow {rs0 rs:List Rn} {k:Nat} (h:NumOk rs0 rs k) (x:List Rn):NumOk rs0 (rs++x) k:=by
 rcases h with h | ⟨h0,r,h1,h2⟩
 ·exact .inl h
 ·exact .inr ⟨h0,r,getElem?_app h1 x,h2⟩
theorem LN_eq {rs:List Rn} {R:Re} {k:Nat} (h:Dr rs R (k:Int)):LN rs k=R.L:=Lang.ext fun w=>⟨fun ⟨R',h1,h2⟩=>by rw [Dr.same h h1];exact h2,fun hw=>⟨R,h,hw⟩⟩
theorem LN_app {rs:List Rn} {k:Nat} (h:NdOk rs k) (x:List Rn):LN (rs++x) k=LN rs k:=by
 obtain ⟨R,hR⟩:=h
 rw [LN_eq hR,LN_eq (hR.app x)]
theorem tmL_app {rs:List Rn} (x:List Rn):∀ {s:List Nat},(∀ k∈s,NdOk rs k)→tmL (rs++x) s=tmL rs s
 | [],_=>rfl
 | k ::s,h=>by rw [tmL,tmL,LN_app (h k (by simp)) x,tmL_app x fun k hk=>h k (by simp [hk])]
structure VSet (rs0 rs:List Rn) (U:List (List Nm)) (X:List ByteArray):Prop where
 srt:SrtS X
 inu:InU rs0 rs U X
 num:∀ s∈X,∀ k∈bytesN s,NumOk rs0 rs k
def stB (rs:List Rn) (X:List ByteArray):Lang:=fun w=>∃ s∈X,tmL rs (bytesN s) w
theorem VSet.grow {rs0 rs:List Rn} {U:List (List Nm)} {X:List ByteArray} (h:VSet rs0 rs U X) (x:List Rn):VSet rs0 (rs++x) U X:=⟨h.srt,fun s hs=>(h.inu s hs).grow x,fun s hs k hk=>(h.num s hs k hk).grow x⟩
theorem VSet.mono {rs0 rs:List Rn} {U U':List (List Nm)} {X:List ByteArray} (h:VSet rs0 rs U X) (hU:∀ u∈U,u∈U'):VSet rs0 rs U' X:=⟨h.srt,fun s hs=>⟨(h.inu s hs).1,hU _ (h.inu s hs).2⟩,h.num⟩
theorem VSet.nil (rs0 rs:List Rn) (U:List (List Nm)):VSet rs0 rs U []:=⟨List.Pairwise.nil,(fun s h=>by cases h),(fun s h=>by cases h)⟩
theorem stB_app {rs0 rs:List Rn} (hg:GrowT rs0 rs) {U:List (List Nm)} {X:List ByteArray} (h:VSet rs0 rs U X) (x:List Rn):stB (rs++x) X=stB rs X:=Lang.ext fun w=>by
 constructor
 ·rintro ⟨s,h1,h2⟩
  rw [tmL_app x fun k hk=>(h.num s h1 k hk).nd hg] at h2
  exact ⟨s,h1,h2⟩
 ·rintro ⟨s,h1,h2⟩
  rw [←tmL_app x fun k hk=>(h.num s h1 k hk).nd hg] at h2
  exact ⟨s,h1,h2⟩
theorem stB_nil (rs:List Rn):stB rs []=voidL:=Lang.ext fun w=>⟨(fun ⟨s,h,_⟩=>by cases h),fun h=>h.elim⟩
theorem VSet.len {rs0 rs:List Rn} (hg:GrowT rs0 rs) {U:List (List Nm)} {X:List ByteArray} (h:VSet rs0 rs U X):X.length≤U.length:=by
 refine Nat.le_of_not_lt fun hlt=>?_
 have hc:∀ i,i≤U.length→∃ j s,X[i]?=some s∧j < U.length∧U[j]?=some (nmS rs0 rs s):=fun i hi=>by
  have hl:i < X.length:=by omega
  obtain ⟨j,h1,h2⟩:=mem_pos (h.inu _ (List.getElem_mem hl)).2
  exact ⟨j,_,List.getElem?_eq_getElem hl,h1,h2⟩
 obtain ⟨i,j,hij,hj,e⟩:=pigeon U.length (fun i=>if hi:i≤U.length then Classical.choose (hc i hi) else 0) fun i hi=>by
  simp only [dif_pos hi]
  obtain ⟨s,_,g,_⟩:=Classical.choose_spec (hc i hi)
  exact g
 simp only [dif_pos (show i≤U.length by omega),dif_pos hj] at e
 obtain ⟨s,a1,a2,a3⟩:=Classical.choose_spec (hc i (by omega))
 obtain ⟨t,b1,b2,b3⟩:=Classical.choose_spec (hc j hj)
 rw [e,b3] at a3
 have hst:=nmS_inj hg.gr (h.inu t (List.mem_of_getElem? b1)) (h.inu s (List.mem_of_getElem? a1)) (by simpa using a3)
 subst hst
 obtain ⟨hi,ei⟩:=List.getElem?_eq_some_iff.1 a1
 obtain ⟨hj',ej⟩:=List.getElem?_eq_some_iff.1 b1
 have:=List.pairwise_iff_getElem.1 h.srt i j hi hj' hij
 rw [ei,ej,lessS_irrefl] at this
 cases this
theorem VSet.size {rs0 rs:List Rn} {R:Re} {k:Nat} {X:List ByteArray} (h:VSet rs0 rs (uni rs0 R k) X):∀ s∈X,s.size≤rdep R:=fun s hs=>by
 have h1:=uni_dep rs0 R k _ (h.inu s hs).2
 unfold nmS at h1
 rw [List.length_map,bytesN_len] at h1
 exact h1
end Go.Proofs.YtobfpgoepaeknaaGreat
namespace Go.Proofs.YtobfpgoepaeknaaGreat
theorem VSet.both {rs0 rs:List Rn} {U V W:List (List Nm)} {X Y:List ByteArray} (h:VSet rs0 rs U X) (k:VSet rs0 rs V Y) (hU:∀ u∈U,u∈W) (hV:∀ u∈V,u∈W):VSet rs0 rs W (bothS X Y):=by
 refine ⟨bothS_srt h.srt _,fun s hs=>?_,fun s hs=>?_⟩
 ·rcases (bothS_mem X Y s).1 hs with g | g
  ·exact (h.mono hU).inu s g
  ·exact (k.mono hV).inu s g
 ·rcases (bothS_mem X Y s).1 hs with g | g
  ·exact h.num s g
  ·exact k.num s g
theorem stB_both (rs:List Rn) (X Y:List ByteArray):stB rs (bothS X Y)=altL (stB rs X) (stB rs Y):=Lang.ext fun w=>by
 constructor
 ·rintro ⟨s,h1,h2⟩
  rcases (bothS_mem X Y s).1 h1 with g | g
  ·exact .inl ⟨s,g,h2⟩
  ·exact .inr ⟨s,g,h2⟩
 ·rintro (⟨s,h1,h2⟩ | ⟨s,h1,h2⟩)
  ·exact ⟨s,(bothS_mem X Y s).2 (.inl h1),h2⟩
  ·exact ⟨s,(bothS_mem X Y s).2 (.inr h1),h2⟩
theorem VSet.bef {rs0 rs:List Rn} {U W:List (List Nm)} {X:List ByteArray} {k:Nat} (h:VSet rs0 rs U X) (hk:NumOk rs0 rs k) (hl:k < rs.length) (h256:k < 256) (hW:∀ u∈U,u++[nmOf rs0 rs k]∈W):VSet rs0 rs W (befS X k):=by
 have key:∀ {a:ByteArray},bytesN (a++oneB k)=bytesN a++[k]:=fun {a}=>by rw [bytesN_appZ,bytesN_oneB h256]
 refine ⟨befS_srt _ _,fun s hs=>?_,fun s hs j hj=>?_⟩
 ·obtain ⟨a,h1,rfl⟩:=(befS_mem X k s).1 hs
  refine ⟨fun j hj=>?_,?_⟩
  ·rw [key] at hj
   rcases List.mem_append.1 hj with hj | hj
   ·exact (h.inu a h1).1 j hj
   ·simp only [List.mem_singleton] at hj;subst hj;exact hl
  ·unfold nmS
   rw [key,List.map_append]
   exact hW _ (h.inu a h1).2
 ·obtain ⟨a,h1,rfl⟩:=(befS_mem X k s).1 hs
  rw [key] at hj
  rcases List.mem_append.1 hj with hj | hj
  ·exact h.num a h1 j hj
  ·simp only [List.mem_singleton] at hj;subst hj;exact hk
theorem stB_bef (rs:List Rn) (X:List ByteArray) {k:Nat} (h256:k < 256):stB rs (befS X k)=catL (stB rs X) (LN rs k):=Lang.ext fun w=>by
 have key:∀ a:ByteArray,tmL rs (bytesN (a++oneB k))=catL (tmL rs (bytesN a)) (LN rs k):=fun a=>by
  rw [bytesN_appZ,bytesN_oneB h256,tmL_append]
  show catL _ (catL (LN rs k) epsL)=_
  rw [catL_eps]
 constructor
 ·rintro ⟨s,h1,h2⟩
  obtain ⟨a,g1,rfl⟩:=(befS_mem X k s).1 h1
  rw [key] at h2
  obtain ⟨u,v,e,q1,q2⟩:=h2
  exact ⟨u,v,e,⟨a,g1,q1⟩,q2⟩
 ·rintro ⟨u,v,e,⟨a,g1,q1⟩,q2⟩
  refine ⟨a++oneB k,(befS_mem X k _).2 ⟨a,g1,rfl⟩,?_⟩
  rw [key]
  exact ⟨u,v,e,q1,q2⟩
theorem VSet.one {rs0 rs:List Rn} {U:List (List Nm)} (hU:[]∈U):VSet rs0 rs U [⟨#[]⟩]:=by
 refine ⟨List.pairwise_singleton _ _,fun s hs=>?_,fun s hs k hk=>?_⟩
 ·simp only [List.mem_singleton] at hs
  subst hs
  exact ⟨(fun k hk=>by cases hk),hU⟩
 ·simp only [List.mem_singleton] at hs
  subst hs
  cases hk
theorem stB_one (rs:List Rn):stB rs [⟨#[]⟩]=epsL:=Lang.ext fun w=>by
 constructor
 ·rintro ⟨s,h1,h2⟩
  simp only [List.mem_singleton] at h1
  subst h1;exact h2
 ·intro h;exact ⟨_,List.mem_singleton.2 rfl,h⟩
theorem found_star {rs0 rs rs':List Rn} (hg:GrowT rs0 rs) {a:Re} {l:Nat} (ha:Dr rs0 a (l:Int)) (hw:a.wt≤12) (hc:Nm.x 5 (l:Int) 0 0∈ctsT rs0) {i:Nat}
  (h:(fstC (ctOf ⟨5,(l:Int),0,0,0,noSet⟩) rs=some i∧rs'=rs)∨(fstC (ctOf ⟨5,(l:Int),0,0,0,noSet⟩) rs=none∧i=rs.length∧rs'=rs++[⟨5,(l:Int),0,0,0,noSet⟩])) :
  GrowT rs0 rs'∧(∃ x,rs'=rs++x)∧i < rs'.length∧nmOf rs0 rs' i=resN rs0 (.x 5 (l:Int) 0 0)∧NumOk rs0 rs' i∧Dr rs' (.star a) (i:Int):=by
 obtain ⟨e,he⟩:=hg.gr.pre
 rcases h with ⟨h1,rfl⟩ | ⟨h1,rfl,rfl⟩
 ·obtain ⟨q1,q2⟩:=hg.gr.found h1
  obtain ⟨r,g1,g2⟩:=fstC_some h1
  simp only [ctOf,Nm.x.injEq] at g2
  obtain ⟨e1,e2,e3,e4⟩:=g2
  have hd:Dr rs' (.star a) (i:Int):=⟨r,by omega,by rw [Int.toNat_natCast];exact g1,e1,by rw [e2,he];exact ha.app e⟩
  refine ⟨hg,⟨[],by simp⟩,q2,q1,?_,hd⟩
  by_cases hi:i < rs0.length
  ·refine .inl ⟨hi,.star a,⟨r,by omega,?_,e1,by rw [e2];exact ha⟩,hw⟩
   rw [Int.toNat_natCast]
   rw [he,List.getElem?_append_left hi] at g1;exact g1
  ·exact .inr ⟨by omega,r,g1,a,by rw [e2];exact ha,hw,.inl ⟨e1,e3,e4⟩⟩
 ·obtain ⟨q1,q2⟩:=hg.gr.put h1
  have hget:(rs++[(⟨5,(l:Int),0,0,0,noSet⟩:Rn)])[rs.length]?=some ⟨5,(l:Int),0,0,0,noSet⟩:=by simp
  have hlen:=hg.gr.len
  refine ⟨hg.put h1 hc,⟨_,rfl⟩,by simp,q2,.inr ⟨hlen,_,hget,a,ha,hw,.inl ⟨rfl,rfl,rfl⟩⟩,⟨_,by omega,by rw [Int.toNat_natCast];exact hget,rfl,?_⟩⟩
  show Dr (rs++[_]) a (l:Int)
  rw [he];exact (ha.app e).app _
theorem found_times {rs0 rs rs':List Rn} (hg:GrowT rs0 rs) {a:Re} {l m n:Nat} (ha:Dr rs0 a (l:Int)) (hw:a.wt≤12) (hw2:(Re.times m n a).wt≤12) (hm:m≤9) (hn:n≤9) (hc:Nm.x 8 (l:Int) (m:Int) (n:Int)∈ctsT rs0) {i:Nat}
  (h:(fstC (ctOf ⟨8,(l:Int),0,(m:Int),(n:Int),noSet⟩) rs=some i∧rs'=rs)∨(fstC (ctOf ⟨8,(l:Int),0,(m:Int),(n:Int),noSet⟩) rs=none∧i=rs.length∧rs'=rs++[⟨8,(l:Int),0,(m:Int),(n:Int),noSet⟩])) :
  GrowT rs0 rs'∧(∃ x,rs'=rs++x)∧i < rs'.length∧nmOf rs0 rs' i=resN rs0 (.x 8 (l:Int) (m:Int) (n:Int))∧NumOk rs0 rs' i∧Dr rs' (.times m n a) (i:Int):=by
 obtain ⟨e,he⟩:=hg.gr.pre
 rcases h with ⟨h1,rfl⟩ | ⟨h1,rfl,rfl⟩
 ·obtain ⟨q1,q2⟩:=hg.gr.found h1
  obtain ⟨r,g1,g2⟩:=fstC_some h1
  simp only [ctOf,Nm.x.injEq] at g2
  obtain ⟨e1,e2,e3,e4⟩:=g2
  have hd:Dr rs' (.times m n a) (i:Int):=⟨r,by omega,by rw [Int.toNat_natCast];exact g1,e1,e3,e4,hm,hn,by rw [e2,he];exact ha.app e⟩
  refine ⟨hg,⟨[],by simp⟩,q2,q1,?_,hd⟩
  by_cases hi:i < rs0.length
  ·refine .inl ⟨hi,.times m n a,⟨r,by omega,?_,e1,e3,e4,hm,hn,by rw [e2];exact ha⟩,hw2⟩
   rw [Int.toNat_natCast]
   rw [he,List.getElem?_append_left hi] at g1;exact g1
  ·exact .inr ⟨by omega,r,g1,a,by rw [e2];exact ha,hw,.inr ⟨e1,m,n,e3,e4,hm,hn,hw2⟩⟩
 ·obtain ⟨q1,q2⟩:=hg.gr.put h1
  have hget:(rs++[(⟨8,(l:Int),0,(m:Int),(n:Int),noSet⟩:Rn)])[rs.length]?=some ⟨8,(l:Int),0,(m:Int),(n:Int),noSet⟩:=by simp
  have hlen:=hg.gr.len
  refine ⟨hg.put h1 hc,⟨_,rfl⟩,by simp,q2,.inr ⟨hlen,_,hget,a,ha,hw,.inr ⟨rfl,m,n,rfl,rfl,hm,hn,hw2⟩⟩,⟨_,by omega,by rw [Int.toNat_natCast];exact hget,rfl,rfl,rfl,hm,hn,?_⟩⟩
  show Dr (rs++[_]) a (l:Int)
  rw [he];exact (ha.app e).app _
theorem cts_plus {rs0:List Rn} {a:Re} {k:Nat} {r:Rn} (h:rs0[k]?=some r) (hk:r.kind=6) (ha:Dr rs0 a r.l):Nm.x 5 ((r.l.toNat:Nat):Int) 0 0∈ctsT rs0:=by
 refine List.mem_flatMap.2 ⟨r,List.mem_of_getElem? h,?_⟩
 unfold ctsR
 rw [if_pos hk,toNat_cast ha.nonneg]
 simp
theorem cts_times {rs0:List Rn} {a:Re} {k m n j:Nat} {r:Rn} (h:rs0[k]?=some r) (hk:r.kind=8) (hm:r.m=(m:Int)) (hn:r.n=(n:Int)) (ha:Dr rs0 a r.l) (hj:j < n):Nm.x 8 ((r.l.toNat:Nat):Int) ((m - (j+1):Nat):Int) ((n - (j+1):Nat):Int)∈ctsT rs0:=by
 refine List.mem_flatMap.2 ⟨r,List.mem_of_getElem? h,?_⟩
 unfold ctsR
 rw [if_neg (by rw [hk];decide),if_pos hk,toNat_cast ha.nonneg,hm,hn]
 simp only [Int.toNat_natCast]
 exact List.mem_map.2 ⟨j,List.mem_range.2 hj,rfl⟩
theorem cts_next {rs0:List Rn} {l m n:Nat} (h:Nm.x 8 (l:Int) (m:Int) (n:Int)∈ctsT rs0) (hn:1≤n):Nm.x 8 (l:Int) ((m - 1:Nat):Int) ((n - 1:Nat):Int)∈ctsT rs0:=by
 obtain ⟨r,h1,h2⟩:=List.mem_flatMap.1 h
 refine List.mem_flatMap.2 ⟨r,h1,?_⟩
 unfold ctsR at h2 ⊢
 split at h2
 ·simp [Nm.x.injEq] at h2
 ·next h6 =>
  rw [if_neg h6]
  split at h2
  ·next h8 =>
   rw [if_pos h8]
   obtain ⟨j,q1,q2⟩:=List.mem_map.1 h2
   simp only [Nm.x.injEq,true_and] at q2
   obtain ⟨e1,e2,e3⟩:=q2
   have hj:=List.mem_range.1 q1
   refine List.mem_map.2 ⟨j+1,List.mem_range.2 (by omega),?_⟩
   simp only [Nm.x.injEq,true_and]
   exact ⟨e1,by omega,by omega⟩
  ·cases h2
end Go.Proofs.YtobfpgoepaeknaaGreat
namespace Go.Proofs.YtobfpgoepaeknaaGreat
open Go.RowKit
structure Nl (w wr:World) (b:Nat) (r:Rn):Prop where
 at_:wr.heap[w.heap.size]?=some (.cells (rnA r) 151 (0,0))
 off:¬RowAt wr b w.heap.size
 lt:b < w.heap.size
theorem Nl.start {w:World} {b:Nat} {rs:List Rn} (hb:RtS w b rs) (r:Rn):Nl w ((w.alloc (Obj.cells Tryz.zeroCells151 151)).setRow w.heap.size (rnA r)) b r:=by
 have hbl:=RtS_lt hb
 have hbt:Below w.heap.size w ((w.alloc (Obj.cells Tryz.zeroCells151 151)).setRow w.heap.size (rnA r)):=below_setRow ((Below.refl _ _).alloc (Nat.le_refl _) _) (Nat.le_refl _) _
 refine ⟨setRow_heap _ _ _ (rnA r) _ _ (heap_alloc_new w _),fun hr=>?_,hbl⟩
 obtain ⟨v,fr,h1,h2⟩:=hr
 rw [hbt.block b hbl] at h1
 obtain ⟨cs,fr',h3⟩:=hb.rowNode ⟨v,fr,h1,h2⟩
 have:=(Array.getElem?_eq_some_iff.1 h3).1
 omega
theorem Nl.next {w wr w1:World} {b:Nat} {r:Rn} (h:Nl w wr b r) (hf:Fy b wr w1):Nl w w1 b r:=by
 have hl:=(Array.getElem?_eq_some_iff.1 h.at_).1
 have hlt:=h.lt
 refine ⟨?_,fun hr=>?_,hlt⟩
 ·rw [hf.keep _ hl (by omega) h.off];exact h.at_
 ·rcases hf.row _ hr with g | g
  ·exact h.off g
  ·omega
theorem Nl.cells {w wr:World} {b:Nat} {r:Rn} (h:Nl w wr b r):wr.cell? ⟨w.heap.size,0,none⟩=some (.int .i64 r.kind)∧wr.cell? ⟨w.heap.size,1,none⟩=some (.int .i64 r.l)∧wr.cell? ⟨w.heap.size,2,none⟩=some (.int .i64 r.r)∧wr.cell? ⟨w.heap.size,3,none⟩=some (.int .i64 r.m)∧wr.cell? ⟨w.heap.size,4,none⟩=some (.int .i64 r.n):=by
 obtain ⟨y0,y1,y2,y3,y4⟩:=rnA_fields r
 refine ⟨?_,?_,?_,?_,?_⟩<;>rw [cell_of_row _ _ _ _ _ _ h.at_]
 ·exact y0
 ·exact y1
 ·exact y2
 ·exact y3
 ·exact y4
theorem Dr.lt0 {rs:List Rn} {R:Re} {k:Nat} (h:Dr rs R (k:Int)):k < rs.length:=by
 obtain ⟨r,h1,_⟩:=h.kind
 rw [Int.toNat_natCast] at h1
 exact (List.getElem?_eq_some_iff.1 h1).1
theorem grow_trans {rs rs1 rs2:List Rn} (h:∃ x,rs1=rs++x) (k:∃ x,rs2=rs1++x):∃ x,rs2=rs++x:=by
 obtain ⟨x,rfl⟩:=h
 obtain ⟨y,rfl⟩:=k
 exact ⟨x++y,by rw [List.append_assoc]⟩
structure LfOk (rs0:List Rn) (b:Nat) (w w':World) (rs:List Rn) (U:List (List Nm)) (L:Lang) (v:Value) (X:List ByteArray) (rs':List Rn):Prop where
 fy:Fy b w w'
 rt:RtS w' b rs'
 gr:GrowT rs0 rs'
 ex:∃ x,rs'=rs++x
 row:SRow w' 0 v X
 vs:VSet rs0 rs' U X
 eq:stB rs' X=L
def DoesLf (rs0:List Rn) (b c:Nat) (R:Re):Prop:=∀ (kn:Nat) (w:World) (rs:List Rn),R.wt≤12→Dr rs0 R (kn:Int)→RtS w b rs→GrowT rs0 rs →
  Calls Tryz.prog 79 #[.pointer (some ⟨b,0,none⟩),.int .i64 (kn:Int),.int .i64 (c:Int)] w fun e w'=>∃ v X rs',e=.returned v∧LfOk rs0 b w w' rs (uni rs0 R kn) (derL c R.L) v X rs'
theorem phi_len (rs0:List Rn):rs0.length≤phiR rs0:=by have:=ctsT_len rs0;omega
set_option maxRecDepth 20000 in
set_option maxHeartbeats 2000000 in
theorem left_blank {rs0:List Rn} (hphi:phiR rs0≤121) (hwf:WfT rs0) {b c:Nat} (hc:c < 256) :DoesLf rs0 b c .blank:=by
  have HPHI:=hide hphi
  have HWF:=hide hwf
  intro kn w rs hwt hd hb hg
  obtain ⟨r,h0,h1,hk⟩:=hd
  have hmem:∃ e,rs=rs0++e:=hg.gr.pre
  obtain ⟨e0,he0⟩:=hmem
  rw [Int.toNat_natCast] at h1
  have h1':rs[kn]?=some r:=by rw [he0];exact getElem?_app h1 e0
  have hbl:=RtS_lt hb
  have hsm:=hg.small
  have hl':(rs.length:Int)≤121:=by have:=unhide HPHI;omega
  have hcI:(c:Int) < 256:=by omega
  obtain ⟨g,cap,hkl',c0,hcc⟩:=nd_begin hb h1'
  have HL:=hide hcc
  have HN1:=hide (heap_alloc_new w (Obj.cells Tryz.zeroCells151 151))
  have hbt:Below w.heap.size w ((w.alloc (Obj.cells Tryz.zeroCells151 151)).setRow w.heap.size (rnA r)):=below_setRow ((Below.refl _ _).alloc (Nat.le_refl _) _) (Nat.le_refl _) _
  have HNL:=hide (Nl.start hb r)
  have HF0:=hide (Fy.ofBelow hbt hbl)
  have HRT2:=hide (RtS_below hb hbt)
  have HG:=hide hg
  obtain ⟨x0,x1,x2,x3,x4⟩:=nd_cells w r
  rw [hk] at x0
  have HKR:Hid (kn < rs0.length∧rs0[kn]?=some r):=⟨(List.getElem?_eq_some_iff.1 h1).1,h1⟩
  have HE0:=hide he0
  have HC256:=hide hc
  clear hbt hb h1 h1' h0 hcc hg hsm he0 hbl hc hphi hwf hwt
  go_enter Tryz.func79,Tryz.ntmps79
  go_upto_region 2 with (first
   | refine wpList_load_mid rfl 151 _ rfl ⟨g,kn * 261,none⟩ rfl (rnA r) (unhide HL) _ Tryz.underlying151 rfl (by rw [size_rnA];exact info78) ?_
   | refine wpList_store_row0 rfl 151 _ _ rfl rfl w.heap.size _ rfl rfl 151 _ (unhide HN1) (by rw [size_rnA];exact info78) (by rw [zero78,size_rnA,size_rnA]) (rnA_one _) ?_)
  clear HL HN1 c0
  go_wp2_with fail
  go_ret
  exact ⟨_,[],rs,rfl,unhide HF0,unhide HRT2,unhide HG,⟨[],by simp⟩,World.ownsRow_nil _ _ _ _,VSet.nil _ _ _,by rw [stB_nil];exact (der_eps c).symm⟩
set_option maxRecDepth 20000 in
set_option maxHeartbeats 2000000 in
theorem left_set {rs0:List Rn} (hphi:phiR rs0≤121) (hwf:WfT rs0) {b c:Nat} (hc:c < 256) (f:Nat→Bool):DoesLf rs0 b c (.set f):=by
  have HPHI:=hide hphi
  have HWF:=hide hwf
  intro kn w rs hwt hd hb hg
  obtain ⟨r,h0,h1,hk,hf⟩:=hd
  have hmem:∃ e,rs=rs0++e:=hg.gr.pre
  obtain ⟨e0,he0⟩:=hmem
  rw [Int.toNat_natCast] at h1
  have h1':rs[kn]?=some r:=by rw [he0];exact getElem?_app h1 e0
  have hbl:=RtS_lt hb
  have hsm:=hg.small
  have hl':(rs.length:Int)≤121:=by have:=unhide HPHI;omega
  have hcI:(c:Int) < 256:=by omega
  obtain ⟨g,cap,hkl',c0,hcc⟩:=nd_begin hb h1'
  have HL:=hide hcc
  have HN1:=hide (heap_alloc_new w (Obj.cells Tryz.zeroCells151 151))
  have hbt:Below w.heap.size w ((w.alloc (Obj.cells Tryz.zeroCells151 151)).setRow w.heap.size (rnA r)):=below_setRow ((Below.refl _ _).alloc (Nat.le_refl _) _) (Nat.le_refl _) _
  have HNL:=hide (Nl.start hb r)
  have HF0:=hide (Fy.ofBelow hbt hbl)
  have HRT2:=hide (RtS_below hb hbt)
  have HG:=hide hg
  obtain ⟨x0,x1,x2,x3,x4⟩:=nd_cells w r
  rw [hk] at x0
  have HKR:Hid (kn < rs0.length∧rs0[kn]?=some r):=⟨(List.getElem?_eq_some_iff.1 h1).1,h1⟩
  have HE0:=hide he0
  have HC256:=hide hc
  clear hbt hb h1 h1' h0 hcc hg hsm he0 hbl hc hphi hwf hwt
  have x5:((w.alloc (Obj.cells Tryz.zeroCells151 151)).setRow w.heap.size (rnA r)).cell? ⟨w.heap.size,5+c,none⟩=some (.bool (f c)):=by
   rw [cell_of_row _ _ _ _ _ _ (unhide HNL).at_,←hf]
   unfold rnA
   rw [Array.getElem?_append_right (by simp)]
   simp only [List.size_toArray,List.length_cons,List.length_nil,Nat.add_sub_cancel_left]
   exact get_setA r.f c (unhide HC256)
  cases hfc:f c
  ·rw [hfc] at x5
   have HS:Hid (derL c (Re.set f).L=voidL):=by show derL c (setL f)=_;rw [der_set,if_neg (by rw [hfc];simp)]
   clear hfc hf
   go_enter Tryz.func79,Tryz.ntmps79
   go_upto_region 2 with (first
    | refine wpList_load_mid rfl 151 _ rfl ⟨g,kn * 261,none⟩ rfl (rnA r) (unhide HL) _ Tryz.underlying151 rfl (by rw [size_rnA];exact info78) ?_
    | refine wpList_store_row0 rfl 151 _ _ rfl rfl w.heap.size _ rfl rfl 151 _ (unhide HN1) (by rw [size_rnA];exact info78) (by rw [zero78,size_rnA,size_rnA]) (rnA_one _) ?_)
   clear HL HN1 c0
   go_wp2_with fail
   go_ret
   exact ⟨_,[],rs,rfl,unhide HF0,unhide HRT2,unhide HG,⟨[],by simp⟩,World.ownsRow_nil _ _ _ _,VSet.nil _ _ _,by rw [stB_nil];exact (unhide HS).symm⟩
  ·rw [hfc] at x5
   have HS:Hid (derL c (Re.set f).L=epsL):=by show derL c (setL f)=_;rw [der_set,if_pos hfc]
   clear hfc hf
   go_enter Tryz.func79,Tryz.ntmps79
   go_upto_region 2 with (first
    | refine wpList_load_mid rfl 151 _ rfl ⟨g,kn * 261,none⟩ rfl (rnA r) (unhide HL) _ Tryz.underlying151 rfl (by rw [size_rnA];exact info78) ?_
    | refine wpList_store_row0 rfl 151 _ _ rfl rfl w.heap.size _ rfl rfl 151 _ (unhide HN1) (by rw [size_rnA];exact info78) (by rw [zero78,size_rnA,size_rnA]) (rnA_one _) ?_)
   clear HL HN1 c0
   go_wp2_with fail
   go_ret
   have hbn:Below ((w.alloc (Obj.cells Tryz.zeroCells151 151)).setRow w.heap.size (rnA r)).heap.size ((w.alloc (Obj.cells Tryz.zeroCells151 151)).setRow w.heap.size (rnA r)) (((w.alloc (Obj.cells Tryz.zeroCells151 151)).setRow w.heap.size (rnA r)).alloc (Obj.cells #[.string ⟨#[]⟩] 9)):=(Below.refl _ _).alloc (Nat.le_refl _) _
   refine ⟨_,[⟨#[]⟩],rs,rfl,(unhide HF0).trans (Fy.ofBelow hbn (RtS_lt (unhide HRT2))),RtS_below (unhide HRT2) hbn,unhide HG,⟨[],by simp⟩,?_,VSet.one (by simp [uni_set]),by rw [stB_one];exact (unhide HS).symm⟩
   exact ⟨rfl,.inr ⟨_,1,#[.string ⟨#[]⟩],rfl,Nat.zero_le _,by have h:=heap_alloc_new ((w.alloc (Obj.cells Tryz.zeroCells151 151)).setRow w.heap.size (rnA r)) (Obj.cells #[.string ⟨#[]⟩] 9);simpa using h,Nat.le_refl _,by unfold maxLen;omega,rfl,rfl⟩⟩
end Go.Proofs.YtobfpgoepaeknaaGreat
namespace Go.Proofs.YtobfpgoepaeknaaGreat
open Go.RowKit
structure LnOk (rs0:List Rn) (b c:Nat) (w w':World) (rs:List Rn) (kn:Nat) (v:Value) (X:List ByteArray) (rs':List Rn):Prop where
 fy:Fy b w w'
 rt:RtS w' b rs'
 gr:GrowT rs0 rs'
 ex:∃ x,rs'=rs++x
 row:SRow w' 0 v X
 num:∀ s∈X,∀ k∈bytesN s,k < rs'.length∧NumOk rs0 rs' k
 der:∀ s∈X,Der1 rs0 (nmOf rs0 rs kn) (nmS rs0 rs' s)
 len:X.length≤12
 size:∀ s∈X,s.size≤200
 eq:stB rs' X=derL c (LN rs kn)
theorem LfOk.ln {rs0:List Rn} {b c:Nat} {w w':World} {rs:List Rn} {kn:Nat} {v:Value} {X:List ByteArray} {rs':List Rn} {U:List (List Nm)} {L:Lang} (h:LfOk rs0 b w w' rs U L v X rs') (hd:∀ u∈U,Der1 rs0 (nmOf rs0 rs kn) u) (hl:U.length≤12) (hz:∀ u∈U,u.length≤200) (hL:L=derL c (LN rs kn)):LnOk rs0 b c w w' rs kn v X rs' :=
 ⟨h.fy,h.rt,h.gr,h.ex,h.row,fun s hs k hk=>⟨(h.vs.inu s hs).1 k hk,h.vs.num s hs k hk⟩,fun s hs=>hd _ (h.vs.inu s hs).2,Nat.le_trans (h.vs.len h.gr) hl,fun s hs=>by
  have:=hz _ (h.vs.inu s hs).2
  unfold nmS at this
  rw [List.length_map,bytesN_len] at this
  exact this,by rw [←hL];exact h.eq⟩
def DoesLn (rs0:List Rn) (b c:Nat):Prop:=∀ (kn:Nat) (rs:List Rn) (w:World),RtS w b rs→GrowT rs0 rs→NumOk rs0 rs kn →
  Calls Tryz.prog 79 #[.pointer (some ⟨b,0,none⟩),.int .i64 (kn:Int),.int .i64 (c:Int)] w fun e w'=>∃ v X rs',e=.returned v∧LnOk rs0 b c w w' rs kn v X rs'
end Go.Proofs.YtobfpgoepaeknaaGreat
