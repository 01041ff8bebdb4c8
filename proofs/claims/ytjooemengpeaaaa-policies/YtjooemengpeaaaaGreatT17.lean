/-
  veil.Table: the table of a pattern, or its error.
  Plain mathematics: what is left of a set of strings behind a byte.
  Plain mathematics: texts that are put together: what the document's answer makes of them, and that the look over them meets no error.
  Plain mathematics: the terms that can be left are few: names for the nodes of a tree that grows, and the terms over them.
-/
import Derived.Test.YtjooemengpeaaaaGreatT16
import Derived.Test.YtjooemengpeaaaaGreatT08
import Derived.Test.YtjooemengpeaaaaGreatT10
namespace Go.Proofs.YtjooemengpeaaaaGreat
open Go.RowKit
attribute [local go_sem ↓] Go.wp_at_zero Go.wp_at_succ zvT
attribute [local go_sem] zcT_size zcT_ne cells_agg
theorem TabOf.nc_lt {L:List Nat→Prop} {S C:Nat} {nx:Nat→Nat→Nat} {gr:Nat→Bool} {cl:Nat→Nat} {nc:Nat→Nat→Nat} (h:TabOf L S C nx gr cl nc) {i c:Nat} (hi:i < S) (hc:c < C):nc i c < S:=by
 obtain ⟨b,hb,rfl⟩:=h.cols.all c hc
 rw [h.nc i b hi hb];exact h.dfa.lt i b hi hb
def TblOk (e:Ending) (L:List Nat→Prop):Prop:=(∃ S C nx gr cl nc,e=.returned (.tuple #[.string (strN (layTab S C cl gr nc)),.int .i64 0])∧TabOf L S C nx gr cl nc)∨(e=.returned (.tuple #[.string ⟨#[]⟩,.int .i64 3])∧(ManyStates L∨ManyClasses L))
end Go.Proofs.YtjooemengpeaaaaGreat
namespace Go.Proofs.YtjooemengpeaaaaGreat
def derL (c:Nat) (A:Lang):Lang:=fun w=>A (c ::w)
theorem pwL_nil (A:Lang):∀ k,pwL A k []↔k=0∨A []
 | 0=>by simp [pwL,epsL]
 | k+1=>by
  constructor
  ·rintro ⟨u,v,e,h1,_⟩
   obtain ⟨rfl,rfl⟩:u=[]∧v=[]:=by simpa using e.symm
   exact .inr h1
  ·rintro (h | h)
   ·omega
   ·exact ⟨[],[],rfl,h,(pwL_nil A k).2 (.inr h)⟩
def nulB:Re→Bool
 | .blank=>true
 | .set _=>false
 | .seq a b=>nulB a && nulB b
 | .alt a b=>nulB a || nulB b
 | .star _=>true
 | .plus a=>nulB a
 | .opt _=>true
 | .times m n a=>decide (m≤n) && (decide (m=0) || nulB a)
theorem nulB_iff:∀ R:Re,nulB R=true↔R.L []
 | .blank=>by simp [nulB,Re.L,epsL]
 | .set f=>by simp [nulB,Re.L,setL]
 | .seq a b=>by
  simp only [nulB,Bool.and_eq_true,nulB_iff a,nulB_iff b,Re.L]
  constructor
  ·rintro ⟨h1,h2⟩;exact ⟨[],[],rfl,h1,h2⟩
  ·rintro ⟨u,v,e,h1,h2⟩
   obtain ⟨rfl,rfl⟩:u=[]∧v=[]:=by simpa using e.symm
   exact ⟨h1,h2⟩
 | .alt a b=>by simp only [nulB,Bool.or_eq_true,nulB_iff a,nulB_iff b,Re.L];exact Iff.rfl
 | .star a=>by simp only [nulB,Re.L,true_iff];exact ⟨0,rfl⟩
 | .plus a=>by
  simp only [nulB,nulB_iff a,Re.L]
  constructor
  ·intro h;exact ⟨1,Nat.le_refl _,(pwL_nil _ 1).2 (.inr h)⟩
  ·rintro ⟨k,h1,h2⟩
   rcases (pwL_nil _ k).1 h2 with h | h
   ·omega
   ·exact h
 | .opt a=>by simp only [nulB,Re.L,true_iff];exact .inl rfl
 | .times m n a=>by
  simp only [nulB,Bool.and_eq_true,Bool.or_eq_true,decide_eq_true_eq,nulB_iff a,Re.L]
  constructor
  ·rintro ⟨h1,h2⟩;exact ⟨m,Nat.le_refl _,h1,(pwL_nil _ m).2 h2⟩
  ·rintro ⟨k,h1,h2,h3⟩
   refine ⟨by omega,?_⟩
   rcases (pwL_nil _ k).1 h3 with h | h
   ·exact .inl (by omega)
   ·exact .inr h
theorem der_eps (c:Nat):derL c epsL=voidL:=Lang.ext fun w=>⟨fun h=>(by cases h),fun h=>h.elim⟩
theorem der_set (c:Nat) (f:Nat→Bool):derL c (setL f)=if f c=true then epsL else voidL:=by
 apply Lang.ext
 intro w
 by_cases h:f c=true
 ·rw [if_pos h]
  constructor
  ·rintro ⟨b,e,_⟩;simp only [List.cons.injEq] at e;exact e.2
  ·intro e;exact ⟨c,by rw [show w=[] from e],h⟩
 ·rw [if_neg h]
  constructor
  ·rintro ⟨b,e,hb⟩
   simp only [List.cons.injEq] at e
   exact h (by rw [e.1];exact hb)
  ·intro h';exact h'.elim
theorem der_opt (c:Nat) (A:Lang):derL c (optL A)=derL c A:=Lang.ext fun w=>⟨fun h=>h.elim (fun h=>by cases h) id,.inr⟩
theorem der_cat (c:Nat) (A B:Lang) (w:List Nat):derL c (catL A B) w↔catL (derL c A) B w∨(A []∧derL c B w):=by
 constructor
 ·rintro ⟨u,v,e,h1,h2⟩
  cases u with
  | nil=>right;rw [List.nil_append] at e;subst e;exact ⟨h1,h2⟩
  | cons x u =>
   simp only [List.cons_append,List.cons.injEq] at e
   obtain ⟨rfl,rfl⟩:=e
   exact .inl ⟨u,v,rfl,h1,h2⟩
 ·rintro (⟨u,v,rfl,h1,h2⟩ | ⟨h1,h2⟩)
  ·exact ⟨c ::u,v,rfl,h1,h2⟩
  ·exact ⟨[],c ::w,rfl,h1,h2⟩
theorem der_pw (c:Nat) (A:Lang):∀ (k:Nat) (w:List Nat),pwL A k (c ::w)↔0 < k∧catL (derL c A) (pwL A (k - 1)) w
 | 0,w=>by
  constructor
  ·intro h;cases h
  ·rintro ⟨h,_⟩;omega
 | k+1,w=>by
  rw [Nat.add_sub_cancel]
  constructor
  ·intro h
   refine ⟨by omega,?_⟩
   rcases (der_cat c A (pwL A k) w).1 h with h | ⟨h1,h2⟩
   ·exact h
   ·obtain ⟨hk,u,v,rfl,g1,g2⟩:=(der_pw c A k w).1 h2
    obtain ⟨j,rfl⟩:∃ j,k=j+1:=⟨k - 1,by omega⟩
    rw [Nat.add_sub_cancel] at g2
    exact ⟨u,v,rfl,g1,[],v,rfl,h1,g2⟩
  ·rintro ⟨_,h⟩
   exact (der_cat c A (pwL A k) w).2 (.inl h)
theorem der_star (c:Nat) (A:Lang):derL c (starL A)=catL (derL c A) (starL A):=by
 apply Lang.ext
 intro w
 constructor
 ·rintro ⟨k,h⟩
  obtain ⟨_,u,v,rfl,h1,h2⟩:=(der_pw c A k w).1 h
  exact ⟨u,v,rfl,h1,_,h2⟩
 ·rintro ⟨u,v,rfl,h1,k,h2⟩
  exact ⟨k+1,(der_pw c A (k+1) _).2 ⟨by omega,u,v,rfl,h1,h2⟩⟩
theorem der_plus (c:Nat) (A:Lang):derL c (plusL A)=catL (derL c A) (starL A):=by
 apply Lang.ext
 intro w
 constructor
 ·rintro ⟨k,_,h⟩
  obtain ⟨_,u,v,rfl,h1,h2⟩:=(der_pw c A k w).1 h
  exact ⟨u,v,rfl,h1,_,h2⟩
 ·rintro ⟨u,v,rfl,h1,k,h2⟩
  exact ⟨k+1,by omega,(der_pw c A (k+1) _).2 ⟨by omega,u,v,rfl,h1,h2⟩⟩
theorem der_times (c:Nat) (A:Lang) {m n:Nat} (hn:1≤n) (_hm:m≤n):derL c (timesL m n A)=catL (derL c A) (timesL (m - 1) (n - 1) A):=by
 apply Lang.ext
 intro w
 constructor
 ·rintro ⟨k,k1,k2,h⟩
  obtain ⟨hk,u,v,rfl,h1,h2⟩:=(der_pw c A k w).1 h
  exact ⟨u,v,rfl,h1,k - 1,by omega,by omega,h2⟩
 ·rintro ⟨u,v,rfl,h1,k,k1,k2,h2⟩
  exact ⟨k+1,by omega,by omega,(der_pw c A (k+1) _).2 ⟨by omega,u,v,rfl,h1,h2⟩⟩
theorem der_times0 (c:Nat) (A:Lang) {m n:Nat} (h:n < 1∨n < m):derL c (timesL m n A)=voidL:=by
 apply Lang.ext
 intro w
 constructor
 ·rintro ⟨k,k1,k2,h'⟩
  obtain ⟨hk,_⟩:=(der_pw c A k w).1 h'
  omega
 ·intro h;exact h.elim
def LN (rs:List Rn) (k:Nat):Lang:=fun w=>∃ R,Dr rs R (k:Int)∧R.L w
def tmL (rs:List Rn):List Nat→Lang
 | []=>epsL
 | k ::s=>catL (LN rs k) (tmL rs s)
def NdOk (rs:List Rn) (k:Nat):Prop:=∃ R,Dr rs R (k:Int)
theorem tmL_append (rs:List Rn):∀ (s t:List Nat),tmL rs (s++t)=catL (tmL rs s) (tmL rs t)
 | [],t=>(epsL_cat _).symm
 | k ::s,t=>by rw [List.cons_append,tmL,tmL,tmL_append rs s t,catL_assoc]
theorem tmL_nil_iff (rs:List Rn):∀ s,tmL rs s []↔∀ k∈s,LN rs k []
 | []=>by simp [tmL,epsL]
 | k ::s=>by
  rw [tmL]
  constructor
  ·rintro ⟨u,v,e,h1,h2⟩
   obtain ⟨rfl,rfl⟩:u=[]∧v=[]:=by simpa using e.symm
   intro x hx
   rcases List.mem_cons.1 hx with rfl | hx
   ·exact h1
   ·exact (tmL_nil_iff rs s).1 h2 x hx
  ·intro h
   exact ⟨[],[],rfl,h k (by simp),(tmL_nil_iff rs s).2 fun x hx=>h x (by simp [hx])⟩
theorem der_tm (rs:List Rn) (c:Nat):∀ (s:List Nat) (w:List Nat),derL c (tmL rs s) w↔∃ a k b,s=a++k ::b∧(∀ x∈a,LN rs x [])∧catL (derL c (LN rs k)) (tmL rs b) w
 | [],w=>by
  constructor
  ·intro h;cases h
  ·rintro ⟨a,k,b,e,_⟩;simp at e
 | k ::s,w=>by
  rw [tmL,der_cat]
  constructor
  ·rintro (h | ⟨h1,h2⟩)
   ·exact ⟨[],k,s,rfl,by simp,h⟩
   ·obtain ⟨a,k',b,rfl,g1,g2⟩:=(der_tm rs c s w).1 h2
    refine ⟨k ::a,k',b,rfl,fun x hx=>?_,g2⟩
    rcases List.mem_cons.1 hx with rfl | hx
    ·exact h1
    ·exact g1 x hx
  ·rintro ⟨a,k',b,e,g1,g2⟩
   cases a with
   | nil =>
    simp only [List.nil_append,List.cons.injEq] at e
    obtain ⟨rfl,rfl⟩:=e
    exact .inl g2
   | cons y a =>
    simp only [List.cons_append,List.cons.injEq] at e
    obtain ⟨rfl,rfl⟩:=e
    exact .inr ⟨g1 k (by simp),(der_tm rs c _ w).2 ⟨a,k',b,rfl,fun x hx=>g1 x (by simp [hx]),g2⟩⟩
end Go.Proofs.YtjooemengpeaaaaGreat
namespace Go.Proofs.YtjooemengpeaaaaGreat
def kindR:Re→Int
 | .blank=>1
 | .set _=>2
 | .seq _ _=>3
 | .alt _ _=>4
 | .star _=>5
 | .plus _=>6
 | .opt _=>7
 | .times _ _ _=>8
theorem Dr.kind {rs:List Rn}:∀ {R:Re} {k:Int},Dr rs R k→∃ r,rs[k.toNat]?=some r∧r.kind=kindR R
 | .blank,_,⟨r,_,h1,h2⟩=>⟨r,h1,h2⟩
 | .set _,_,⟨r,_,h1,h2,_⟩=>⟨r,h1,h2⟩
 | .seq _ _,_,⟨r,_,h1,h2,_⟩=>⟨r,h1,h2⟩
 | .alt _ _,_,⟨r,_,h1,h2,_⟩=>⟨r,h1,h2⟩
 | .star _,_,⟨r,_,h1,h2,_⟩=>⟨r,h1,h2⟩
 | .plus _,_,⟨r,_,h1,h2,_⟩=>⟨r,h1,h2⟩
 | .opt _,_,⟨r,_,h1,h2,_⟩=>⟨r,h1,h2⟩
 | .times _ _ _,_,⟨r,_,h1,h2,_⟩=>⟨r,h1,h2⟩
theorem some_same {α:Type} {o:Option α} {a b:α} (h:o=some a) (k:o=some b):a=b:=Option.some.inj (h.symm.trans k)
theorem Dr.same {rs:List Rn}:∀ {R S:Re} {k:Int},Dr rs R k→Dr rs S k→R=S:=by
 intro R
 induction R with
 | blank =>
  intro S k h g
  have hk:kindR .blank=kindR S:=by obtain ⟨r,a1,a2⟩:=h.kind;obtain ⟨r',b1,b2⟩:=g.kind;have:=some_same a1 b1;subst this;rw [←a2,←b2]
  cases S with
  | blank=>rfl
  | _=>exact absurd hk (by simp [kindR])
 | set f =>
  intro S k h g
  have hk:kindR (.set f)=kindR S:=by obtain ⟨r,a1,a2⟩:=h.kind;obtain ⟨r',b1,b2⟩:=g.kind;have:=some_same a1 b1;subst this;rw [←a2,←b2]
  cases S with
  | set f'=>obtain ⟨r,_,a1,_,a2⟩:=h;obtain ⟨r',_,b1,_,b2⟩:=g;have:=some_same a1 b1;subst this;rw [←a2,←b2]
  | _=>exact absurd hk (by simp [kindR])
 | seq a b iha ihb =>
  intro S k h g
  have hk:kindR (.seq a b)=kindR S:=by obtain ⟨r,a1,a2⟩:=h.kind;obtain ⟨r',b1,b2⟩:=g.kind;have:=some_same a1 b1;subst this;rw [←a2,←b2]
  cases S with
  | seq a' b'=>obtain ⟨r,_,a1,_,a2,a3⟩:=h;obtain ⟨r',_,b1,_,b2,b3⟩:=g;have:=some_same a1 b1;subst this;rw [iha a2 b2,ihb a3 b3]
  | _=>exact absurd hk (by simp [kindR])
 | alt a b iha ihb =>
  intro S k h g
  have hk:kindR (.alt a b)=kindR S:=by obtain ⟨r,a1,a2⟩:=h.kind;obtain ⟨r',b1,b2⟩:=g.kind;have:=some_same a1 b1;subst this;rw [←a2,←b2]
  cases S with
  | alt a' b'=>obtain ⟨r,_,a1,_,a2,a3⟩:=h;obtain ⟨r',_,b1,_,b2,b3⟩:=g;have:=some_same a1 b1;subst this;rw [iha a2 b2,ihb a3 b3]
  | _=>exact absurd hk (by simp [kindR])
 | star a iha =>
  intro S k h g
  have hk:kindR (.star a)=kindR S:=by obtain ⟨r,a1,a2⟩:=h.kind;obtain ⟨r',b1,b2⟩:=g.kind;have:=some_same a1 b1;subst this;rw [←a2,←b2]
  cases S with
  | star a'=>obtain ⟨r,_,a1,_,a2⟩:=h;obtain ⟨r',_,b1,_,b2⟩:=g;have:=some_same a1 b1;subst this;rw [iha a2 b2]
  | _=>exact absurd hk (by simp [kindR])
 | plus a iha =>
  intro S k h g
  have hk:kindR (.plus a)=kindR S:=by obtain ⟨r,a1,a2⟩:=h.kind;obtain ⟨r',b1,b2⟩:=g.kind;have:=some_same a1 b1;subst this;rw [←a2,←b2]
  cases S with
  | plus a'=>obtain ⟨r,_,a1,_,a2⟩:=h;obtain ⟨r',_,b1,_,b2⟩:=g;have:=some_same a1 b1;subst this;rw [iha a2 b2]
  | _=>exact absurd hk (by simp [kindR])
 | opt a iha =>
  intro S k h g
  have hk:kindR (.opt a)=kindR S:=by obtain ⟨r,a1,a2⟩:=h.kind;obtain ⟨r',b1,b2⟩:=g.kind;have:=some_same a1 b1;subst this;rw [←a2,←b2]
  cases S with
  | opt a'=>obtain ⟨r,_,a1,_,a2⟩:=h;obtain ⟨r',_,b1,_,b2⟩:=g;have:=some_same a1 b1;subst this;rw [iha a2 b2]
  | _=>exact absurd hk (by simp [kindR])
 | times m n a iha =>
  intro S k h g
  have hk:kindR (.times m n a)=kindR S:=by obtain ⟨r,a1,a2⟩:=h.kind;obtain ⟨r',b1,b2⟩:=g.kind;have:=some_same a1 b1;subst this;rw [←a2,←b2]
  cases S with
  | times m' n' a' =>
   obtain ⟨r,_,a1,_,a2,a3,_,_,a4⟩:=h
   obtain ⟨r',_,b1,_,b2,b3,_,_,b4⟩:=g
   have:=some_same a1 b1
   subst this
   have e1:m=m':=by omega
   have e2:n=n':=by omega
   rw [iha a4 b4,e1,e2]
  | _=>exact absurd hk (by simp [kindR])
end Go.Proofs.YtjooemengpeaaaaGreat
namespace Go.Proofs.YtjooemengpeaaaaGreat
inductive Nm where
 | o (k:Nat)
 | x (kind l m n:Int)
 deriving DecidableEq
def ctOf (r:Rn):Nm:=.x r.kind r.l r.m r.n
def fstC (ct:Nm):List Rn→Option Nat
 | []=>none
 | r ::l=>if ctOf r=ct then some 0 else (fstC ct l).map (·+1)
theorem fstC_some {ct:Nm}:∀ {l:List Rn} {i:Nat},fstC ct l=some i→∃ r,l[i]?=some r∧ctOf r=ct
 | [],i,h=>by cases h
 | r ::l,i,h=>by
  rw [fstC] at h
  split at h
  ·next hc=>cases h;exact ⟨r,rfl,hc⟩
  ·obtain ⟨j,hj,rfl⟩:=Option.map_eq_some_iff.1 h
   obtain ⟨r',h1,h2⟩:=fstC_some hj
   exact ⟨r',h1,h2⟩
theorem fstC_none {ct:Nm}:∀ {l:List Rn},fstC ct l=none→∀ r∈l,ctOf r≠ct
 | [],_,r,hr=>by cases hr
 | r0 ::l,h,r,hr=>by
  rw [fstC] at h
  split at h
  ·cases h
  ·next hc =>
   rcases List.mem_cons.1 hr with rfl | hr
   ·exact hc
   ·exact fstC_none (Option.map_eq_none_iff.1 h) r hr
theorem fstC_app {ct:Nm}:∀ (l m:List Rn),fstC ct (l++m)=match fstC ct l with
  | some i=>some i
  | none=>(fstC ct m).map (·+l.length)
 | [],m=>by
  simp only [List.nil_append,fstC,List.length_nil,Nat.add_zero]
  cases fstC ct m<;>rfl
 | r ::l,m=>by
  rw [List.cons_append,fstC,fstC]
  split
  ·rfl
  ·rw [fstC_app l m]
   cases fstC ct l with
   | some i=>rfl
   | none =>
    cases fstC ct m with
    | none=>rfl
    | some j=>simp;omega
def resN (rs0:List Rn) (ct:Nm):Nm:=match fstC ct rs0 with
 | some i=>.o i
 | none=>ct
structure GrownT (rs0 rs:List Rn):Prop where
 pre:∃ e,rs=rs0++e
 new:∀ k r,rs0.length≤k→rs[k]?=some r→fstC (ctOf r) rs0=none
 inj:∀ i j r s,rs0.length≤i→rs0.length≤j→rs[i]?=some r→rs[j]?=some s→ctOf r=ctOf s→i=j
theorem GrownT.refl (rs:List Rn):GrownT rs rs:=⟨⟨[],by simp⟩,(fun k r h1 h2=>by rw [List.getElem?_eq_none h1] at h2;cases h2),(fun i j r s h1 _ h2=>by rw [List.getElem?_eq_none h1] at h2;cases h2)⟩
def nmOf (rs0 rs:List Rn) (k:Nat):Nm:=if k < rs0.length then .o k else match rs[k]? with
 | some r=>ctOf r
 | none=>.o k
section grown
variable {rs0 rs : List Rn}
theorem GrownT.len (h:GrownT rs0 rs):rs0.length≤rs.length:=by
 obtain ⟨e,rfl⟩:=h.pre;simp
theorem GrownT.nm_inj (h:GrownT rs0 rs) {i j:Nat} (hi:i < rs.length) (hj:j < rs.length) (e:nmOf rs0 rs i=nmOf rs0 rs j):i=j:=by
 unfold nmOf at e
 rw [List.getElem?_eq_getElem hi,List.getElem?_eq_getElem hj] at e
 by_cases h1:i < rs0.length
 ·rw [if_pos h1] at e
  by_cases h2:j < rs0.length
  ·rw [if_pos h2] at e;simpa using e
  ·rw [if_neg h2] at e;cases e
 ·rw [if_neg h1] at e
  by_cases h2:j < rs0.length
  ·rw [if_pos h2] at e;cases e
  ·rw [if_neg h2] at e
   exact h.inj i j _ _ (by omega) (by omega) (List.getElem?_eq_getElem hi) (List.getElem?_eq_getElem hj) e
theorem nmOf_app {k:Nat} (hk:k < rs.length) (x:List Rn):nmOf rs0 (rs++x) k=nmOf rs0 rs k:=by
 unfold nmOf
 rw [List.getElem?_append_left hk]
theorem GrownT.found (h:GrownT rs0 rs) {ct:Nm} {i:Nat} (hi:fstC ct rs=some i):nmOf rs0 rs i=resN rs0 ct∧i < rs.length:=by
 obtain ⟨r,h1,h2⟩:=fstC_some hi
 have hl:=(List.getElem?_eq_some_iff.1 h1).1
 refine ⟨?_,hl⟩
 obtain ⟨e,rfl⟩:=h.pre
 rw [fstC_app] at hi
 unfold nmOf resN
 cases hc:fstC ct rs0 with
 | some j =>
  rw [hc] at hi
  cases hi
  obtain ⟨r',g1,_⟩:=fstC_some hc
  rw [if_pos (List.getElem?_eq_some_iff.1 g1).1]
 | none =>
  rw [hc] at hi
  obtain ⟨j,_,rfl⟩:=Option.map_eq_some_iff.1 hi
  rw [if_neg (by omega),h1]
  exact h2
theorem GrownT.put (h:GrownT rs0 rs) {n:Rn} (hn:fstC (ctOf n) rs=none):GrownT rs0 (rs++[n])∧nmOf rs0 (rs++[n]) rs.length=resN rs0 (ctOf n):=by
 have hl:=h.len
 have h0:fstC (ctOf n) rs0=none:=by
  obtain ⟨e,rfl⟩:=h.pre
  rw [fstC_app] at hn
  cases hc:fstC (ctOf n) rs0 with
  | none=>rfl
  | some i=>rw [hc] at hn;cases hn
 have old:∀ {k r},(rs++[n])[k]?=some r→(k < rs.length∧rs[k]?=some r)∨(k=rs.length∧r=n):=fun {k r} hk=>by
  by_cases g:k < rs.length
  ·rw [List.getElem?_append_left g] at hk;exact .inl ⟨g,hk⟩
  ·have:=(List.getElem?_eq_some_iff.1 hk).1
   simp at this
   obtain rfl:k=rs.length:=by omega
   simp at hk
   exact .inr ⟨rfl,hk.symm⟩
 refine ⟨⟨?_,fun k r hk hr=>?_,fun i j r s hi hj hr hs e=>?_⟩,?_⟩
 ·obtain ⟨e,he⟩:=h.pre
  exact ⟨e++[n],by rw [he,List.append_assoc]⟩
 ·rcases old hr with ⟨_,g⟩ | ⟨_,rfl⟩
  ·exact h.new k r hk g
  ·exact h0
 ·rcases old hr with ⟨g1,g2⟩ | ⟨rfl,rfl⟩<;>rcases old hs with ⟨g3,g4⟩ | ⟨rfl,rfl⟩
  ·exact h.inj i j r s hi hj g2 g4 e
  ·exact absurd e (fstC_none hn r (List.mem_of_getElem? g2))
  ·exact absurd e.symm (fstC_none hn s (List.mem_of_getElem? g4))
  ·rfl
 ·unfold nmOf resN
  rw [if_neg (by omega),h0]
  simp
end grown
def kidL (rs0:List Rn) (k:Nat):Nat:=match rs0[k]? with
 | some r=>r.l.toNat
 | none=>0
def kidR (rs0:List Rn) (k:Nat):Nat:=match rs0[k]? with
 | some r=>r.r.toNat
 | none=>0
def uni (rs0:List Rn):Re→Nat→List (List Nm)
 | .blank,_=>[]
 | .set _,_=>[[]]
 | .seq a b,k=>(uni rs0 a (kidL rs0 k)).map (·++[Nm.o (kidR rs0 k)])++uni rs0 b (kidR rs0 k)
 | .alt a b,k=>uni rs0 a (kidL rs0 k)++uni rs0 b (kidR rs0 k)
 | .star a,k=>(uni rs0 a (kidL rs0 k)).map (·++[Nm.o k])
 | .plus a,k=>(uni rs0 a (kidL rs0 k)).map (·++[resN rs0 (.x 5 (kidL rs0 k:Nat) 0 0)])
 | .opt a,k=>uni rs0 a (kidL rs0 k)
 | .times m n a,k=>if m≤n then (List.range n).flatMap (fun j=>(uni rs0 a (kidL rs0 k)).map (·++[resN rs0 (.x 8 (kidL rs0 k:Nat) ((m - (j+1):Nat):Int) ((n - (j+1):Nat):Int))])) else []
theorem flatMap_len {α β:Type} (f:α→List β) (c:Nat):∀ l:List α,(∀ a∈l,(f a).length=c)→(l.flatMap f).length=l.length * c
 | [],_=>by simp
 | a ::l,h=>by
  rw [List.flatMap_cons,List.length_append,h a (by simp),flatMap_len f c l fun x hx=>h x (by simp [hx]),List.length_cons,Nat.add_mul]
  omega
theorem uni_len (rs0:List Rn):∀ (R:Re) (k:Nat),((uni rs0 R k).length:Int)≤R.wt
 | .blank,k=>by simp [uni,Re.wt]
 | .set f,k=>by simp [uni,Re.wt]
 | .seq a b,k=>by
  have h1:=uni_len rs0 a (kidL rs0 k)
  have h2:=uni_len rs0 b (kidR rs0 k)
  simp only [uni,Re.wt,List.length_append,List.length_map]
  omega
 | .alt a b,k=>by
  have h1:=uni_len rs0 a (kidL rs0 k)
  have h2:=uni_len rs0 b (kidR rs0 k)
  simp only [uni,Re.wt,List.length_append]
  omega
 | .star a,k=>by
  have h1:=uni_len rs0 a (kidL rs0 k)
  simp only [uni,Re.wt,List.length_map];exact h1
 | .plus a,k=>by
  have h1:=uni_len rs0 a (kidL rs0 k)
  simp only [uni,Re.wt,List.length_map];exact h1
 | .opt a,k=>uni_len rs0 a (kidL rs0 k)
 | .times m n a,k=>by
  have h1:=uni_len rs0 a (kidL rs0 k)
  have h2:=Re.wt_pos (.times m n a)
  simp only [uni]
  split
  ·rw [flatMap_len _ (uni rs0 a (kidL rs0 k)).length _ (fun j _=>by rw [List.length_map]),List.length_range]
   have h3:((n * (uni rs0 a (kidL rs0 k)).length:Nat):Int)≤a.wt * (n:Int):=by
    rw [Int.natCast_mul,Int.mul_comm]
    exact Int.mul_le_mul_of_nonneg_right h1 (by omega)
   have h4:a.wt * (n:Int)≤(Re.times m n a).wt:=by
    show _≤max1 _
    unfold max1
    split<;>omega
   omega
  ·simp only [List.length_nil];omega
inductive Der1 (rs0:List Rn):Nm→List Nm→Prop
 | orig {R:Re} {k:Nat} {σ:List Nm} (h:Dr rs0 R (k:Int)) (hσ:σ∈uni rs0 R k):Der1 rs0 (.o k) σ
 | star {a:Re} {l:Nat} {σ:List Nm} (h:Dr rs0 a (l:Int)) (hσ:σ∈uni rs0 a l):Der1 rs0 (.x 5 (l:Int) 0 0) (σ++[.x 5 (l:Int) 0 0])
 | times {a:Re} {l m n:Nat} {σ:List Nm} (h:Dr rs0 a (l:Int)) (hσ:σ∈uni rs0 a l) (hn:1≤n) (hm:m≤n):Der1 rs0 (.x 8 (l:Int) (m:Int) (n:Int)) (σ++[resN rs0 (.x 8 (l:Int) ((m - 1:Nat):Int) ((n - 1:Nat):Int))])
def Closed (rs0:List Rn) (U:List (List Nm)):Prop:=∀ τ∈U,∀ α x β σ,τ=α++x ::β→Der1 rs0 x σ→σ++β∈U
theorem split_last {α β σ0:List Nm} {x y:Nm} (h:σ0++[y]=α++x ::β):(x=y∧α=σ0∧β=[])∨∃ β',β=β'++[y]∧σ0=α++x ::β':=by
 rcases List.eq_nil_or_concat β with rfl | ⟨β',z,rfl⟩
 ·have:=List.append_inj' h (by simp)
  simp at this
  exact .inl ⟨this.2.symm,this.1.symm,rfl⟩
 ·right
  rw [List.concat_eq_append] at h ⊢
  have h':σ0++[y]=(α++x ::β')++[z]:=by rw [h];simp
  have:=List.append_inj' h' (by simp)
  simp at this
  exact ⟨β',by rw [this.2],this.1⟩
theorem closed_map {rs0:List Rn} {A:List (List Nm)} {y:Nm} {U:List (List Nm)} (hA:Closed rs0 A) (hsub:∀ σ∈A,σ++[y]∈U) (hy:∀ σ,Der1 rs0 y σ→σ∈U):∀ τ∈A.map (·++[y]),∀ α x β σ,τ=α++x ::β→Der1 rs0 x σ→σ++β∈U:=by
 intro τ hτ α x β σ e hd
 obtain ⟨σ0,h0,rfl⟩:=List.mem_map.1 hτ
 rcases split_last e with ⟨rfl,rfl,rfl⟩ | ⟨β',rfl,e'⟩
 ·rw [List.append_nil];exact hy σ hd
 ·rw [←List.append_assoc]
  exact hsub _ (hA σ0 h0 α x β' σ e' hd)
theorem kidL_of {rs0:List Rn} {k:Nat} {r:Rn} (h:rs0[k]?=some r):kidL rs0 k=r.l.toNat:=by unfold kidL;rw [h]
theorem kidR_of {rs0:List Rn} {k:Nat} {r:Rn} (h:rs0[k]?=some r):kidR rs0 k=r.r.toNat:=by unfold kidR;rw [h]
theorem Dr.nonneg {rs:List Rn}:∀ {R:Re} {k:Int},Dr rs R k→0≤k
 | .blank,_,⟨_,h,_⟩=>h
 | .set _,_,⟨_,h,_⟩=>h
 | .seq _ _,_,⟨_,h,_⟩=>h
 | .alt _ _,_,⟨_,h,_⟩=>h
 | .star _,_,⟨_,h,_⟩=>h
 | .plus _,_,⟨_,h,_⟩=>h
 | .opt _,_,⟨_,h,_⟩=>h
 | .times _ _ _,_,⟨_,h,_⟩=>h
theorem Dr.kid {rs:List Rn} {R:Re} {k:Int} (h:Dr rs R k):Dr rs R ((k.toNat:Nat):Int):=by rw [Int.toNat_of_nonneg h.nonneg];exact h
theorem toNat_cast {k:Int} (h:0≤k):((k.toNat:Nat):Int)=k:=Int.toNat_of_nonneg h
theorem res_star {rs0:List Rn} {a:Re} {l:Nat} (ha:Dr rs0 a (l:Int)) {σ:List Nm} (hd:Der1 rs0 (resN rs0 (.x 5 (l:Int) 0 0)) σ):∃ σ0∈uni rs0 a l,σ=σ0++[resN rs0 (.x 5 (l:Int) 0 0)]:=by
 cases hc:fstC (.x 5 (l:Int) 0 0) rs0 with
 | some i =>
  have hr:resN rs0 (.x 5 (l:Int) 0 0)=.o i:=by unfold resN;rw [hc]
  rw [hr] at hd ⊢
  obtain ⟨r,h1,h2⟩:=fstC_some hc
  simp only [ctOf,Nm.x.injEq] at h2
  obtain ⟨e1,e2,_,_⟩:=h2
  cases hd with
  | orig h hσ =>
   rename_i R
   obtain ⟨r',g1,g2⟩:=h.kind
   rw [Int.toNat_natCast,h1] at g1
   cases g1
   rw [e1] at g2
   cases R<;>simp [kindR] at g2
   rename_i a'
   obtain ⟨r',_,g3,_,g4⟩:=h
   rw [Int.toNat_natCast,h1] at g3
   cases g3
   rw [e2] at g4
   obtain rfl:=Dr.same g4 ha
   simp only [uni,kidL_of h1,e2,Int.toNat_natCast] at hσ
   obtain ⟨σ0,q1,rfl⟩:=List.mem_map.1 hσ
   exact ⟨σ0,q1,rfl⟩
 | none =>
  have hr:resN rs0 (.x 5 (l:Int) 0 0)=.x 5 (l:Int) 0 0:=by unfold resN;rw [hc]
  rw [hr] at hd ⊢
  generalize he:Nm.x 5 (l:Int) 0 0=y at hd ⊢
  cases hd with
  | orig h hσ=>cases he
  | star h hσ =>
   simp only [Nm.x.injEq,true_and,and_true] at he
   obtain rfl:=Int.ofNat.inj he
   obtain rfl:=Dr.same h ha
   exact ⟨_,hσ,rfl⟩
  | times h hσ hn hm=>simp at he
theorem res_times {rs0:List Rn} {a:Re} {l m n:Nat} (ha:Dr rs0 a (l:Int)) {σ:List Nm} (hd:Der1 rs0 (resN rs0 (.x 8 (l:Int) (m:Int) (n:Int))) σ):m≤n∧∃ j,j < n∧∃ σ0∈uni rs0 a l,σ=σ0++[resN rs0 (.x 8 (l:Int) ((m - (j+1):Nat):Int) ((n - (j+1):Nat):Int))]:=by
 cases hc:fstC (.x 8 (l:Int) (m:Int) (n:Int)) rs0 with
 | some i =>
  have hr:resN rs0 (.x 8 (l:Int) (m:Int) (n:Int))=.o i:=by unfold resN;rw [hc]
  rw [hr] at hd
  obtain ⟨r,h1,h2⟩:=fstC_some hc
  simp only [ctOf,Nm.x.injEq] at h2
  obtain ⟨e1,e2,e3,e4⟩:=h2
  cases hd with
  | orig h hσ =>
   rename_i R
   obtain ⟨r',g1,g2⟩:=h.kind
   rw [Int.toNat_natCast,h1] at g1
   cases g1
   rw [e1] at g2
   cases R<;>simp [kindR] at g2
   rename_i m' n' a'
   obtain ⟨r',_,g3,_,g5,g6,_,_,g4⟩:=h
   rw [Int.toNat_natCast,h1] at g3
   cases g3
   rw [e2] at g4
   rw [e3] at g5
   rw [e4] at g6
   obtain rfl:m=m':=by omega
   obtain rfl:n=n':=by omega
   obtain rfl:=Dr.same g4 ha
   simp only [uni,kidL_of h1,e2,Int.toNat_natCast] at hσ
   split at hσ
   ·next hmn =>
    obtain ⟨j,q1,q2⟩:=List.mem_flatMap.1 hσ
    obtain ⟨σ0,q3,rfl⟩:=List.mem_map.1 q2
    exact ⟨hmn,j,List.mem_range.1 q1,σ0,q3,rfl⟩
   ·cases hσ
 | none =>
  have hr:resN rs0 (.x 8 (l:Int) (m:Int) (n:Int))=.x 8 (l:Int) (m:Int) (n:Int):=by unfold resN;rw [hc]
  rw [hr] at hd
  generalize he:Nm.x 8 (l:Int) (m:Int) (n:Int)=y at hd
  cases hd with
  | orig h hσ=>cases he
  | star h hσ=>simp at he
  | times h hσ hn hm =>
   simp only [Nm.x.injEq,true_and] at he
   obtain ⟨q1,q2,q3⟩:=he
   obtain rfl:=Int.ofNat.inj q1
   obtain rfl:=Int.ofNat.inj q2
   obtain rfl:=Int.ofNat.inj q3
   obtain rfl:=Dr.same h ha
   exact ⟨hm,0,by omega,_,hσ,rfl⟩
theorem uni_closed (rs0:List Rn):∀ (R:Re) (k:Nat),Dr rs0 R (k:Int)→Closed rs0 (uni rs0 R k)
 | .blank,k,_=>fun τ hτ=>by cases hτ
 | .set f,k,_=>fun τ hτ α x β σ e _=>by
  simp only [uni,List.mem_singleton] at hτ
  subst hτ
  simp at e
 | .seq a b,k,h=>by
  obtain ⟨r,_,h1,_,ha,hb⟩:=h
  rw [Int.toNat_natCast] at h1
  have ka:=ha.kid
  have kb:=hb.kid
  rw [←kidL_of h1] at ka
  rw [←kidR_of h1] at kb
  intro τ hτ α x β σ e hd
  simp only [uni] at hτ ⊢
  rcases List.mem_append.1 hτ with hτ | hτ
  ·refine closed_map (uni_closed rs0 a _ ka) (U:=(uni rs0 a (kidL rs0 k)).map (·++[Nm.o (kidR rs0 k)])++uni rs0 b (kidR rs0 k)) (fun σ hσ=>List.mem_append_left _ (List.mem_map.2 ⟨σ,hσ,rfl⟩)) (fun σ hd=>?_) τ hτ α x β σ e hd
   cases hd with
   | orig h' hσ =>
    obtain rfl:=Dr.same h' kb
    exact List.mem_append_right _ hσ
  ·exact List.mem_append_right _ (uni_closed rs0 b _ kb τ hτ α x β σ e hd)
 | .alt a b,k,h=>by
  obtain ⟨r,_,h1,_,ha,hb⟩:=h
  rw [Int.toNat_natCast] at h1
  have ka:=ha.kid
  have kb:=hb.kid
  rw [←kidL_of h1] at ka
  rw [←kidR_of h1] at kb
  intro τ hτ α x β σ e hd
  simp only [uni] at hτ ⊢
  rcases List.mem_append.1 hτ with hτ | hτ
  ·exact List.mem_append_left _ (uni_closed rs0 a _ ka τ hτ α x β σ e hd)
  ·exact List.mem_append_right _ (uni_closed rs0 b _ kb τ hτ α x β σ e hd)
 | .star a,k,h=>by
  have h0:=h
  obtain ⟨r,_,h1,_,ha⟩:=h
  rw [Int.toNat_natCast] at h1
  have ka:=ha.kid
  rw [←kidL_of h1] at ka
  intro τ hτ α x β σ e hd
  simp only [uni] at hτ ⊢
  refine closed_map (uni_closed rs0 a _ ka) (U:=(uni rs0 a (kidL rs0 k)).map (·++[Nm.o k])) (fun σ hσ=>List.mem_map.2 ⟨σ,hσ,rfl⟩) (fun σ hd=>?_) τ hτ α x β σ e hd
  cases hd with
  | orig h' hσ =>
   obtain rfl:=Dr.same h' h0
   exact hσ
 | .plus a,k,h=>by
  obtain ⟨r,_,h1,_,ha⟩:=h
  rw [Int.toNat_natCast] at h1
  have ka:=ha.kid
  rw [←kidL_of h1] at ka
  intro τ hτ α x β σ e hd
  simp only [uni] at hτ ⊢
  refine closed_map (uni_closed rs0 a _ ka) (U:=(uni rs0 a (kidL rs0 k)).map (·++[resN rs0 (.x 5 (kidL rs0 k:Nat) 0 0)])) (fun σ hσ=>List.mem_map.2 ⟨σ,hσ,rfl⟩) (fun σ hd=>?_) τ hτ α x β σ e hd
  obtain ⟨σ0,q1,rfl⟩:=res_star ka hd
  exact List.mem_map.2 ⟨σ0,q1,rfl⟩
 | .opt a,k,h=>by
  obtain ⟨r,_,h1,_,ha⟩:=h
  rw [Int.toNat_natCast] at h1
  have ka:=ha.kid
  rw [←kidL_of h1] at ka
  exact uni_closed rs0 a _ ka
 | .times m n a,k,h=>by
  obtain ⟨r,_,h1,_,_,_,_,_,ha⟩:=h
  rw [Int.toNat_natCast] at h1
  have ka:=ha.kid
  rw [←kidL_of h1] at ka
  intro τ hτ α x β σ e hd
  simp only [uni] at hτ ⊢
  split at hτ
  ·next hmn =>
   rw [if_pos hmn]
   obtain ⟨j,hj,hτ⟩:=List.mem_flatMap.1 hτ
   have hj':=List.mem_range.1 hj
   refine closed_map (uni_closed rs0 a _ ka) (U:=(List.range n).flatMap (fun j=>(uni rs0 a (kidL rs0 k)).map (·++[resN rs0 (.x 8 (kidL rs0 k:Nat) ((m - (j+1):Nat):Int) ((n - (j+1):Nat):Int))]))) (fun σ hσ=>List.mem_flatMap.2 ⟨j,hj,List.mem_map.2 ⟨σ,hσ,rfl⟩⟩) (fun σ hd=>?_) τ hτ α x β σ e hd
   obtain ⟨_,j',q1,σ0,q2,rfl⟩:=res_times ka hd
   refine List.mem_flatMap.2 ⟨j+1+j',List.mem_range.2 (by omega),List.mem_map.2 ⟨σ0,q2,?_⟩⟩
   have e1:m - (j+1+j'+1)=m - (j+1) - (j'+1):=by omega
   have e2:n - (j+1+j'+1)=n - (j+1) - (j'+1):=by omega
   show σ0++[_]=σ0++[_]
   rw [e1,e2]
  ·cases hτ
end Go.Proofs.YtjooemengpeaaaaGreat
