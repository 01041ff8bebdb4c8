/-
  Plain mathematics: texts that are put together: what the document's answer makes of them, and that the look over them meets no error.
  Plain mathematics: the terms that can be left are few: names for the nodes of a tree that grows, and the terms over them.
  Plain mathematics: sets of strings as sorted lists; how many there can be.
  Plain mathematics: how many nodes a tree can come to have.
-/
import Derived.Test.YtobfpgoepaeknaaGreatTA07
import Derived.Test.YtobfpgoepaeknaaGreatTA06
namespace Go.Proofs.YtobfpgoepaeknaaGreat
def kindR:Re→Int:=Re.fold ⟨1,fun _=>2,fun _ _=>3,fun _ _=>4,fun _=>5,fun _=>6,fun _=>7,fun _ _ _=>8⟩
theorem kind_blank:kindR .blank=1:=rfl
theorem kind_set (f:Nat→Bool):kindR (.set f)=2:=rfl
theorem kind_seq (a b:Re):kindR (.seq a b)=3:=rfl
theorem kind_alt (a b:Re):kindR (.alt a b)=4:=rfl
theorem kind_star (a:Re):kindR (.star a)=5:=rfl
theorem kind_plus (a:Re):kindR (.plus a)=6:=rfl
theorem kind_opt (a:Re):kindR (.opt a)=7:=rfl
theorem kind_times (m n:Nat) (a:Re):kindR (.times m n a)=8:=rfl
theorem Dr.kind {rs:List Rn} {R:Re} {k:Int} (h:Dr rs R k):∃ r,rs[k.toNat]?=some r∧r.kind=kindR R:=by
 cases R using Re.ind with
 | blank=>obtain ⟨r,_,h1,h2⟩:=h;exact ⟨r,h1,h2⟩
 | set f=>obtain ⟨r,_,h1,h2,_⟩:=h;exact ⟨r,h1,h2⟩
 | seq a b _ _=>obtain ⟨r,_,h1,h2,_⟩:=h;exact ⟨r,h1,h2⟩
 | alt a b _ _=>obtain ⟨r,_,h1,h2,_⟩:=h;exact ⟨r,h1,h2⟩
 | star a _=>obtain ⟨r,_,h1,h2,_⟩:=h;exact ⟨r,h1,h2⟩
 | plus a _=>obtain ⟨r,_,h1,h2,_⟩:=h;exact ⟨r,h1,h2⟩
 | opt a _=>obtain ⟨r,_,h1,h2,_⟩:=h;exact ⟨r,h1,h2⟩
 | times m n a _=>obtain ⟨r,_,h1,h2,_⟩:=h;exact ⟨r,h1,h2⟩
theorem some_same {α:Type} {o:Option α} {a b:α} (h:o=some a) (k:o=some b):a=b:=Option.some.inj (h.symm.trans k)
section
attribute [local simp] kind_blank kind_set kind_seq kind_alt kind_star kind_plus kind_opt kind_times
theorem Dr.same {rs:List Rn}:∀ {R S:Re} {k:Int},Dr rs R k→Dr rs S k→R=S:=by
 intro R
 induction R using Re.ind with
 | blank =>
  intro S k h g
  have hk:kindR .blank=kindR S:=by obtain ⟨r,a1,a2⟩:=h.kind;obtain ⟨r',b1,b2⟩:=g.kind;have:=some_same a1 b1;subst this;rw [←a2,←b2]
  cases S using Re.ind with
  | blank=>rfl
  | _=>exact absurd hk (by simp)
 | set f =>
  intro S k h g
  have hk:kindR (.set f)=kindR S:=by obtain ⟨r,a1,a2⟩:=h.kind;obtain ⟨r',b1,b2⟩:=g.kind;have:=some_same a1 b1;subst this;rw [←a2,←b2]
  cases S using Re.ind with
  | set f'=>obtain ⟨r,_,a1,_,a2⟩:=h;obtain ⟨r',_,b1,_,b2⟩:=g;have:=some_same a1 b1;subst this;rw [←a2,←b2]
  | _=>exact absurd hk (by simp)
 | seq a b iha ihb =>
  intro S k h g
  have hk:kindR (.seq a b)=kindR S:=by obtain ⟨r,a1,a2⟩:=h.kind;obtain ⟨r',b1,b2⟩:=g.kind;have:=some_same a1 b1;subst this;rw [←a2,←b2]
  cases S using Re.ind with
  | seq a' b' _ _=>obtain ⟨r,_,a1,_,a2,a3⟩:=h;obtain ⟨r',_,b1,_,b2,b3⟩:=g;have:=some_same a1 b1;subst this;rw [iha a2 b2,ihb a3 b3]
  | _=>exact absurd hk (by simp)
 | alt a b iha ihb =>
  intro S k h g
  have hk:kindR (.alt a b)=kindR S:=by obtain ⟨r,a1,a2⟩:=h.kind;obtain ⟨r',b1,b2⟩:=g.kind;have:=some_same a1 b1;subst this;rw [←a2,←b2]
  cases S using Re.ind with
  | alt a' b' _ _=>obtain ⟨r,_,a1,_,a2,a3⟩:=h;obtain ⟨r',_,b1,_,b2,b3⟩:=g;have:=some_same a1 b1;subst this;rw [iha a2 b2,ihb a3 b3]
  | _=>exact absurd hk (by simp)
 | star a iha =>
  intro S k h g
  have hk:kindR (.star a)=kindR S:=by obtain ⟨r,a1,a2⟩:=h.kind;obtain ⟨r',b1,b2⟩:=g.kind;have:=some_same a1 b1;subst this;rw [←a2,←b2]
  cases S using Re.ind with
  | star a' _=>obtain ⟨r,_,a1,_,a2⟩:=h;obtain ⟨r',_,b1,_,b2⟩:=g;have:=some_same a1 b1;subst this;rw [iha a2 b2]
  | _=>exact absurd hk (by simp)
 | plus a iha =>
  intro S k h g
  have hk:kindR (.plus a)=kindR S:=by obtain ⟨r,a1,a2⟩:=h.kind;obtain ⟨r',b1,b2⟩:=g.kind;have:=some_same a1 b1;subst this;rw [←a2,←b2]
  cases S using Re.ind with
  | plus a' _=>obtain ⟨r,_,a1,_,a2⟩:=h;obtain ⟨r',_,b1,_,b2⟩:=g;have:=some_same a1 b1;subst this;rw [iha a2 b2]
  | _=>exact absurd hk (by simp)
 | opt a iha =>
  intro S k h g
  have hk:kindR (.opt a)=kindR S:=by obtain ⟨r,a1,a2⟩:=h.kind;obtain ⟨r',b1,b2⟩:=g.kind;have:=some_same a1 b1;subst this;rw [←a2,←b2]
  cases S using Re.ind with
  | opt a' _=>obtain ⟨r,_,a1,_,a2⟩:=h;obtain ⟨r',_,b1,_,b2⟩:=g;have:=some_same a1 b1;subst this;rw [iha a2 b2]
  | _=>exact absurd hk (by simp)
 | times m n a iha =>
  intro S k h g
  have hk:kindR (.times m n a)=kindR S:=by obtain ⟨r,a1,a2⟩:=h.kind;obtain ⟨r',b1,b2⟩:=g.kind;have:=some_same a1 b1;subst this;rw [←a2,←b2]
  cases S using Re.ind with
  | times m' n' a' _ =>
   obtain ⟨r,_,a1,_,a2,a3,_,_,a4⟩:=h
   obtain ⟨r',_,b1,_,b2,b3,_,_,b4⟩:=g
   have:=some_same a1 b1
   subst this
   have e1:m=m':=by omega
   have e2:n=n':=by omega
   rw [iha a4 b4,e1,e2]
  | _=>exact absurd hk (by simp)
theorem Dr.of5 {rs:List Rn} {R:Re} {k:Int} {r:Rn} (h:Dr rs R k) (h1:rs[k.toNat]?=some r) (hk:r.kind=5):∃ a,R=.star a∧Dr rs a r.l:=by
 obtain ⟨r',g1,g2⟩:=h.kind
 rw [some_same g1 h1,hk] at g2
 cases R using Re.ind with
 | star a _=>obtain ⟨r',_,g3,_,g4⟩:=h;rw [some_same g3 h1] at g4;exact ⟨a,rfl,g4⟩
 | _=>exact absurd g2 (by simp)
theorem Dr.of8 {rs:List Rn} {R:Re} {k:Int} {r:Rn} (h:Dr rs R k) (h1:rs[k.toNat]?=some r) (hk:r.kind=8):∃ m n a,R=.times m n a∧r.m=(m:Int)∧r.n=(n:Int)∧Dr rs a r.l:=by
 obtain ⟨r',g1,g2⟩:=h.kind
 rw [some_same g1 h1,hk] at g2
 cases R using Re.ind with
 | times m n a _=>obtain ⟨r',_,g3,_,g5,g6,_,_,g4⟩:=h;rw [some_same g3 h1] at g4 g5 g6;exact ⟨m,n,a,rfl,g5,g6,g4⟩
 | _=>exact absurd g2 (by simp)
end
end Go.Proofs.YtobfpgoepaeknaaGreat
namespace Go.Proofs.YtobfpgoepaeknaaGreat
abbrev Nm:=Nat ⊕ (Int × Int × Int × Int)
def Nm.o (k:Nat):Nm:=Sum.inl k
def Nm.x (kind l m n:Int):Nm:=Sum.inr (kind,l,m,n)
theorem Nm.x.injEq (a b c d a' b' c' d':Int):(Nm.x a b c d=Nm.x a' b' c' d')=(a=a'∧b=b'∧c=c'∧d=d'):=by simp [Nm.x]
theorem Nm.o_inj {k l:Nat} (h:Nm.o k=Nm.o l):k=l:=Sum.inl.inj h
theorem Nm.ne {k:Nat} {a b c d:Int} (h:Nm.x a b c d=Nm.o k):False:=by cases h
def ctOf (r:Rn):Nm:=.x r.kind r.l r.m r.n
def fstC (ct:Nm):List Rn→Option Nat
 | []=>none
 | r ::l=>if ctOf r=ct then some 0 else (fstC ct l).map (·+1)
theorem fstC_some {ct:Nm}:∀ {l:List Rn} {i:Nat},fstC ct l=some i→∃ r,l[i]?=some r∧ctOf r=ct
 | [],i,h=>by cases h
 | r ::l,i,h=>by
  rw [fstC] at h
  split at h
  ·next hc=>cases h;exact ⟨r,rfl,hc⟩
  ·obtain ⟨j,hj,rfl⟩:=Option.map_eq_some_iff.1 h
   obtain ⟨r',h1,h2⟩:=fstC_some hj
   exact ⟨r',h1,h2⟩
theorem fstC_none {ct:Nm}:∀ {l:List Rn},fstC ct l=none→∀ r∈l,ctOf r≠ct
 | [],_,r,hr=>by cases hr
 | r0 ::l,h,r,hr=>by
  rw [fstC] at h
  split at h
  ·cases h
  ·next hc =>
   rcases List.mem_cons.1 hr with rfl | hr
   ·exact hc
   ·exact fstC_none (Option.map_eq_none_iff.1 h) r hr
theorem fstC_app {ct:Nm}:∀ (l m:List Rn),fstC ct (l++m)=match fstC ct l with
  | some i=>some i
  | none=>(fstC ct m).map (·+l.length)
 | [],m=>by
  simp only [List.nil_append,fstC,List.length_nil,Nat.add_zero]
  cases fstC ct m<;>rfl
 | r ::l,m=>by
  rw [List.cons_append,fstC,fstC]
  split
  ·rfl
  ·rw [fstC_app l m]
   cases fstC ct l with
   | some i=>rfl
   | none =>
    cases fstC ct m with
    | none=>rfl
    | some j=>simp;omega
def resN (rs0:List Rn) (ct:Nm):Nm:=match fstC ct rs0 with
 | some i=>.o i
 | none=>ct
structure GrownT (rs0 rs:List Rn):Prop where
 pre:∃ e,rs=rs0++e
 new:∀ k r,rs0.length≤k→rs[k]?=some r→fstC (ctOf r) rs0=none
 inj:∀ i j r s,rs0.length≤i→rs0.length≤j→rs[i]?=some r→rs[j]?=some s→ctOf r=ctOf s→i=j
theorem GrownT.refl (rs:List Rn):GrownT rs rs:=⟨⟨[],by simp⟩,(fun k r h1 h2=>by rw [List.getElem?_eq_none h1] at h2;cases h2),(fun i j r s h1 _ h2=>by rw [List.getElem?_eq_none h1] at h2;cases h2)⟩
def nmOf (rs0 rs:List Rn) (k:Nat):Nm:=if k < rs0.length then .o k else match rs[k]? with
 | some r=>ctOf r
 | none=>.o k
section grown
variable {rs0 rs : List Rn}
theorem GrownT.len (h:GrownT rs0 rs):rs0.length≤rs.length:=by
 obtain ⟨e,rfl⟩:=h.pre;simp
theorem GrownT.nm_inj (h:GrownT rs0 rs) {i j:Nat} (hi:i < rs.length) (hj:j < rs.length) (e:nmOf rs0 rs i=nmOf rs0 rs j):i=j:=by
 unfold nmOf at e
 rw [List.getElem?_eq_getElem hi,List.getElem?_eq_getElem hj] at e
 by_cases h1:i < rs0.length
 ·rw [if_pos h1] at e
  by_cases h2:j < rs0.length
  ·rw [if_pos h2] at e;exact Nm.o_inj e
  ·rw [if_neg h2] at e;cases e
 ·rw [if_neg h1] at e
  by_cases h2:j < rs0.length
  ·rw [if_pos h2] at e;cases e
  ·rw [if_neg h2] at e
   exact h.inj i j _ _ (by omega) (by omega) (List.getElem?_eq_getElem hi) (List.getElem?_eq_getElem hj) e
theorem nmOf_app {k:Nat} (hk:k < rs.length) (x:List Rn):nmOf rs0 (rs++x) k=nmOf rs0 rs k:=by
 unfold nmOf
 rw [List.getElem?_append_left hk]
theorem GrownT.found (h:GrownT rs0 rs) {ct:Nm} {i:Nat} (hi:fstC ct rs=some i):nmOf rs0 rs i=resN rs0 ct∧i < rs.length:=by
 obtain ⟨r,h1,h2⟩:=fstC_some hi
 have hl:=(List.getElem?_eq_some_iff.1 h1).1
 refine ⟨?_,hl⟩
 obtain ⟨e,rfl⟩:=h.pre
 rw [fstC_app] at hi
 unfold nmOf resN
 cases hc:fstC ct rs0 with
 | some j =>
  rw [hc] at hi
  cases hi
  obtain ⟨r',g1,_⟩:=fstC_some hc
  rw [if_pos (List.getElem?_eq_some_iff.1 g1).1]
 | none =>
  rw [hc] at hi
  obtain ⟨j,_,rfl⟩:=Option.map_eq_some_iff.1 hi
  rw [if_neg (by omega),h1]
  exact h2
theorem GrownT.put (h:GrownT rs0 rs) {n:Rn} (hn:fstC (ctOf n) rs=none):GrownT rs0 (rs++[n])∧nmOf rs0 (rs++[n]) rs.length=resN rs0 (ctOf n):=by
 have hl:=h.len
 have h0:fstC (ctOf n) rs0=none:=by
  obtain ⟨e,rfl⟩:=h.pre
  rw [fstC_app] at hn
  cases hc:fstC (ctOf n) rs0 with
  | none=>rfl
  | some i=>rw [hc] at hn;cases hn
 have old:∀ {k r},(rs++[n])[k]?=some r→(k < rs.length∧rs[k]?=some r)∨(k=rs.length∧r=n):=fun {k r} hk=>by
  by_cases g:k < rs.length
  ·rw [List.getElem?_append_left g] at hk;exact .inl ⟨g,hk⟩
  ·have:=(List.getElem?_eq_some_iff.1 hk).1
   simp at this
   obtain rfl:k=rs.length:=by omega
   simp at hk
   exact .inr ⟨rfl,hk.symm⟩
 refine ⟨⟨?_,fun k r hk hr=>?_,fun i j r s hi hj hr hs e=>?_⟩,?_⟩
 ·obtain ⟨e,he⟩:=h.pre
  exact ⟨e++[n],by rw [he,List.append_assoc]⟩
 ·rcases old hr with ⟨_,g⟩ | ⟨_,rfl⟩
  ·exact h.new k r hk g
  ·exact h0
 ·rcases old hr with ⟨g1,g2⟩ | ⟨rfl,rfl⟩<;>rcases old hs with ⟨g3,g4⟩ | ⟨rfl,rfl⟩
  ·exact h.inj i j r s hi hj g2 g4 e
  ·exact absurd e (fstC_none hn r (List.mem_of_getElem? g2))
  ·exact absurd e.symm (fstC_none hn s (List.mem_of_getElem? g4))
  ·rfl
 ·unfold nmOf resN
  rw [if_neg (by omega),h0]
  simp
end grown
def kidL (rs0:List Rn) (k:Nat):Nat:=match rs0[k]? with
 | some r=>r.l.toNat
 | none=>0
def kidR (rs0:List Rn) (k:Nat):Nat:=match rs0[k]? with
 | some r=>r.r.toNat
 | none=>0
def uni (rs0:List Rn):Re→Nat→List (List Nm):=Re.fold (X:=Nat→List (List Nm)) ⟨
 fun _=>[],
 fun _ _=>[[]],
 fun a b k=>(a (kidL rs0 k)).map (·++[Nm.o (kidR rs0 k)])++b (kidR rs0 k),
 fun a b k=>a (kidL rs0 k)++b (kidR rs0 k),
 fun a k=>(a (kidL rs0 k)).map (·++[Nm.o k]),
 fun a k=>(a (kidL rs0 k)).map (·++[resN rs0 (.x 5 (kidL rs0 k:Nat) 0 0)]),
 fun a k=>a (kidL rs0 k),
 fun m n a k=>if m≤n then (List.range n).flatMap (fun j=>(a (kidL rs0 k)).map (·++[resN rs0 (.x 8 (kidL rs0 k:Nat) ((m - (j+1):Nat):Int) ((n - (j+1):Nat):Int))])) else []⟩
section
variable (rs0 : List Rn) (a b : Re) (k : Nat)
theorem uni_set (f:Nat→Bool):uni rs0 (.set f) k=[[]]:=rfl
theorem uni_seq:uni rs0 (.seq a b) k=(uni rs0 a (kidL rs0 k)).map (·++[Nm.o (kidR rs0 k)])++uni rs0 b (kidR rs0 k):=rfl
theorem uni_alt:uni rs0 (.alt a b) k=uni rs0 a (kidL rs0 k)++uni rs0 b (kidR rs0 k):=rfl
theorem uni_star:uni rs0 (.star a) k=(uni rs0 a (kidL rs0 k)).map (·++[Nm.o k]):=rfl
theorem uni_plus:uni rs0 (.plus a) k=(uni rs0 a (kidL rs0 k)).map (·++[resN rs0 (.x 5 (kidL rs0 k:Nat) 0 0)]):=rfl
theorem uni_times (m n:Nat):uni rs0 (.times m n a) k=if m≤n then (List.range n).flatMap (fun j=>(uni rs0 a (kidL rs0 k)).map (·++[resN rs0 (.x 8 (kidL rs0 k:Nat) ((m - (j+1):Nat):Int) ((n - (j+1):Nat):Int))])) else []:=rfl
end
theorem flatMap_len {α β:Type} (f:α→List β) (c:Nat):∀ l:List α,(∀ a∈l,(f a).length=c)→(l.flatMap f).length=l.length * c
 | [],_=>by simp
 | a ::l,h=>by
  rw [List.flatMap_cons,List.length_append,h a (by simp),flatMap_len f c l fun x hx=>h x (by simp [hx]),List.length_cons,Nat.add_mul]
  omega
theorem uni_len (rs0:List Rn) (R:Re):∀ k:Nat,((uni rs0 R k).length:Int)≤R.wt:=by
 induction R using Re.ind with
 | blank=>intro k;show (0:Int)≤1;decide
 | set f=>intro k;show (1:Int)≤1;decide
 | seq a b iha ihb =>
  intro k
  have h1:=iha (kidL rs0 k)
  have h2:=ihb (kidR rs0 k)
  rw [uni_seq,Re.wt_seq,List.length_append,List.length_map]
  omega
 | alt a b iha ihb =>
  intro k
  have h1:=iha (kidL rs0 k)
  have h2:=ihb (kidR rs0 k)
  rw [uni_alt,Re.wt_alt,List.length_append]
  omega
 | star a iha =>
  intro k
  rw [uni_star,List.length_map];exact iha (kidL rs0 k)
 | plus a iha =>
  intro k
  rw [uni_plus,List.length_map];exact iha (kidL rs0 k)
 | opt a iha=>exact fun k=>iha (kidL rs0 k)
 | times m n a iha =>
  intro k
  have h1:=iha (kidL rs0 k)
  have h2:=Re.wt_pos (.times m n a)
  rw [uni_times]
  split
  ·rw [flatMap_len _ (uni rs0 a (kidL rs0 k)).length _ (fun j _=>by rw [List.length_map]),List.length_range]
   have h3:((n * (uni rs0 a (kidL rs0 k)).length:Nat):Int)≤a.wt * (n:Int):=by
    rw [Int.natCast_mul,Int.mul_comm]
    exact Int.mul_le_mul_of_nonneg_right h1 (by omega)
   have h4:a.wt * (n:Int)≤(Re.times m n a).wt:=by
    rw [Re.wt_times]
    unfold max1
    split<;>omega
   omega
  ·simp only [List.length_nil];omega
def Der1 (rs0:List Rn) (x:Nm) (σ:List Nm):Prop :=
 (∃ (R:Re) (k:Nat),x=.o k∧Dr rs0 R (k:Int)∧σ∈uni rs0 R k) ∨
 (∃ (a:Re) (l:Nat) (σ0:List Nm),x=.x 5 (l:Int) 0 0∧Dr rs0 a (l:Int)∧σ0∈uni rs0 a l∧σ=σ0++[.x 5 (l:Int) 0 0]) ∨
 (∃ (a:Re) (l m n:Nat) (σ0:List Nm),x=.x 8 (l:Int) (m:Int) (n:Int)∧Dr rs0 a (l:Int)∧σ0∈uni rs0 a l∧1≤n∧m≤n∧σ=σ0++[resN rs0 (.x 8 (l:Int) ((m - 1:Nat):Int) ((n - 1:Nat):Int))])
theorem Der1.orig {rs0:List Rn} {R:Re} {k:Nat} {σ:List Nm} (h:Dr rs0 R (k:Int)) (hσ:σ∈uni rs0 R k):Der1 rs0 (.o k) σ:=.inl ⟨R,k,rfl,h,hσ⟩
theorem Der1.star {rs0:List Rn} {a:Re} {l:Nat} {σ:List Nm} (h:Dr rs0 a (l:Int)) (hσ:σ∈uni rs0 a l):Der1 rs0 (.x 5 (l:Int) 0 0) (σ++[.x 5 (l:Int) 0 0]):=.inr (.inl ⟨a,l,σ,rfl,h,hσ,rfl⟩)
theorem Der1.times {rs0:List Rn} {a:Re} {l m n:Nat} {σ:List Nm} (h:Dr rs0 a (l:Int)) (hσ:σ∈uni rs0 a l) (hn:1≤n) (hm:m≤n):Der1 rs0 (.x 8 (l:Int) (m:Int) (n:Int)) (σ++[resN rs0 (.x 8 (l:Int) ((m - 1:Nat):Int) ((n - 1:Nat):Int))]):=.inr (.inr ⟨a,l,m,n,σ,rfl,h,hσ,hn,hm,rfl⟩)
theorem Der1.ofO {rs0:List Rn} {i:Nat} {σ:List Nm} (h:Der1 rs0 (.o i) σ):∃ R,Dr rs0 R (i:Int)∧σ∈uni rs0 R i:=by
 rcases h with ⟨R,k,e,h1,h2⟩ | ⟨_,_,_,e,_⟩ | ⟨_,_,_,_,_,e,_⟩
 ·obtain rfl:=Nm.o_inj e;exact ⟨R,h1,h2⟩
 ·exact (Nm.ne e.symm).elim
 ·exact (Nm.ne e.symm).elim
theorem Der1.of5 {rs0:List Rn} {l:Nat} {σ:List Nm} (h:Der1 rs0 (.x 5 (l:Int) 0 0) σ):∃ a σ0,Dr rs0 a (l:Int)∧σ0∈uni rs0 a l∧σ=σ0++[.x 5 (l:Int) 0 0]:=by
 rcases h with ⟨_,_,e,_⟩ | ⟨a,l',σ0,e,h1,h2,h3⟩ | ⟨_,_,_,_,_,e,_⟩
 ·exact (Nm.ne e).elim
 ·simp only [Nm.x.injEq,true_and,and_true] at e
  obtain rfl:=Int.ofNat.inj e
  exact ⟨a,σ0,h1,h2,h3⟩
 ·simp [Nm.x.injEq] at e
theorem Der1.of8 {rs0:List Rn} {l m n:Nat} {σ:List Nm} (h:Der1 rs0 (.x 8 (l:Int) (m:Int) (n:Int)) σ):∃ a σ0,Dr rs0 a (l:Int)∧σ0∈uni rs0 a l∧1≤n∧m≤n∧σ=σ0++[resN rs0 (.x 8 (l:Int) ((m - 1:Nat):Int) ((n - 1:Nat):Int))]:=by
 rcases h with ⟨_,_,e,_⟩ | ⟨_,_,_,e,_⟩ | ⟨a,l',m',n',σ0,e,h1,h2,h3,h4,h5⟩
 ·exact (Nm.ne e).elim
 ·simp [Nm.x.injEq] at e
 ·simp only [Nm.x.injEq,true_and] at e
  obtain ⟨q1,q2,q3⟩:=e
  obtain rfl:=Int.ofNat.inj q1
  obtain rfl:=Int.ofNat.inj q2
  obtain rfl:=Int.ofNat.inj q3
  exact ⟨a,σ0,h1,h2,h3,h4,h5⟩
def Closed (rs0:List Rn) (U:List (List Nm)):Prop:=∀ τ∈U,∀ α x β σ,τ=α++x ::β→Der1 rs0 x σ→σ++β∈U
theorem split_last {α β σ0:List Nm} {x y:Nm} (h:σ0++[y]=α++x ::β):(x=y∧α=σ0∧β=[])∨∃ β',β=β'++[y]∧σ0=α++x ::β':=by
 rcases List.eq_nil_or_concat β with rfl | ⟨β',z,rfl⟩
 ·have:=List.append_inj' h (by simp)
  simp at this
  exact .inl ⟨this.2.symm,this.1.symm,rfl⟩
 ·right
  rw [List.concat_eq_append] at h ⊢
  have h':σ0++[y]=(α++x ::β')++[z]:=by rw [h];simp
  have:=List.append_inj' h' (by simp)
  simp at this
  exact ⟨β',by rw [this.2],this.1⟩
theorem closed_map {rs0:List Rn} {A:List (List Nm)} {y:Nm} {U:List (List Nm)} (hA:Closed rs0 A) (hsub:∀ σ∈A,σ++[y]∈U) (hy:∀ σ,Der1 rs0 y σ→σ∈U):∀ τ∈A.map (·++[y]),∀ α x β σ,τ=α++x ::β→Der1 rs0 x σ→σ++β∈U:=by
 intro τ hτ α x β σ e hd
 obtain ⟨σ0,h0,rfl⟩:=List.mem_map.1 hτ
 rcases split_last e with ⟨rfl,rfl,rfl⟩ | ⟨β',rfl,e'⟩
 ·rw [List.append_nil];exact hy σ hd
 ·rw [←List.append_assoc]
  exact hsub _ (hA σ0 h0 α x β' σ e' hd)
theorem kidL_of {rs0:List Rn} {k:Nat} {r:Rn} (h:rs0[k]?=some r):kidL rs0 k=r.l.toNat:=by unfold kidL;rw [h]
theorem kidR_of {rs0:List Rn} {k:Nat} {r:Rn} (h:rs0[k]?=some r):kidR rs0 k=r.r.toNat:=by unfold kidR;rw [h]
theorem Dr.nonneg {rs:List Rn} {R:Re} {k:Int} (h:Dr rs R k):0≤k:=by
 cases R using Re.ind with
 | blank=>exact h.choose_spec.1
 | set f=>exact h.choose_spec.1
 | seq a b _ _=>exact h.choose_spec.1
 | alt a b _ _=>exact h.choose_spec.1
 | star a _=>exact h.choose_spec.1
 | plus a _=>exact h.choose_spec.1
 | opt a _=>exact h.choose_spec.1
 | times m n a _=>exact h.choose_spec.1
theorem Dr.kid {rs:List Rn} {R:Re} {k:Int} (h:Dr rs R k):Dr rs R ((k.toNat:Nat):Int):=by rw [Int.toNat_of_nonneg h.nonneg];exact h
theorem toNat_cast {k:Int} (h:0≤k):((k.toNat:Nat):Int)=k:=Int.toNat_of_nonneg h
theorem res_star {rs0:List Rn} {a:Re} {l:Nat} (ha:Dr rs0 a (l:Int)) {σ:List Nm} (hd:Der1 rs0 (resN rs0 (.x 5 (l:Int) 0 0)) σ):∃ σ0∈uni rs0 a l,σ=σ0++[resN rs0 (.x 5 (l:Int) 0 0)]:=by
 cases hc:fstC (.x 5 (l:Int) 0 0) rs0 with
 | some i =>
  have hr:resN rs0 (.x 5 (l:Int) 0 0)=.o i:=by unfold resN;rw [hc]
  rw [hr] at hd ⊢
  obtain ⟨r,h1,h2⟩:=fstC_some hc
  simp only [ctOf,Nm.x.injEq] at h2
  obtain ⟨e1,e2,_,_⟩:=h2
  obtain ⟨R,h,hσ⟩:=hd.ofO
  obtain ⟨a',rfl,g4⟩:=h.of5 (by rw [Int.toNat_natCast];exact h1) e1
  rw [e2] at g4
  obtain rfl:=Dr.same g4 ha
  rw [uni_star,kidL_of h1,e2,Int.toNat_natCast] at hσ
  obtain ⟨σ0,q1,rfl⟩:=List.mem_map.1 hσ
  exact ⟨σ0,q1,rfl⟩
 | none =>
  have hr:resN rs0 (.x 5 (l:Int) 0 0)=.x 5 (l:Int) 0 0:=by unfold resN;rw [hc]
  rw [hr] at hd ⊢
  obtain ⟨a',σ0,h,hσ,rfl⟩:=hd.of5
  obtain rfl:=Dr.same h ha
  exact ⟨_,hσ,rfl⟩
theorem res_times {rs0:List Rn} {a:Re} {l m n:Nat} (ha:Dr rs0 a (l:Int)) {σ:List Nm} (hd:Der1 rs0 (resN rs0 (.x 8 (l:Int) (m:Int) (n:Int))) σ):m≤n∧∃ j,j < n∧∃ σ0∈uni rs0 a l,σ=σ0++[resN rs0 (.x 8 (l:Int) ((m - (j+1):Nat):Int) ((n - (j+1):Nat):Int))]:=by
 cases hc:fstC (.x 8 (l:Int) (m:Int) (n:Int)) rs0 with
 | some i =>
  have hr:resN rs0 (.x 8 (l:Int) (m:Int) (n:Int))=.o i:=by unfold resN;rw [hc]
  rw [hr] at hd
  obtain ⟨r,h1,h2⟩:=fstC_some hc
  simp only [ctOf,Nm.x.injEq] at h2
  obtain ⟨e1,e2,e3,e4⟩:=h2
  obtain ⟨R,h,hσ⟩:=hd.ofO
  obtain ⟨m',n',a',rfl,g5,g6,g4⟩:=h.of8 (by rw [Int.toNat_natCast];exact h1) e1
  rw [e2] at g4
  rw [e3] at g5
  rw [e4] at g6
  obtain rfl:m=m':=by omega
  obtain rfl:n=n':=by omega
  obtain rfl:=Dr.same g4 ha
  rw [uni_times] at hσ
  split at hσ
  ·next hmn =>
   obtain ⟨j,q1,q2⟩:=List.mem_flatMap.1 hσ
   rw [kidL_of h1,e2,Int.toNat_natCast] at q2
   obtain ⟨σ0,q3,rfl⟩:=List.mem_map.1 q2
   exact ⟨hmn,j,List.mem_range.1 q1,σ0,q3,rfl⟩
  ·cases hσ
 | none =>
  have hr:resN rs0 (.x 8 (l:Int) (m:Int) (n:Int))=.x 8 (l:Int) (m:Int) (n:Int):=by unfold resN;rw [hc]
  rw [hr] at hd
  obtain ⟨a',σ0,h,hσ,hn,hm,rfl⟩:=hd.of8
  obtain rfl:=Dr.same h ha
  exact ⟨hm,0,by omega,_,hσ,rfl⟩
theorem uni_closed (rs0:List Rn) (R:Re):∀ k:Nat,Dr rs0 R (k:Int)→Closed rs0 (uni rs0 R k):=by
 induction R using Re.ind with
 | blank=>exact fun k _ τ hτ=>by cases hτ
 | set f =>
  intro k _ τ hτ α x β σ e _
  rw [uni_set,List.mem_singleton] at hτ
  subst hτ
  simp at e
 | seq a b iha ihb =>
  intro k h
  obtain ⟨r,_,h1,_,ha,hb⟩:=h.seqE
  rw [Int.toNat_natCast] at h1
  have ka:=ha.kid
  have kb:=hb.kid
  rw [←kidL_of h1] at ka
  rw [←kidR_of h1] at kb
  intro τ hτ α x β σ e hd
  rw [uni_seq] at hτ ⊢
  rcases List.mem_append.1 hτ with hτ | hτ
  ·refine closed_map (iha _ ka) (U:=(uni rs0 a (kidL rs0 k)).map (·++[Nm.o (kidR rs0 k)])++uni rs0 b (kidR rs0 k)) (fun σ hσ=>List.mem_append_left _ (List.mem_map.2 ⟨σ,hσ,rfl⟩)) (fun σ hd=>?_) τ hτ α x β σ e hd
   obtain ⟨R,h',hσ⟩:=hd.ofO
   obtain rfl:=Dr.same h' kb
   exact List.mem_append_right _ hσ
  ·exact List.mem_append_right _ (ihb _ kb τ hτ α x β σ e hd)
 | alt a b iha ihb =>
  intro k h
  obtain ⟨r,_,h1,_,ha,hb⟩:=h.altE
  rw [Int.toNat_natCast] at h1
  have ka:=ha.kid
  have kb:=hb.kid
  rw [←kidL_of h1] at ka
  rw [←kidR_of h1] at kb
  intro τ hτ α x β σ e hd
  rw [uni_alt] at hτ ⊢
  rcases List.mem_append.1 hτ with hτ | hτ
  ·exact List.mem_append_left _ (iha _ ka τ hτ α x β σ e hd)
  ·exact List.mem_append_right _ (ihb _ kb τ hτ α x β σ e hd)
 | star a iha =>
  intro k h
  have h0:=h
  obtain ⟨r,_,h1,_,ha⟩:=h.starE
  rw [Int.toNat_natCast] at h1
  have ka:=ha.kid
  rw [←kidL_of h1] at ka
  intro τ hτ α x β σ e hd
  rw [uni_star] at hτ ⊢
  refine closed_map (iha _ ka) (U:=(uni rs0 a (kidL rs0 k)).map (·++[Nm.o k])) (fun σ hσ=>List.mem_map.2 ⟨σ,hσ,rfl⟩) (fun σ hd=>?_) τ hτ α x β σ e hd
  obtain ⟨R,h',hσ⟩:=hd.ofO
  obtain rfl:=Dr.same h' h0
  exact hσ
 | plus a iha =>
  intro k h
  obtain ⟨r,_,h1,_,ha⟩:=h.plusE
  rw [Int.toNat_natCast] at h1
  have ka:=ha.kid
  rw [←kidL_of h1] at ka
  intro τ hτ α x β σ e hd
  rw [uni_plus] at hτ ⊢
  refine closed_map (iha _ ka) (U:=(uni rs0 a (kidL rs0 k)).map (·++[resN rs0 (.x 5 (kidL rs0 k:Nat) 0 0)])) (fun σ hσ=>List.mem_map.2 ⟨σ,hσ,rfl⟩) (fun σ hd=>?_) τ hτ α x β σ e hd
  obtain ⟨σ0,q1,rfl⟩:=res_star ka hd
  exact List.mem_map.2 ⟨σ0,q1,rfl⟩
 | opt a iha =>
  intro k h
  obtain ⟨r,_,h1,_,ha⟩:=h.optE
  rw [Int.toNat_natCast] at h1
  have ka:=ha.kid
  rw [←kidL_of h1] at ka
  exact iha _ ka
 | times m n a iha =>
  intro k h
  obtain ⟨r,_,h1,_,_,_,_,_,ha⟩:=h.timesE
  rw [Int.toNat_natCast] at h1
  have ka:=ha.kid
  rw [←kidL_of h1] at ka
  intro τ hτ α x β σ e hd
  rw [uni_times] at hτ ⊢
  split at hτ
  ·next hmn =>
   rw [if_pos hmn]
   obtain ⟨j,hj,hτ⟩:=List.mem_flatMap.1 hτ
   have hj':=List.mem_range.1 hj
   refine closed_map (iha _ ka) (U:=(List.range n).flatMap (fun j=>(uni rs0 a (kidL rs0 k)).map (·++[resN rs0 (.x 8 (kidL rs0 k:Nat) ((m - (j+1):Nat):Int) ((n - (j+1):Nat):Int))]))) (fun σ hσ=>List.mem_flatMap.2 ⟨j,hj,List.mem_map.2 ⟨σ,hσ,rfl⟩⟩) (fun σ hd=>?_) τ hτ α x β σ e hd
   obtain ⟨_,j',q1,σ0,q2,rfl⟩:=res_times ka hd
   refine List.mem_flatMap.2 ⟨j+1+j',List.mem_range.2 (by omega),List.mem_map.2 ⟨σ0,q2,?_⟩⟩
   have e1:m - (j+1+j'+1)=m - (j+1) - (j'+1):=by omega
   have e2:n - (j+1+j'+1)=n - (j+1) - (j'+1):=by omega
   show σ0++[_]=σ0++[_]
   rw [e1,e2]
  ·cases hτ
end Go.Proofs.YtobfpgoepaeknaaGreat
namespace Go.Proofs.YtobfpgoepaeknaaGreat
def lessS (a b:ByteArray):Bool:=Op.bytesLess a.toList b.toList
theorem bl_irrefl:∀ l:List UInt8,Op.bytesLess l l=false
 | []=>rfl
 | a ::l=>by simp [Op.bytesLess,bl_irrefl l]
theorem bl_trans:∀ {a b c:List UInt8},Op.bytesLess a b=true→Op.bytesLess b c=true→Op.bytesLess a c=true
 | _,[],_,h,_=>by simp [Op.bytesLess] at h
 | _,_ ::_,[],_,h=>by simp [Op.bytesLess] at h
 | [],_ ::_,_ ::_,_,_=>rfl
 | x ::a,y ::b,z ::c,h1,h2=>by
  simp only [Op.bytesLess,Bool.or_eq_true,Bool.and_eq_true,decide_eq_true_eq,beq_iff_eq] at h1 h2 ⊢
  rcases h1 with h1 | ⟨rfl,h1⟩
  ·rcases h2 with h2 | ⟨rfl,h2⟩
   ·exact .inl (UInt8.lt_trans h1 h2)
   ·exact .inl h1
  ·rcases h2 with h2 | ⟨rfl,h2⟩
   ·exact .inl h2
   ·exact .inr ⟨rfl,bl_trans h1 h2⟩
theorem bl_total:∀ {a b:List UInt8},a≠b→Op.bytesLess a b=false→Op.bytesLess b a=true
 | [],[],h,_=>absurd rfl h
 | [],_ ::_,_,h=>by simp [Op.bytesLess] at h
 | _ ::_,[],_,_=>rfl
 | x ::a,y ::b,hne,h=>by
  simp only [Op.bytesLess,Bool.or_eq_false_iff,Bool.and_eq_false_iff,decide_eq_false_iff_not,Bool.or_eq_true,Bool.and_eq_true,decide_eq_true_eq,beq_iff_eq,beq_eq_false_iff_ne] at h ⊢
  by_cases e:x=y
  ·subst e
   right
   refine ⟨rfl,bl_total (fun e=>hne (by rw [e])) ?_⟩
   rcases h.2 with g | g
   ·exact absurd rfl g
   ·exact g
  ·left
   rcases Nat.lt_trichotomy x.toNat y.toNat with g | g | g
   ·exact absurd (UInt8.lt_iff_toNat_lt.2 g) h.1
   ·exact absurd (UInt8.toNat_inj.1 g) e
   ·exact UInt8.lt_iff_toNat_lt.2 g
theorem ba_ext {a b:ByteArray} (h:a.toList=b.toList):a=b:=by
 rw [ByteArray.toList_eq,ByteArray.toList_eq] at h
 cases a with | mk a=>cases b with | mk b=>simpa using h
theorem lessS_irrefl (a:ByteArray):lessS a a=false:=bl_irrefl _
theorem lessS_trans {a b c:ByteArray} (h:lessS a b=true) (k:lessS b c=true):lessS a c=true:=bl_trans h k
theorem lessS_total {a b:ByteArray} (hne:a≠b) (h:lessS a b=false):lessS b a=true:=bl_total (fun e=>hne (ba_ext e)) h
def SrtS (X:List ByteArray):Prop:=X.Pairwise (fun a b=>lessS a b=true)
theorem SrtS.ext:∀ {X Y:List ByteArray},SrtS X→SrtS Y→(∀ s,s∈X↔s∈Y)→X=Y
 | [],[],_,_,_=>rfl
 | [],b ::Y,_,_,h=>absurd ((h b).2 (by simp)) (by simp)
 | a ::X,[],_,_,h=>absurd ((h a).1 (by simp)) (by simp)
 | a ::X,b ::Y,hX,hY,h=>by
  obtain ⟨x1,x2⟩:=List.pairwise_cons.1 hX
  obtain ⟨y1,y2⟩:=List.pairwise_cons.1 hY
  have hab:a=b:=by
   refine Classical.byContradiction fun hne=>?_
   have h1:a∈Y:=((List.mem_cons.1 ((h a).1 (by simp))).resolve_left hne)
   have h2:b∈X:=((List.mem_cons.1 ((h b).2 (by simp))).resolve_left fun e=>hne e.symm)
   have g:=lessS_trans (x1 b h2) (y1 a h1)
   rw [lessS_irrefl] at g;cases g
  subst hab
  have hn:∀ {Z:List ByteArray},(∀ s∈Z,lessS a s=true)→a∉Z:=fun {Z} hz ha=>by
   have:=hz a ha
   rw [lessS_irrefl] at this;cases this
  rw [SrtS.ext x2 y2 fun s=>?_]
  constructor
  ·intro hs
   rcases List.mem_cons.1 ((h s).1 (by simp [hs])) with rfl | g
   ·exact absurd hs (hn x1)
   ·exact g
  ·intro hs
   rcases List.mem_cons.1 ((h s).2 (by simp [hs])) with rfl | g
   ·exact absurd hs (hn y1)
   ·exact g
def lowS (s:ByteArray):List ByteArray→List ByteArray
 | []=>[]
 | a ::l=>if lessS a s=true then a ::lowS s l else []
def highS (s:ByteArray):List ByteArray→List ByteArray
 | []=>[]
 | a ::l=>if lessS a s=true then highS s l else a ::l
theorem low_high (s:ByteArray):∀ l,lowS s l++highS s l=l
 | []=>rfl
 | a ::l=>by
  rw [lowS,highS]
  split
  ·rw [List.cons_append,low_high s l]
  ·rfl
def insS (l:List ByteArray) (s:ByteArray):List ByteArray:=lowS s l++[s]++(highS s l).filter (fun x=>decide (x≠s))
theorem low_lt (s:ByteArray):∀ l,∀ a∈lowS s l,lessS a s=true
 | [],a,h=>by cases h
 | b ::l,a,h=>by
  rw [lowS] at h
  split at h
  ·next hb =>
   rcases List.mem_cons.1 h with rfl | h
   ·exact hb
   ·exact low_lt s l a h
  ·cases h
theorem high_ge (s:ByteArray):∀ {l},SrtS l→∀ a∈highS s l,a≠s→lessS s a=true
 | [],_,a,h,_=>by cases h
 | b ::l,hs,a,h,hne=>by
  obtain ⟨x1,x2⟩:=List.pairwise_cons.1 hs
  rw [highS] at h
  split at h
  ·exact high_ge s x2 a h hne
  ·next hb =>
   have hbf:lessS b s=false:=by simpa using hb
   rcases List.mem_cons.1 h with rfl | h
   ·exact lessS_total hne hbf
   ·by_cases e:b=s
    ·subst e;exact x1 a h
    ·exact lessS_trans (lessS_total e hbf) (x1 a h)
theorem insS_mem (l:List ByteArray) (s x:ByteArray):x∈insS l s↔x=s∨x∈l:=by
 have h:=low_high s l
 unfold insS
 conv=>rhs;rw [←h]
 simp only [List.mem_append,List.mem_singleton,List.mem_filter,decide_eq_true_eq]
 constructor
 ·rintro ((g | g) | ⟨g,_⟩)
  ·exact .inr (.inl g)
  ·exact .inl g
  ·exact .inr (.inr g)
 ·rintro (g | g | g)
  ·exact .inl (.inr g)
  ·exact .inl (.inl g)
  ·by_cases e:x=s
   ·exact .inl (.inr e)
   ·exact .inr ⟨g,e⟩
theorem insS_srt {l:List ByteArray} (h:SrtS l) (s:ByteArray):SrtS (insS l s):=by
 have hl:=low_high s l
 have h1:SrtS (lowS s l++highS s l):=by rw [hl];exact h
 obtain ⟨a1,a2,a3⟩:=List.pairwise_append.1 h1
 unfold SrtS insS
 rw [List.append_assoc]
 refine List.pairwise_append.2 ⟨a1,List.pairwise_append.2 ⟨List.pairwise_singleton _ _,a2.filter _,fun x hx y hy=>?_⟩,fun x hx y hy=>?_⟩
 ·simp only [List.mem_singleton] at hx
  subst hx
  simp only [List.mem_filter,decide_eq_true_eq] at hy
  exact high_ge x h y hy.1 hy.2
 ·rcases List.mem_append.1 hy with hy | hy
  ·simp only [List.mem_singleton] at hy
   subst hy
   exact low_lt y l x hx
  ·exact a3 x hx y (List.mem_filter.1 hy).1
def nmS (rs0 rs:List Rn) (s:ByteArray):List Nm:=(bytesN s).map (nmOf rs0 rs)
def InT (rs0 rs:List Rn) (U:List (List Nm)) (s:ByteArray):Prop:=(∀ k∈bytesN s,k < rs.length)∧nmS rs0 rs s∈U
def InU (rs0 rs:List Rn) (U:List (List Nm)) (X:List ByteArray):Prop:=∀ s∈X,InT rs0 rs U s
theorem zbytes_inj {a b:ByteArray} (h:bytesN a=bytesN b):a=b:=by
 unfold bytesN at h
 have h2:a.data.toList=b.data.toList:=by
  have:∀ {l m:List UInt8},l.map (fun b=>b.toNat)=m.map (fun b=>b.toNat)→l=m:=by
   intro l
   induction l with
   | nil=>intro m h;cases m<;>simp at h ⊢
   | cons x l ih =>
    intro m h
    cases m with
    | nil=>simp at h
    | cons y m =>
     simp only [List.map_cons,List.cons.injEq] at h
     rw [UInt8.toNat_inj.1 h.1,ih h.2]
  exact this h
 cases a with | mk a=>cases b with | mk b=>simpa using h2
theorem map_inj_on {f:Nat→Nm} {P:Nat→Prop} (hf:∀ i j,P i→P j→f i=f j→i=j):∀ {l m:List Nat},(∀ k∈l,P k)→(∀ k∈m,P k)→l.map f=m.map f→l=m
 | [],[],_,_,_=>rfl
 | [],_ ::_,_,_,h=>by simp at h
 | _ ::_,[],_,_,h=>by simp at h
 | a ::l,b ::m,hl,hm,h=>by
  simp only [List.map_cons,List.cons.injEq] at h
  rw [hf a b (hl a (by simp)) (hm b (by simp)) h.1,map_inj_on hf (fun k hk=>hl k (by simp [hk])) (fun k hk=>hm k (by simp [hk])) h.2]
theorem nmS_inj {rs0 rs:List Rn} (h:GrownT rs0 rs) {U:List (List Nm)} {a b:ByteArray} (ha:InT rs0 rs U a) (hb:InT rs0 rs U b) (e:nmS rs0 rs a=nmS rs0 rs b):a=b :=
 zbytes_inj (map_inj_on (P:=fun k=>k < rs.length) (fun _ _ hi hj e=>h.nm_inj hi hj e) ha.1 hb.1 e)
def maskU (f:List Nm→Bool):List (List Nm)→Nat
 | []=>0
 | u ::U=>(if f u=true then 1 else 0)+2 * maskU f U
theorem maskU_lt (f:List Nm→Bool):∀ U,maskU f U < 2 ^ U.length
 | []=>by simp [maskU]
 | u ::U=>by
  have:=maskU_lt f U
  rw [maskU,List.length_cons,Nat.pow_succ]
  split<;>omega
theorem maskU_eq {f g:List Nm→Bool}:∀ {U},maskU f U=maskU g U→∀ u∈U,(f u=true↔g u=true)
 | u0 ::U,h,u,hu=>by
  rw [maskU,maskU] at h
  have key:(f u0=true↔g u0=true)∧maskU f U=maskU g U:=by
   split at h<;>split at h
   ·next h1 h2=>exact ⟨⟨fun _=>h2,fun _=>h1⟩,by omega⟩
   ·omega
   ·omega
   ·next h1 h2=>exact ⟨⟨fun h=>absurd h h1,fun h=>absurd h h2⟩,by omega⟩
  rcases List.mem_cons.1 hu with rfl | hu
  ·exact key.1
  ·exact maskU_eq key.2 u hu
def memU (rs0 rs:List Rn) (X:List ByteArray) (u:List Nm):Bool:=X.any (fun s=>decide (nmS rs0 rs s=u))
theorem memU_iff (rs0 rs:List Rn) (X:List ByteArray) (u:List Nm):memU rs0 rs X u=true↔∃ s∈X,nmS rs0 rs s=u:=by
 unfold memU
 rw [List.any_eq_true]
 simp only [decide_eq_true_eq]
theorem mask_inj {rs0 rs:List Rn} (h:GrownT rs0 rs) {U:List (List Nm)} {X Y:List ByteArray} (hX:InU rs0 rs U X) (hY:InU rs0 rs U Y) (sX:SrtS X) (sY:SrtS Y) (e:maskU (memU rs0 rs X) U=maskU (memU rs0 rs Y) U):X=Y:=by
 have key:∀ u∈U,((∃ s∈X,nmS rs0 rs s=u)↔∃ s∈Y,nmS rs0 rs s=u):=fun u hu=>by
  have:=maskU_eq e u hu
  rwa [memU_iff,memU_iff] at this
 refine SrtS.ext sX sY fun s=>?_
 constructor
 ·intro hs
  obtain ⟨t,ht,et⟩:=(key _ (hX s hs).2).1 ⟨s,hs,rfl⟩
  rw [←nmS_inj h (hY t ht) (hX s hs) et];exact ht
 ·intro hs
  obtain ⟨t,ht,et⟩:=(key _ (hY s hs).2).2 ⟨s,hs,rfl⟩
  rw [←nmS_inj h (hX t ht) (hY s hs) et];exact ht
theorem InT.grow {rs0 rs:List Rn} {U:List (List Nm)} {s:ByteArray} (h:InT rs0 rs U s) (x:List Rn):InT rs0 (rs++x) U s:=by
 refine ⟨fun k hk=>by have:=h.1 k hk;simp;omega,?_⟩
 have:nmS rs0 (rs++x) s=nmS rs0 rs s:=List.map_congr_left fun k hk=>nmOf_app (h.1 k hk) x
 rw [this];exact h.2
end Go.Proofs.YtobfpgoepaeknaaGreat
namespace Go.Proofs.YtobfpgoepaeknaaGreat
def extraR (r:Rn):Nat:=if r.kind=6 then 1 else if r.kind=8 then r.n.toNat else 0
def phiR:List Rn→Nat
 | []=>0
 | r ::rs=>1+extraR r+phiR rs
theorem phiR_app:∀ (a b:List Rn),phiR (a++b)=phiR a+phiR b
 | [],b=>by simp [phiR]
 | r ::a,b=>by rw [List.cons_append,phiR,phiR,phiR_app a b];omega
theorem phiR_one (rs:List Rn) (r:Rn):phiR (rs++[r])=phiR rs+(1+extraR r):=by rw [phiR_app];simp [phiR]
theorem ext_size (p:ByteArray) (a b:Nat):(p.extract a b).size=min b p.size - a:=by
 rw [ByteArray.size_extract]
theorem leafS_facts {p:ByteArray} {r:Rn} (h:leafS p=some r):0 < p.size∧extraR r=0:=by
 unfold leafS at h
 split at h
 ·next hp =>
  refine ⟨hp,?_⟩
  split at h
  ·cases h;rfl
  ·split at h
   ·split at h
    ·split at h
     ·rw [Option.bind_eq_some_iff] at h
      obtain ⟨f,_,h⟩:=h
      cases h;rfl
     ·rw [Option.bind_eq_some_iff] at h
      obtain ⟨f,_,h⟩:=h
      cases h;rfl
    ·cases h
   ·rw [Option.bind_eq_some_iff] at h
    obtain ⟨f,_,h⟩:=h
    cases h;rfl
 ·cases h
def PhiOk (tag:Nat) (p:ByteArray) (a:Nat) (rs rs':List Rn):Prop :=
 match tag with
 | 0=>phiR rs'≤phiR rs+2 * p.size+1
 | 1=>phiR rs'≤phiR rs+2 * p.size+1
 | 2=>(p.size=0→phiR rs'=phiR rs+1)∧(1≤p.size→phiR rs'+1≤phiR rs+2 * p.size)
 | 3=>phiR rs'+2 * a≤phiR rs+2 * p.size
 | _=>1≤p.size∧phiR rs'+1≤phiR rs+2 * p.size
theorem rfF_phi:∀ (n tag:Nat) (p:ByteArray) (a:Nat) (l:Int) (rs:List Rn) (r:List Rn × Int),rfF n tag p a l rs=some r→PhiOk tag p a rs r.1:=by
 intro n
 induction n with
 | zero=>intro tag p a l rs r h;simp [rfF] at h
 | succ n ih =>
  intro tag p a l rs r h
  match tag with
  | 0 =>
   simp only [rfF] at h
   exact ih 1 _ _ _ _ _ h
  | 1 =>
   simp only [rfF] at h
   split at h
   ·rw [Option.bind_eq_some_iff] at h
    obtain ⟨j,_,h⟩:=h
    have g:phiR r.1≤phiR rs+2 * p.size+1:=ih 1 p j 0 rs r h
    exact g
   ·split at h
    ·next hle =>
     rw [Option.bind_eq_some_iff] at h
     obtain ⟨x,hx,h⟩:=h
     obtain ⟨g1,g2⟩:=ih 2 _ _ _ _ _ hx
     rw [ext_size] at g1 g2
     split at h
     ·simp only [Option.some.injEq] at h
      subst h
      show phiR _≤_
      by_cases e:p.size=0
      ·have:=g1 (by omega);omega
      ·have:=g2 (by omega);omega
     ·next hne =>
      rw [Option.bind_eq_some_iff] at h
      obtain ⟨y,hy,h⟩:=h
      have g3:phiR y.1≤_:=ih 0 _ _ _ _ _ hy
      rw [ext_size] at g3
      simp only [Option.some.injEq] at h
      subst h
      show phiR (y.1++[_])≤_
      rw [phiR_one]
      have e0:extraR ⟨4,x.2,y.2,0,0,noSet⟩=0:=rfl
      rw [e0]
      by_cases e:a=0
      ·have:=g1 (by omega);omega
      ·have:=g2 (by omega);omega
    ·cases h
  | 2 =>
   simp only [rfF] at h
   split at h
   ·next h0 =>
    simp only [Option.some.injEq] at h
    subst h
    refine ⟨fun _=>?_,fun h1=>by omega⟩
    show phiR (rs++[_])=_
    rw [phiR_one];rfl
   ·next h0 =>
    rw [Option.bind_eq_some_iff] at h
    obtain ⟨j,_,h⟩:=h
    split at h
    ·next hj =>
     rw [Option.bind_eq_some_iff] at h
     obtain ⟨x,hx,h⟩:=h
     obtain ⟨g1,g2⟩:=ih 4 _ _ _ _ _ hx
     rw [ext_size] at g1 g2
     have g3:phiR r.1+2 * j≤_:=ih 3 _ _ _ _ _ h
     refine ⟨fun h1=>absurd h1 h0,fun _=>?_⟩
     omega
    ·cases h
  | 3 =>
   simp only [rfF] at h
   split at h
   ·next hc =>
    have g:phiR r.1+2 * (a+1)≤phiR (rs++[_])+_:=ih 3 _ _ _ _ _ h
    rw [phiR_one] at g
    have e0:extraR ⟨5,l,0,0,0,noSet⟩=0:=rfl
    rw [e0] at g
    show _+_≤_
    omega
   ·split at h
    ·have g:phiR r.1+2 * (a+1)≤phiR (rs++[_])+_:=ih 3 _ _ _ _ _ h
     rw [phiR_one] at g
     have e0:extraR ⟨6,l,0,0,0,noSet⟩=1:=rfl
     rw [e0] at g
     show _+_≤_
     omega
    ·split at h
     ·have g:phiR r.1+2 * (a+1)≤phiR (rs++[_])+_:=ih 3 _ _ _ _ _ h
      rw [phiR_one] at g
      have e0:extraR ⟨7,l,0,0,0,noSet⟩=0:=rfl
      rw [e0] at g
      show _+_≤_
      omega
     ·split at h
      ·split at h
       ·next hd =>
        have g:phiR r.1+2 * (a+5)≤phiR (rs++[_])+_:=ih 3 _ _ _ _ _ h
        rw [phiR_one] at g
        have e0:extraR ⟨8,l,0,byteAt p (a+1) - 48,byteAt p (a+3) - 48,noSet⟩=(byteAt p (a+3) - 48).toNat:=rfl
        rw [e0] at g
        have d3:48≤byteAt p (a+3)∧byteAt p (a+3)≤57:=by simpa [decB] using hd.2.2
        show _+_≤_
        omega
       ·cases h
      ·split at h
       ·next he =>
        simp only [Option.some.injEq] at h
        subst h
        show phiR rs+_≤_
        omega
       ·split at h
        ·next hlt =>
         rw [Option.bind_eq_some_iff] at h
         obtain ⟨y,hy,h⟩:=h
         obtain ⟨_,g2⟩:=ih 2 _ _ _ _ _ hy
         rw [ext_size] at g2
         simp only [Option.some.injEq] at h
         subst h
         show phiR (y.1++[_])+_≤_
         rw [phiR_one]
         have e0:extraR ⟨3,l,y.2,0,0,noSet⟩=0:=rfl
         rw [e0]
         have:=g2 (by omega)
         omega
        ·cases h
  | t+4 =>
   simp only [rfF] at h
   split at h
   ·next hc =>
    split at h
    ·next h1 =>
     have g:phiR r.1≤_:=ih 0 _ _ _ _ _ h
     rw [ext_size] at g
     show _∧_
     refine ⟨by omega,?_⟩
     omega
    ·cases h
   ·rw [Option.bind_eq_some_iff] at h
    obtain ⟨x,hx,h⟩:=h
    obtain ⟨g1,g2⟩:=leafS_facts hx
    simp only [Option.some.injEq] at h
    subst h
    show _∧phiR (rs++[x])+1≤_
    rw [phiR_one,g2]
    exact ⟨by omega,by omega⟩
theorem tree_small {n:Nat} {p:ByteArray} {rs:List Rn} {k:Int} (h:rfF n 0 p 0 0 []=some (rs,k)) (hp:p.size≤60):phiR rs≤121:=by
 have g:phiR rs≤phiR []+2 * p.size+1:=rfF_phi n 0 p 0 0 [] _ h
 simp only [phiR] at g
 omega
def ctsR (r:Rn):List Nm:=if r.kind=6 then [.x 5 r.l 0 0] else if r.kind=8 then (List.range r.n.toNat).map (fun j=>Nm.x 8 r.l ((r.m.toNat - (j+1):Nat):Int) ((r.n.toNat - (j+1):Nat):Int)) else []
def ctsT (rs:List Rn):List Nm:=rs.flatMap ctsR
theorem ctsT_len:∀ rs:List Rn,rs.length+(ctsT rs).length=phiR rs
 | []=>rfl
 | r ::rs=>by
  have ih:=ctsT_len rs
  have e:(ctsR r).length=extraR r:=by
   unfold ctsR extraR
   split
   ·rfl
   ·split
    ·simp
    ·rfl
  unfold ctsT at ih ⊢
  rw [List.flatMap_cons,List.length_append,e,List.length_cons,phiR]
  omega
structure GrowT (rs0 rs:List Rn):Prop where
 gr:GrownT rs0 rs
 may:∀ k r,rs0.length≤k→rs[k]?=some r→ctOf r∈ctsT rs0
theorem mem_pos {α:Type} [DecidableEq α] {a:α} {l:List α} (h:a∈l):∃ i,i < l.length∧l[i]?=some a:=by
 obtain ⟨i,hi,e⟩:=List.getElem_of_mem h
 exact ⟨i,hi,by rw [List.getElem?_eq_getElem hi,e]⟩
theorem GrowT.small {rs0 rs:List Rn} (h:GrowT rs0 rs):rs.length≤phiR rs0:=by
 rw [←ctsT_len]
 refine Nat.le_of_not_lt fun hlt=>?_
 have hc:∀ i,i≤(ctsT rs0).length→∃ j r,rs[rs0.length+i]?=some r∧j < (ctsT rs0).length∧(ctsT rs0)[j]?=some (ctOf r):=fun i hi=>by
  have hl:rs0.length+i < rs.length:=by omega
  obtain ⟨j,h1,h2⟩:=mem_pos (h.may (rs0.length+i) _ (by omega) (List.getElem?_eq_getElem hl))
  exact ⟨j,_,List.getElem?_eq_getElem hl,h1,h2⟩
 obtain ⟨i,j,hij,hj,e⟩:=pigeon (ctsT rs0).length (fun i=>if hi:i≤(ctsT rs0).length then Classical.choose (hc i hi) else 0) fun i hi=>by
  simp only [dif_pos hi]
  obtain ⟨r,_,g,_⟩:=Classical.choose_spec (hc i hi)
  exact g
 simp only [dif_pos (show i≤(ctsT rs0).length by omega),dif_pos hj] at e
 obtain ⟨r,a1,a2,a3⟩:=Classical.choose_spec (hc i (by omega))
 obtain ⟨s,b1,b2,b3⟩:=Classical.choose_spec (hc j hj)
 rw [e,b3] at a3
 have:=h.gr.inj _ _ r s (by omega) (by omega) a1 b1 (by simpa using a3.symm)
 omega
theorem GrowT.refl (rs:List Rn):GrowT rs rs:=⟨GrownT.refl rs,fun k r h1 h2=>by rw [List.getElem?_eq_none h1] at h2;cases h2⟩
theorem GrowT.put {rs0 rs:List Rn} (h:GrowT rs0 rs) {n:Rn} (hn:fstC (ctOf n) rs=none) (hm:ctOf n∈ctsT rs0):GrowT rs0 (rs++[n]):=⟨(h.gr.put hn).1,fun k r hk hr=>by
 rcases List.getElem?_append (l₁:=rs) (l₂:=[n]) (i:=k) ▸ hr with g
 by_cases hl:k < rs.length
 ·rw [if_pos hl] at g;exact h.may k r hk g
 ·rw [if_neg hl] at g
  have:r=n:=by
   have:=(List.getElem?_eq_some_iff.1 g).1
   simp at this
   rw [this] at g
   simpa using g.symm
  rw [this];exact hm⟩
end Go.Proofs.YtobfpgoepaeknaaGreat
