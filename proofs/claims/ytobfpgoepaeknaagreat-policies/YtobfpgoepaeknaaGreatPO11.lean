/-
  Plain mathematics: things that are sorted by likeness, each kind numbered by its first; that splitting the kinds until there are no more ends at the least automaton.
  Plain mathematics: the graph of an automaton, drawn state by state and letter by letter, numbers its states as they are met.
  Blocks of cells that hold an array of 256 numbers between other cells.
  The automaton: reach, grants.
-/
import Derived.Test.YtobfpgoepaeknaaGreatPO10
import Derived.Test.YtobfpgoepaeknaaGreatPO08
namespace Go.Proofs.YtobfpgoepaeknaaGreat
structure Sorted (N:Nat) (E:Nat→Nat→Prop) (hs:List Nat) (kd:Nat→Nat):Prop where
 head:∀ k,k < hs.length→hs.getD k 0 < N∧kd (hs.getD k 0)=k
 lt:∀ a,a < N→kd a < hs.length
 le:∀ a,a < N→hs.getD (kd a) 0≤a
 incr:∀ j k,j < k→k < hs.length→hs.getD j 0 < hs.getD k 0
 iff:∀ a b,a < N→b < N→(kd a=kd b↔E a b)
theorem Sorted.nil (E:Nat→Nat→Prop) (kd:Nat→Nat):Sorted 0 E [] kd :=
 ⟨fun _ h=>absurd h (Nat.not_lt_zero _),fun _ h=>absurd h (Nat.not_lt_zero _),fun _ h=>absurd h (Nat.not_lt_zero _),fun _ _ _ h=>absurd h (Nat.not_lt_zero _),fun _ _ h=>absurd h (Nat.not_lt_zero _)⟩
theorem getD_snoc_old {l:List Nat} {x k:Nat} (h:k < l.length):(l++[x]).getD k 0=l.getD k 0:=by
 rw [List.getD_eq_getElem?_getD,List.getD_eq_getElem?_getD,List.getElem?_append_left h]
theorem getD_snoc_new (l:List Nat) (x:Nat):(l++[x]).getD l.length 0=x:=by
 rw [List.getD_eq_getElem?_getD,List.getElem?_append_right (Nat.le_refl _),Nat.sub_self];rfl
theorem Sorted.old {n:Nat} {E:Nat→Nat→Prop} {hs:List Nat} {kd kd':Nat→Nat} {k:Nat} (h:Sorted n E hs kd) (hE:Equivalence E) (hk:k < hs.length) (he:E n (hs.getD k 0)) (h1:∀ a,a < n→kd' a=kd a) (h2:kd' n=k):Sorted (n+1) E hs kd':=by
 refine ⟨fun j hj=>?_,fun a ha=>?_,fun a ha=>?_,h.incr,?_⟩
 ·have:=h.head j hj
  exact ⟨by omega,by rw [h1 _ this.1];exact this.2⟩
 ·by_cases e:a=n
  ·rw [e,h2];exact hk
  ·rw [h1 a (by omega)];exact h.lt a (by omega)
 ·by_cases e:a=n
  ·rw [e,h2];have:=(h.head k hk).1;omega
  ·rw [h1 a (by omega)];exact h.le a (by omega)
 ·have key:∀ b,b < n→(k=kd b↔E n b):=fun b hb=>by
   have g:=h.head k hk
   have:=h.iff _ b g.1 hb
   rw [g.2] at this
   rw [this]
   exact ⟨fun q=>hE.trans he q,fun q=>hE.trans (hE.symm he) q⟩
  intro a b ha hb
  by_cases ea:a=n<;>by_cases eb:b=n
  ·subst ea;subst eb;exact ⟨fun _=>hE.refl _,fun _=>rfl⟩
  ·subst ea;rw [h2,h1 b (by omega)];exact key b (by omega)
  ·subst eb;rw [h2,h1 a (by omega)]
   exact ⟨fun q=>hE.symm ((key a (by omega)).1 q.symm),fun q=>((key a (by omega)).2 (hE.symm q)).symm⟩
  ·rw [h1 a (by omega),h1 b (by omega)];exact h.iff a b (by omega) (by omega)
theorem Sorted.new {n:Nat} {E:Nat→Nat→Prop} {hs:List Nat} {kd kd':Nat→Nat} (h:Sorted n E hs kd) (hE:Equivalence E) (hno:∀ j,j < hs.length→¬E n (hs.getD j 0)) (h1:∀ a,a < n→kd' a=kd a) (h2:kd' n=hs.length):Sorted (n+1) E (hs++[n]) kd':=by
 have hl:(hs++[n]).length=hs.length+1:=by simp
 refine ⟨fun j hj=>?_,fun a ha=>?_,fun a ha=>?_,fun i j hij hj=>?_,?_⟩
 ·by_cases e:j=hs.length
  ·rw [e,getD_snoc_new];exact ⟨by omega,h2⟩
  ·have hj':j < hs.length:=by omega
   have:=h.head j hj'
   rw [getD_snoc_old hj']
   exact ⟨by omega,by rw [h1 _ this.1];exact this.2⟩
 ·by_cases e:a=n
  ·rw [e,h2];omega
  ·rw [h1 a (by omega)];have:=h.lt a (by omega);omega
 ·by_cases e:a=n
  ·rw [e,h2,getD_snoc_new];exact Nat.le_refl _
  ·have:=h.lt a (by omega)
   rw [h1 a (by omega),getD_snoc_old this];exact h.le a (by omega)
 ·rw [getD_snoc_old (show i < hs.length by omega)]
  by_cases e:j=hs.length
  ·rw [e,getD_snoc_new];exact (h.head i (by omega)).1
  ·rw [getD_snoc_old (show j < hs.length by omega)];exact h.incr i j hij (by omega)
 ·have key:∀ b,b < n→¬E n b:=fun b hb q=>by
   have l:=h.lt b hb
   have g:=h.head _ l
   exact hno _ l (hE.trans q (hE.symm ((h.iff _ b g.1 hb).1 g.2)))
  intro a b ha hb
  by_cases ea:a=n<;>by_cases eb:b=n
  ·subst ea;subst eb;exact ⟨fun _=>hE.refl _,fun _=>rfl⟩
  ·subst ea;rw [h2,h1 b (by omega)]
   have:=h.lt b (by omega)
   exact ⟨fun q=>by omega,fun q=>absurd q (key b (by omega))⟩
  ·subst eb;rw [h2,h1 a (by omega)]
   have:=h.lt a (by omega)
   exact ⟨fun q=>by omega,fun q=>absurd (hE.symm q) (key a (by omega))⟩
  ·rw [h1 a (by omega),h1 b (by omega)];exact h.iff a b (by omega) (by omega)
theorem Sorted.apart {N:Nat} {E:Nat→Nat→Prop} {hs:List Nat} {kd:Nat→Nat} (h:Sorted N E hs kd) {i j:Nat} (hij:i < j) (hj:j < hs.length):¬E (hs.getD i 0) (hs.getD j 0):=fun e=>by
 have h1:=h.head i (by omega)
 have h2:=h.head j hj
 have:=(h.iff _ _ h1.1 h2.1).2 e
 rw [h1.2,h2.2] at this;omega
theorem Sorted.grow {N:Nat} {E:Nat→Nat→Prop} {hs:List Nat} {kd:Nat→Nat} (h:Sorted N E hs kd) {a:Nat} (ha:a < N) {c:Nat} (hc:c < kd a):∃ a',a' < a∧kd a'=c:=by
 have l:=h.lt a ha
 have g:=h.head c (by omega)
 exact ⟨_,Nat.lt_of_lt_of_le (h.incr c _ hc l) (h.le a ha),g.2⟩
theorem Sorted.zero {N:Nat} {E:Nat→Nat→Prop} {hs:List Nat} {kd:Nat→Nat} (h:Sorted N E hs kd) (hN:0 < N):0 < hs.length∧kd 0=0∧hs.getD 0 0=0:=by
 have l:=h.lt 0 hN
 have e:kd 0=0:=by
  by_cases e:kd 0=0
  ·exact e
  ·obtain ⟨a',h1,_⟩:=h.grow hN (show 0 < kd 0 by omega);omega
 have:=h.le 0 hN
 rw [e] at this
 exact ⟨by omega,e,by omega⟩
structure BfsDfa (L:List Nat→Prop) (N:Nat) (nx:Nat→Nat→Nat) (gr:Nat→Bool):Prop where
 pos:0 < N
 lt:∀ i b,i < N→b < 256→nx i b < N
 says:∀ u,bytesOk u→(gr (dRun nx 0 u)=true↔L u)
 bfs:∀ k,0 < k→k < N→∃ i b,i < k∧b < 256∧nx i b=k∧(∀ i' b',b' < 256→i' < i→nx i' b' < k)∧(∀ b',b' < b→nx i b' < k)
section fold
variable {L : List Nat → Prop} {N : Nat} {nx : Nat → Nat → Nat} {gr : Nat → Bool}
theorem BfsDfa.run_lt (h:BfsDfa L N nx gr):∀ (u:List Nat) (i:Nat),i < N→bytesOk u→dRun nx i u < N
 | [],_,hi,_=>hi
 | b ::u,i,hi,hu=>h.run_lt u _ (h.lt i b hi (bytesOk_tail hu).1) (bytesOk_tail hu).2
theorem BfsDfa.reached (h:BfsDfa L N nx gr) (k:Nat):k < N→∃ u,bytesOk u∧dRun nx 0 u=k:=by
 induction k using Nat.strongRecOn with
 | ind k ih =>
  intro hk
  by_cases h0:k=0
  ·exact ⟨[],bytesOk_nil,h0.symm⟩
  ·obtain ⟨i,b,hi,hb,e,_⟩:=h.bfs k (by omega) hk
   obtain ⟨u,hu,eu⟩:=ih i hi (by omega)
   exact ⟨u++[b],bytesOk_snoc hu hb,by rw [dRun_append,eu];exact e⟩
def Espl (nx:Nat→Nat→Nat) (gr:Nat→Bool) (kd:Nat→Nat) (a b:Nat):Prop:=kd a=kd b∧gr a=gr b∧∀ c,c < 256→kd (nx a c)=kd (nx b c)
def ToldK (N:Nat) (nx:Nat→Nat→Nat) (gr:Nat→Bool) (kd:Nat→Nat):Prop:=∀ a b,a < N→b < N→kd a≠kd b→∃ u,bytesOk u∧gr (dRun nx a u)≠gr (dRun nx b u)
theorem ToldK.zero {kd:Nat→Nat} (h:∀ a,a < N→kd a=0):ToldK N nx gr kd:=fun a b ha hb hne=>absurd (by rw [h a ha,h b hb]) hne
theorem ToldK.not (hl:∀ i b,i < N→b < 256→nx i b < N) {kd:Nat→Nat} (h:ToldK N nx gr kd) {a b:Nat} (ha:a < N) (hb:b < N) (hne:¬Espl nx gr kd a b):∃ u,bytesOk u∧gr (dRun nx a u)≠gr (dRun nx b u):=by
 by_cases h1:kd a=kd b
 ·by_cases h2:gr a=gr b
  ·obtain ⟨c,hc⟩:=Classical.not_forall.1 fun h3=>hne ⟨h1,h2,h3⟩
   obtain ⟨hc,hd⟩:=Classical.not_imp.1 hc
   obtain ⟨u,hu,e⟩:=h _ _ (hl a c ha hc) (hl b c hb hc) hd
   exact ⟨c ::u,bytesOk_cons hc hu,e⟩
  ·exact ⟨[],bytesOk_nil,h2⟩
 ·exact h a b ha hb h1
theorem ToldK.next (hl:∀ i b,i < N→b < 256→nx i b < N) {kd kd':Nat→Nat} {hs:List Nat} (h:ToldK N nx gr kd) (hs':Sorted N (Espl nx gr kd) hs kd'):ToldK N nx gr kd' :=
 fun a b ha hb hne=>h.not hl ha hb fun e=>hne ((hs'.iff a b ha hb).2 e)
theorem Sorted.size_le {E E':Nat→Nat→Prop} {hs hs':List Nat} {kd kd':Nat→Nat} (h:Sorted N E hs kd) (h':Sorted N E' hs' kd') (hf:∀ a b,a < N→b < N→kd' a=kd' b→kd a=kd b):hs.length≤hs'.length:=by
 refine Nat.le_of_not_lt fun hlt=>?_
 obtain ⟨i,j,hij,hj,e⟩:=pigeon hs'.length (fun k=>kd' (hs.getD k 0)) fun k hk=>h'.lt _ (h.head k (by omega)).1
 have h1:=h.head i (by omega)
 have h2:=h.head j (by omega)
 have:=hf _ _ h1.1 h2.1 e
 rw [h1.2,h2.2] at this;omega
theorem Sorted.size_eq {E E':Nat→Nat→Prop} {hs hs':List Nat} {kd kd':Nat→Nat} (h:Sorted N E hs kd) (h':Sorted N E' hs' kd') (hf:∀ a b,a < N→b < N→kd' a=kd' b→kd a=kd b) (he:hs.length=hs'.length) {a b:Nat} (ha:a < N) (hb:b < N) (hk:kd a=kd b):kd' a=kd' b:=by
 refine Classical.byContradiction fun hne=>?_
 have key:∀ x,x < N→(∀ k,k < hs.length→kd' (hs.getD k 0)≠kd' x)→False:=fun x hx hno=>by
  obtain ⟨i,j,hij,hj,e⟩:=pigeon hs.length (fun k=>if k < hs.length then kd' (hs.getD k 0) else kd' x) fun k hk=>by
   show (if _ then _ else _) < _
   split
   ·rw [he];exact h'.lt _ (h.head k (by assumption)).1
   ·rw [he];exact h'.lt _ hx
  have hi:i < hs.length:=by omega
  simp only [if_pos hi] at e
  by_cases hj2:j < hs.length
  ·rw [if_pos hj2] at e
   have h1:=h.head i hi
   have h2:=h.head j hj2
   have:=hf _ _ h1.1 h2.1 e
   rw [h1.2,h2.2] at this;omega
  ·rw [if_neg hj2] at e
   exact hno i hi e
 have img:∀ x,x < N→∃ k,k < hs.length∧kd' (hs.getD k 0)=kd' x:=fun x hx=>Classical.byContradiction fun hno=>key x hx fun k hk e=>hno ⟨k,hk,e⟩
 obtain ⟨i,hi,ei⟩:=img a ha
 obtain ⟨j,hj,ej⟩:=img b hb
 have h1:=h.head i hi
 have h2:=h.head j hj
 have e1:=hf _ _ h1.1 ha ei
 have e2:=hf _ _ h2.1 hb ej
 rw [h1.2] at e1
 rw [h2.2] at e2
 have:i=j:=by omega
 subst this
 exact hne (ei.symm.trans ej)
theorem BfsDfa.many (h:BfsDfa L N nx gr) {kd kd':Nat→Nat} (ht:ToldK N nx gr kd) {n:Nat} {hs:List Nat} (hn:n≤N) (hs':Sorted n (Espl nx gr kd) hs kd') (hl:24 < hs.length):ManyStates L:=by
 have hc:∀ k,k < hs.length→∃ u,bytesOk u∧dRun nx 0 u=hs.getD k 0:=fun k hk=>h.reached _ (Nat.lt_of_lt_of_le (hs'.head k hk).1 hn)
 refine ⟨fun k=>if hk:k < hs.length then Classical.choose (hc k hk) else [],fun i hi=>?_,fun i j hij hj ha=>?_⟩
 ·simp only [dif_pos (show i < hs.length by omega)]
  exact (Classical.choose_spec (hc i (by omega))).1
 ·simp only [dif_pos (show i < hs.length by omega),dif_pos (show j < hs.length by omega)] at ha
  have si:=Classical.choose_spec (hc i (by omega))
  have sj:=Classical.choose_spec (hc j (by omega))
  generalize Classical.choose (hc i (by omega))=u at ha si
  generalize Classical.choose (hc j (by omega))=v at ha sj
  obtain ⟨w,hw,hne⟩:=ht.not h.lt (Nat.lt_of_lt_of_le (hs'.head i (by omega)).1 hn) (Nat.lt_of_lt_of_le (hs'.head j (by omega)).1 hn) (hs'.apart hij (by omega))
  apply hne
  rw [←si.2,←sj.2,←dRun_append,←dRun_append,Bool.eq_iff_iff,h.says _ (bytesOk_append si.1 hw),h.says _ (bytesOk_append sj.1 hw)]
  exact ha w hw
theorem BfsDfa.least (h:BfsDfa L N nx gr) {kd kd':Nat→Nat} (ht:ToldK N nx gr kd) {E:Nat→Nat→Prop} {hs hs':List Nat} (h0:Sorted N E hs kd) (h1:Sorted N (Espl nx gr kd) hs' kd') (he:hs.length=hs'.length) :
  MinDfa L hs'.length (fun k b=>kd' (nx (hs'.getD k 0) b)) (fun k=>gr (hs'.getD k 0)):=by
 have ht':=ht.next h.lt h1
 have hf:∀ a b,a < N→b < N→kd' a=kd' b→kd a=kd b:=fun a b ha hb e=>((h1.iff a b ha hb).1 e).1
 have hq:∀ {a b},a < N→b < N→kd' a=kd' b→gr a=gr b∧∀ c,c < 256→kd' (nx a c)=kd' (nx b c):=fun {a b} ha hb e=>by
  obtain ⟨_,g2,g3⟩:=(h1.iff a b ha hb).1 e
  exact ⟨g2,fun c hc=>h0.size_eq h1 hf he (h.lt a c ha hc) (h.lt b c hb hc) (g3 c hc)⟩
 have hk:∀ a,a < N→hs'.getD (kd' a) 0 < N∧kd' (hs'.getD (kd' a) 0)=kd' a:=fun a ha=>h1.head _ (h1.lt a ha)
 have hr:∀ (u:List Nat) (a:Nat),a < N→bytesOk u→dRun (fun k b=>kd' (nx (hs'.getD k 0) b)) (kd' a) u=kd' (dRun nx a u):=by
  intro u
  induction u with
  | nil=>intro a _ _;rfl
  | cons b u ih =>
   intro a ha hu
   have hb:=bytesOk_tail hu
   show dRun _ (kd' (nx (hs'.getD (kd' a) 0) b)) u=_
   rw [(hq (hk a ha).1 ha (hk a ha).2).2 b hb.1]
   exact ih _ (h.lt a b ha hb.1) hb.2
 have hg:∀ a,a < N→gr (hs'.getD (kd' a) 0)=gr a:=fun a ha=>(hq (hk a ha).1 ha (hk a ha).2).1
 obtain ⟨z1,z2,z3⟩:=h1.zero h.pos
 refine ⟨z1,fun i b hi hb=>h1.lt _ (h.lt _ b (h1.head i hi).1 hb),fun u hu=>?_,fun i j hi hj hs=>?_,fun k hk0 hk1=>?_⟩
 ·have:=hr u 0 h.pos hu
  rw [z2] at this
  rw [this]
  show gr _=true↔_
  rw [hg _ (h.run_lt u 0 h.pos hu)]
  exact h.says u hu
 ·have gi:=h1.head i hi
  have gj:=h1.head j hj
  refine Classical.byContradiction fun hne=>?_
  obtain ⟨u,hu,hd⟩:=ht' _ _ gi.1 gj.1 (by rw [gi.2,gj.2];exact hne)
  have e1:=hr u _ gi.1 hu
  have e2:=hr u _ gj.1 hu
  rw [gi.2] at e1
  rw [gj.2] at e2
  have:=hs u hu
  rw [e1,e2] at this
  have f1:=hg _ (h.run_lt u _ gi.1 hu)
  have f2:=hg _ (h.run_lt u _ gj.1 hu)
  exact hd (f1.symm.trans (this.trans f2))
 ·have gk:=h1.head k hk1
  have gz:=h1.incr 0 k hk0 hk1
  obtain ⟨i,b,hi,hb,e,f1,f2⟩:=h.bfs (hs'.getD k 0) (by omega) gk.1
  have hiN:i < N:=by omega
  have small:∀ a,a < hs'.getD k 0→kd' a < k:=fun a ha=>by
   have l:=h1.lt a (by omega)
   have:=h1.le a (by omega)
   refine Nat.lt_of_not_le fun hle=>?_
   rcases Nat.lt_or_eq_of_le hle with q | q
   ·have:=h1.incr k _ q l;omega
   ·rw [←q] at this;omega
  have hle:=h1.le i hiN
  refine ⟨kd' i,b,small i hi,hb,?_,fun i' b' hb' hi'=>?_,fun b' hb'=>?_⟩
  ·show kd' (nx (hs'.getD (kd' i) 0) b)=k
   rw [(hq (hk i hiN).1 hiN (hk i hiN).2).2 b hb,e];exact gk.2
  ·have l:=h1.lt i hiN
   have:=h1.incr i' (kd' i) hi' l
   exact small _ (f1 _ b' hb' (by omega))
  ·show kd' (nx (hs'.getD (kd' i) 0) b') < k
   rcases Nat.lt_or_eq_of_le hle with q | q
   ·exact small _ (f1 _ b' (by omega) q)
   ·rw [q];exact small _ (f2 b' hb')
end fold
end Go.Proofs.YtobfpgoepaeknaaGreat
namespace Go.Proofs.YtobfpgoepaeknaaGreat
def fitN (sets:List (Nat→Bool)) (b:Nat):Nat→Nat
 | 0=>0
 | k+1=>if setAtN sets k b then fitN sets b k ||| 2 ^ k else fitN sets b k
theorem fitN_bit (sets:List (Nat→Bool)) (b j:Nat):∀ k,(fitN sets b k).testBit j=true↔j < k∧setAtN sets j b=true
 | 0=>by simp [fitN]
 | k+1=>by
  rw [fitN]
  have ih:=fitN_bit sets b j k
  by_cases h:setAtN sets k b=true
  ·rw [if_pos h,Nat.testBit_or,Bool.or_eq_true,ih,bit_two]
   constructor
   ·rintro (⟨h1,h2⟩ | rfl)
    ·exact ⟨by omega,h2⟩
    ·exact ⟨by omega,h⟩
   ·rintro ⟨h1,h2⟩
    by_cases hj:j=k
    ·exact Or.inr hj
    ·exact Or.inl ⟨by omega,h2⟩
  ·rw [if_neg h,ih]
   constructor
   ·rintro ⟨h1,h2⟩;exact ⟨by omega,h2⟩
   ·rintro ⟨h1,h2⟩
    by_cases hj:j=k
    ·subst hj;exact absurd h2 h
    ·exact ⟨by omega,h2⟩
theorem fitN_lt (sets:List (Nat→Bool)) (b k:Nat):fitN sets b k < 2 ^ k:=by
 refine Nat.lt_pow_two_of_testBit _ fun i hi=>?_
 cases h:(fitN sets b k).testBit i
 ·rfl
 ·have:=((fitN_bit sets b i k).1 h).1;omega
def fitP (p:Part) (b:Nat):Nat:=fitN p.sets b p.sets.length
def reachP (p:Part) (x:Nat):Nat:=reachN p.next x p.next.length
theorem stepN_fit (p:Part) (x b:Nat):stepN p x b=reachP p x &&& fitP p b:=by
 apply Nat.eq_of_testBit_eq
 intro j
 rw [Bool.eq_iff_iff,Nat.testBit_and,Bool.and_eq_true]
 unfold stepN fitP reachP
 rw [ledN_bit,fitN_bit]
 constructor
 ·rintro ⟨h1,h2,h3⟩;exact ⟨h2,h1,h3⟩
 ·rintro ⟨h2,h1,h3⟩;exact ⟨h1,h2,h3⟩
structure Drawn (B M:Nat) (dl:Nat→Nat→Nat) (st:List Nat) (e:Nat) (nx:List Nat):Prop where
 len:nx.length=e
 nodup:∀ i j,i < j→j < st.length→st.getD i 0≠st.getD j 0
 bound:∀ i,i < st.length→st.getD i 0 < B
 edge:∀ k,k < e→nx.getD k 0 < st.length∧st.getD (nx.getD k 0) 0=dl (st.getD (k / M) 0) (k % M)
 met:∀ j,0 < j→j < st.length→∃ k,k < e∧nx.getD k 0=j∧k / M < j∧∀ k',k' < k→nx.getD k' 0 < j
 first:0 < st.length∧st.getD 0 0=1
 rows:e / M≤st.length
theorem Drawn.start {B M:Nat} {dl:Nat→Nat→Nat} (hB:1 < B):Drawn B M dl [1] 0 [] :=
 ⟨rfl,fun i j hij hj=>by simp at hj;omega,fun i hi=>by simp at hi;subst hi;exact hB,fun k hk=>absurd hk (Nat.not_lt_zero _),fun j h0 hj=>by simp at hj;omega,by simp,by simp⟩
theorem Drawn.size {B M:Nat} {dl:Nat→Nat→Nat} {st:List Nat} {e:Nat} {nx:List Nat} (h:Drawn B M dl st e nx):st.length≤B:=by
 refine Nat.le_of_not_lt fun hlt=>?_
 obtain ⟨i,j,hij,hj,e⟩:=pigeon B (fun i=>st.getD i 0) fun i hi=>h.bound i (by omega)
 exact h.nodup i j hij (by omega) e
theorem Drawn.old {B M:Nat} {dl:Nat→Nat→Nat} {st:List Nat} {e:Nat} {nx:List Nat} {j:Nat} (h:Drawn B M dl st e nx) (hM:0 < M) (he:e / M < st.length) (hj:j < st.length) (hs:st.getD j 0=dl (st.getD (e / M) 0) (e % M)):Drawn B M dl st (e+1) (nx++[j]):=by
 have hl:=h.len
 refine ⟨by simp [hl],h.nodup,h.bound,fun k hk=>?_,fun i h0 hi=>?_,h.first,?_⟩
 ·by_cases hke:k=e
  ·subst hke
   rw [←hl,getD_snoc_new,hl];exact ⟨hj,hs⟩
  ·rw [getD_snoc_old (by omega)];exact h.edge k (by omega)
 ·obtain ⟨k,h1,h2,h3,h4⟩:=h.met i h0 hi
  refine ⟨k,by omega,by rw [getD_snoc_old (by omega)];exact h2,h3,fun k' hk'=>?_⟩
  rw [getD_snoc_old (by omega)];exact h4 k' hk'
 ·have:(e+1) / M≤e / M+1:=by
   rw [Nat.div_le_iff_le_mul_add_pred hM]
   have:=Nat.div_add_mod e M
   have:=Nat.mod_lt e hM
   rw [Nat.mul_add];omega
  omega
theorem Drawn.new {B M:Nat} {dl:Nat→Nat→Nat} {st:List Nat} {e:Nat} {nx:List Nat} {s:Nat} (h:Drawn B M dl st e nx) (hM:0 < M) (he:e / M < st.length) (hs:s=dl (st.getD (e / M) 0) (e % M)) (hb:s < B) (hf:∀ i,i < st.length→st.getD i 0≠s):Drawn B M dl (st++[s]) (e+1) (nx++[st.length]):=by
 have hl:=h.len
 have hl2:(st++[s]).length=st.length+1:=by simp
 refine ⟨by simp [hl],fun i j hij hj=>?_,fun i hi=>?_,fun k hk=>?_,fun i h0 hi=>?_,⟨by omega,by rw [getD_snoc_old h.first.1];exact h.first.2⟩,?_⟩
 ·rw [getD_snoc_old (show i < st.length by omega)]
  by_cases hj2:j=st.length
  ·rw [hj2,getD_snoc_new];exact hf i (by omega)
  ·rw [getD_snoc_old (show j < st.length by omega)];exact h.nodup i j hij (by omega)
 ·by_cases hj2:i=st.length
  ·rw [hj2,getD_snoc_new];exact hb
  ·rw [getD_snoc_old (show i < st.length by omega)];exact h.bound i (by omega)
 ·have hkM:k / M < st.length:=by
   have:k / M≤e / M:=Nat.div_le_div_right (by omega)
   omega
  by_cases hke:k=e
  ·subst hke
   have e1:(nx++[st.length]).getD k 0=st.length:=by rw [←hl];exact getD_snoc_new _ _
   rw [e1]
   exact ⟨by omega,by rw [getD_snoc_new,getD_snoc_old hkM];exact hs⟩
  ·have:=h.edge k (by omega)
   rw [getD_snoc_old (show k < nx.length by omega),getD_snoc_old this.1,getD_snoc_old hkM]
   exact ⟨by omega,this.2⟩
 ·by_cases hj2:i=st.length
  ·subst hj2
   refine ⟨e,by omega,by rw [←hl];exact getD_snoc_new _ _,he,fun k' hk'=>?_⟩
   rw [getD_snoc_old (by omega)];exact (h.edge k' hk').1
  ·obtain ⟨k,h1,h2,h3,h4⟩:=h.met i h0 (by omega)
   refine ⟨k,by omega,by rw [getD_snoc_old (by omega)];exact h2,h3,fun k' hk'=>?_⟩
   rw [getD_snoc_old (by omega)];exact h4 k' hk'
 ·have:(e+1) / M≤e / M+1:=by
   rw [Nat.div_le_iff_le_mul_add_pred hM]
   have:=Nat.div_add_mod e M
   have:=Nat.mod_lt e hM
   rw [Nat.mul_add];omega
  omega
theorem Sorted.below_head {N:Nat} {E:Nat→Nat→Prop} {hs:List Nat} {kd:Nat→Nat} (h:Sorted N E hs kd) {c b:Nat} (hc:c < hs.length) (hb:b < hs.getD c 0):kd b < c:=by
 have g:=h.head c hc
 have l:=h.lt b (by omega)
 have:=h.le b (by omega)
 refine Nat.lt_of_not_le fun hle=>?_
 rcases Nat.lt_or_eq_of_le hle with q | q
 ·have:=h.incr c _ q l;omega
 ·rw [←q] at this;omega
theorem edge_div {M i c:Nat} (hc:c < M):(i * M+c) / M=i∧(i * M+c) % M=c:=by
 have hM:0 < M:=by omega
 rw [Nat.mul_comm i M,Nat.mul_add_div hM,Nat.div_eq_of_lt hc,Nat.mul_add_mod,Nat.mod_eq_of_lt hc]
 exact ⟨by omega,rfl⟩
theorem edge_lt {M i c i' c':Nat} (hc:c < M) (hi:i < i'):i * M+c < i' * M+c':=by
 have:(i+1) * M≤i' * M:=Nat.mul_le_mul_right M hi
 rw [Nat.add_mul] at this;omega
theorem Drawn.dfa {p:Part} {B:Nat} {st nx hb:List Nat} {lt:Nat→Nat} {gr:Nat→Bool} {L:List Nat→Prop}
  (hs:Sorted 256 (fun b b'=>fitP p b=fitP p b') hb lt) (h:Drawn B hb.length (fun s c=>reachP p s &&& fitP p (hb.getD c 0)) st (st.length * hb.length) nx)
  (hg:∀ i,i < st.length→(gr i=true↔st.getD i 0 &&& p.last≠0)) (hL:∀ u,runN p 1 u &&& p.last≠0↔L u) :
  BfsDfa L st.length (fun i b=>nx.getD (i * hb.length+lt b) 0) gr:=by
 have hM:0 < hb.length:=(hs.zero (by omega)).1
 have hk:∀ {i b},i < st.length→b < 256→i * hb.length+lt b < st.length * hb.length:=fun {i b} hi hb'=>edge_lt (c':=0) (hs.lt b hb') hi
 have hstep:∀ {i b},i < st.length→b < 256→nx.getD (i * hb.length+lt b) 0 < st.length∧st.getD (nx.getD (i * hb.length+lt b) 0) 0=stepN p (st.getD i 0) b:=fun {i b} hi hb'=>by
  have:=h.edge _ (hk hi hb')
  rw [(edge_div (hs.lt b hb')).1,(edge_div (hs.lt b hb')).2] at this
  refine ⟨this.1,?_⟩
  have g:=hs.head _ (hs.lt b hb')
  have e:fitP p (hb.getD (lt b) 0)=fitP p b:=(hs.iff _ b g.1 hb').1 g.2
  rw [this.2,stepN_fit]
  show reachP p _ &&& fitP p _=_
  rw [e]
 have hrun:∀ (u:List Nat) (i:Nat),i < st.length→bytesOk u→dRun (fun i b=>nx.getD (i * hb.length+lt b) 0) i u < st.length∧st.getD (dRun (fun i b=>nx.getD (i * hb.length+lt b) 0) i u) 0=runN p (st.getD i 0) u:=by
  intro u
  induction u with
  | nil=>intro i hi _;exact ⟨hi,rfl⟩
  | cons b u ih =>
   intro i hi hu
   have hb':=bytesOk_tail hu
   have g:=hstep hi hb'.1
   have:=ih _ g.1 hb'.2
   rw [g.2] at this
   exact this
 refine ⟨h.first.1,fun i b hi hb'=>(hstep hi hb').1,fun u hu=>?_,fun k h0 hk1=>?_⟩
 ·have g:=hrun u 0 h.first.1 hu
  rw [h.first.2] at g
  rw [hg _ g.1,g.2];exact hL u
 ·obtain ⟨k0,h1,h2,h3,h4⟩:=h.met k h0 hk1
  have hc:k0 % hb.length < hb.length:=Nat.mod_lt _ hM
  have g:=hs.head _ hc
  have e0:k0 / hb.length * hb.length+k0 % hb.length=k0:=by rw [Nat.mul_comm];exact Nat.div_add_mod _ _
  refine ⟨k0 / hb.length,hb.getD (k0 % hb.length) 0,h3,g.1,?_,fun i' b' hb' hi'=>?_,fun b' hb'=>?_⟩
  ·show nx.getD (_ * _+lt _) 0=k
   rw [g.2,e0];exact h2
  ·refine h4 _ ?_
   rw [←e0]
   exact edge_lt (hs.lt b' hb') hi'
  ·refine h4 _ ?_
   have:=hs.below_head hc hb'
   omega
end Go.Proofs.YtobfpgoepaeknaaGreat
namespace Go.Proofs.YtobfpgoepaeknaaGreat
open Go.RowKit
def midN (f:Nat→Nat):List Value:=(List.range 256).map (fun b=>Value.int .i64 ((f b:Nat):Int))
theorem midN_len (f:Nat→Nat):(midN f).length=256:=by rw [midN,List.length_map,List.length_range]
theorem midN_get (f:Nat→Nat) {b:Nat} (h:b < 256):(midN f)[b]?=some (.int .i64 ((f b:Nat):Int)):=by
 rw [midN,List.getElem?_map,List.getElem?_range h];rfl
def rowN (pre:List Value) (f:Nat→Nat) (post:List Value):Array Value:=(pre++(midN f++post)).toArray
theorem rowN_size (pre post:List Value) (f:Nat→Nat):(rowN pre f post).size=pre.length+256+post.length:=by
 rw [rowN,List.size_toArray,List.length_append,List.length_append,midN_len,Nat.add_assoc]
theorem rowN_pre (pre post:List Value) (f:Nat→Nat) {i:Nat} (h:i < pre.length):(rowN pre f post)[i]?=pre[i]?:=by
 simp only [rowN,List.getElem?_toArray];rw [List.getElem?_append_left h]
theorem rowN_mid (pre post:List Value) (f:Nat→Nat) {b:Nat} (h:b < 256):(rowN pre f post)[pre.length+b]?=some (.int .i64 ((f b:Nat):Int)):=by
 simp only [rowN,List.getElem?_toArray]
 rw [List.getElem?_append_right (by omega),Nat.add_sub_cancel_left,List.getElem?_append_left (by rw [midN_len];exact h),midN_get f h]
theorem rowN_post (pre post:List Value) (f:Nat→Nat) (i:Nat):(rowN pre f post)[pre.length+256+i]?=post[i]?:=by
 simp only [rowN,List.getElem?_toArray]
 rw [Nat.add_assoc,List.getElem?_append_right (by omega),Nat.add_sub_cancel_left,List.getElem?_append_right (by rw [midN_len];omega),midN_len,Nat.add_sub_cancel_left]
theorem rowN_congr {pre post:List Value} {f g:Nat→Nat} (h:∀ b,b < 256→f b=g b):rowN pre f post=rowN pre g post:=by
 have:midN f=midN g:=List.map_congr_left (fun b hb=>by rw [h b (List.mem_range.1 hb)])
 rw [rowN,rowN,this]
theorem rowN_set (pre post:List Value) (f:Nat→Nat) {b:Nat} (hb:b < 256) (x:Nat):(rowN pre f post).setIfInBounds (pre.length+b) (.int .i64 ((x:Nat):Int))=rowN pre (fun c=>if c=b then x else f c) post:=by
 apply Array.ext_getElem?
 intro i
 rw [Array.getElem?_setIfInBounds]
 by_cases h1:i < pre.length
 ·rw [if_neg (by omega),rowN_pre _ _ _ h1,rowN_pre _ _ _ h1]
 ·obtain ⟨c,rfl⟩:∃ c,i=pre.length+c:=⟨i - pre.length,by omega⟩
  by_cases h2:c < 256
  ·rw [rowN_mid _ _ _ h2,rowN_mid _ _ _ h2]
   by_cases h3:c=b
   ·subst h3;rw [if_pos rfl,if_pos (by rw [rowN_size];omega),if_pos rfl]
   ·rw [if_neg (by omega),if_neg h3]
  ·obtain ⟨d,rfl⟩:∃ d,c=256+d:=⟨c - 256,by omega⟩
   rw [if_neg (by omega),←Nat.add_assoc,rowN_post,rowN_post]
theorem rowN_set_pre (pre post:List Value) (f:Nat→Nat) {i:Nat} (hi:i < pre.length) (v:Value):(rowN pre f post).setIfInBounds i v=rowN (pre.set i v) f post:=by
 unfold rowN
 rw [List.setIfInBounds_toArray,List.set_append_left _ _ hi]
theorem rowN_set_post (pre post:List Value) (f:Nat→Nat) (i:Nat) (v:Value):(rowN pre f post).setIfInBounds (pre.length+256+i) v=rowN pre f (post.set i v):=by
 unfold rowN
 rw [List.setIfInBounds_toArray,Nat.add_assoc,List.set_append_right _ _ (by omega),Nat.add_sub_cancel_left,List.set_append_right _ _ (by rw [midN_len];omega),midN_len,Nat.add_sub_cancel_left]
theorem midN_one (f:Nat→Nat):(midN f).all (·.oneCell')=true:=by
 rw [List.all_eq_true]
 intro v hv
 obtain ⟨b,_,rfl⟩:=List.mem_map.1 hv
 rfl
theorem rowN_one {pre post:List Value} (f:Nat→Nat) (h1:pre.all (·.oneCell')=true) (h2:post.all (·.oneCell')=true):(rowN pre f post).all (·.oneCell')=true:=by
 unfold rowN
 rw [List.all_toArray,List.all_append,List.all_append,h1,h2,midN_one];rfl
theorem rowN_ne (pre post:List Value) (f:Nat→Nat):rowN pre f post≠#[]:=fun e=>by have:=rowN_size pre post f;rw [e] at this;simp at this;omega
def autA (nv:Value) (f:Nat→Nat) (last:Int):Array Value:=rowN [nv] f [.int .i64 last]
def zcA:Array Value:=autA (.slice none 0 0) (fun _=>0) 0
theorem autA_size (nv:Value) (f:Nat→Nat) (last:Int):(autA nv f last).size=258:=rowN_size _ _ _
theorem zcA_size:zcA.size=258:=autA_size _ _ _
theorem zcA_ne:zcA≠#[]:=rowN_ne _ _ _
theorem zvA (w:World):(zeroValue 90).run Tryz.prog w=.ok (.agg zcA) w:=by kernel_rfl
theorem autA_0 (nv:Value) (f:Nat→Nat) (last:Int):(autA nv f last)[0]?=some nv:=rowN_pre _ _ _ (by simp)
theorem autA_b (nv:Value) (f:Nat→Nat) (last:Int) {b:Nat} (h:b < 256):(autA nv f last)[1+b]?=some (.int .i64 ((f b:Nat):Int)):=rowN_mid [nv] _ _ h
theorem autA_257 (nv:Value) (f:Nat→Nat) (last:Int):(autA nv f last)[257]?=some (.int .i64 last):=rowN_post [nv] _ _ 0
theorem autA_set (nv:Value) (f:Nat→Nat) (last:Int) {b:Nat} (h:b < 256) (x:Nat):(autA nv f last).setIfInBounds (1+b) (.int .i64 ((x:Nat):Int))=autA nv (fun c=>if c=b then x else f c) last:=rowN_set [nv] _ _ h x
theorem autA_one (a:Option Addr) (n c:Nat) (f:Nat→Nat) (last:Int):(autA (.slice a n c) f last).all (·.oneCell')=true:=rowN_one f rfl rfl
def AutV (w:World) (v:Value) (p:Part):Prop:=∃ nv,v=.agg (autA nv (fitP p) (p.last:Int))∧NRow w 0 nv p.next
def AutB (w:World) (g:Nat) (p:Part):Prop:=∃ nv,w.heap[g]?=some (.cells (autA nv (fitP p) (p.last:Int)) 90 (0,0))∧NRow w 0 nv p.next
theorem AutB.below {w w':World} {g:Nat} {p:Part} (h:AutB w g p) (hb:Below w.heap.size w w'):AutB w' g p:=by
 obtain ⟨nv,h1,h2⟩:=h
 exact ⟨nv,by rw [hb.block _ (Array.getElem?_eq_some_iff.1 h1).1];exact h1,h2.below hb⟩
theorem AutB.drew {w:World} {g:Nat} {p:Part} (h:AutB w g p):AutB w.drew g p:=h
theorem fitP_lt {p:Part} (hp:p.Ok) (hl:p.next.length≤50) (b:Nat):fitP p b < top:=Nat.lt_trans (fitN_lt _ _ _) (pow_top (by rw [hp.1];omega))
theorem reachP_lt {p:Part} (hp:p.Ok) (hl:p.next.length≤50) (x:Nat):reachP p x < top:=Nat.lt_of_lt_of_le (reachN_lt hp.2.2.2 x _) (Nat.pow_le_pow_right (n:=2) (by omega) (show p.next.length≤60 by omega))
end Go.Proofs.YtobfpgoepaeknaaGreat
namespace Go.Proofs.YtobfpgoepaeknaaGreat
open Go.RowKit
attribute [local go_sem ↓] Go.wp_at_zero Go.wp_at_succ
set_option maxHeartbeats 1000000 in
theorem reach_any (w:World) (g:Nat) (p:Part) (x:Nat) (h:AutB w g p) (hp:p.Ok) (hl:p.next.length≤50) (hx:x < top) :
  Calls Tryz.prog 65 #[.pointer (some ⟨g,0,none⟩),.int .i64 (x:Int)] w fun e w'=>e=.returned (.int .i64 ((reachP p x:Nat):Int))∧w'=w:=by
 obtain ⟨nv,h1,h2⟩:=h
 obtain ⟨na,nc,rfl⟩:=h2.form
 have H2:=hide h2
 have hs:=hp.small hl
 have HX:=hide hx
 have HN:=hide hs.2.2.2
 have HR:=hide (fun k=>reachN_lt (next:=p.next) hp.2.2.2 x k)
 have HL:=hide hl
 have hlI:(p.next.length:Int)≤50:=by omega
 have HTOP:Hid (2 ^ p.next.length≤top):=Nat.pow_le_pow_right (n:=2) (by omega) (show p.next.length≤60 by omega)
 have y0:w.cell? ⟨g,0,none⟩=some (.slice na p.next.length nc):=by rw [cell_of_row _ _ _ _ _ _ h1,autA_0]
 have HP:Hid (reachP p x=reachN p.next x p.next.length):=rfl
 clear h1 h2 hs hp hl hx
 go_enter Tryz.func65,Tryz.ntmps65
 go_wp2
 go_loopw [5,6] (fun rx ix wr=>∃ k r:Nat,ix=.int .i64 (k:Int)∧rx=.int .i64 (r:Int)∧k≤p.next.length∧wr=w∧Hid (r=reachN p.next x k)) (fun _ ix _=>p.next.length - (intOf ix).toNat)
 case atStart=>exact ⟨0,0,rfl,rfl,Nat.zero_le _,rfl,rfl⟩
 case round =>
  rename World=>wr
  obtain ⟨k,r,rfl,rfl,hk,rfl,HH⟩:=hrel
  by_cases hlt:k < p.next.length
  ·obtain ⟨g2,cap,he,hc⟩:=(unhide H2).at hlt
   simp only [Value.slice.injEq,true_and] at he
   obtain ⟨rfl,rfl⟩:=he
   have hlt':(k:Int) < (p.next.length:Int):=by omega
   have hcall:=has_any x k wr (by have:=unhide HL;omega) (unhide HX)
   have hn:p.next.getD k 0 < top:=by rw [List.getD_eq_getElem?_getD,List.getElem?_eq_getElem hlt];exact unhide HN _ (List.getElem_mem _)
   have hr:r < top:=by rw [unhide HH];exact Nat.lt_of_lt_of_le (unhide HR k) (unhide HTOP)
   have HE:=hide (i64_or_nat r (p.next.getD k 0) hr hn)
   have HSN:Hid (reachN p.next x (k+1)=if x.testBit k then reachN p.next x k ||| p.next.getD k 0 else reachN p.next x k):=rfl
   clear hn hr
   generalize p.next.getD k 0=y at *
   by_cases ht:x.testBit k=true
   ·rw [ht] at hcall
    have HC:=hide hcall
    have HT:=hide ht
    clear hcall hlt ht
    go_wp2_with (go_at_call 112;refine (unhide HC).mono ?_;rintro e w' ⟨rfl,rfl⟩)
    go_roundw
    case rel =>
     refine ⟨k+1,r ||| y,by go_num,?_,by omega,by trivial,?_⟩
     ·first | rfl | rw [unhide HE]
     ·show _=_
      rw [unhide HSN,if_pos (unhide HT),unhide HH]
    case measure=>simp [intOf];omega
   ·have ht':x.testBit k=false:=by simpa using ht
    rw [ht'] at hcall
    have HC:=hide hcall
    have HT:=hide ht
    clear hcall hlt ht ht'
    go_wp2_with (go_at_call 112;refine (unhide HC).mono ?_;rintro e w' ⟨rfl,rfl⟩)
    go_roundw
    case rel =>
     refine ⟨k+1,r,by go_num,rfl,by omega,by trivial,?_⟩
     show _=_
     rw [unhide HSN,if_neg (unhide HT),unhide HH]
    case measure=>simp [intOf];omega
  ·have hk2:k=p.next.length:=by omega
   subst hk2
   go_wp2
   go_ret
   exact ⟨ret_int (by rw [unhide HP,unhide HH]),rfl⟩
theorem grants_any (w:World) (g:Nat) (p:Part) (x:Nat) (h:AutB w g p) (hp:p.Ok) (hl:p.next.length≤50) (hx:x < top) :
  Calls Tryz.prog 66 #[.pointer (some ⟨g,0,none⟩),.int .i64 (x:Int)] w fun e w'=>e=.returned (.bool (decide (x &&& p.last≠0)))∧w'=w:=by
 obtain ⟨nv,h1,h2⟩:=h
 have y0:w.cell? ⟨g,257,none⟩=some (.int .i64 (p.last:Int)):=by rw [cell_of_row _ _ _ _ _ _ h1,autA_257]
 have e1:=i64_and_nat x p.last hx (hp.small hl).2.2.1
 clear h1 h2 hp hl hx
 go_enter Tryz.func66,Tryz.ntmps66
 go_wp2
 go_ret
 refine ⟨?_,rfl⟩
 generalize x &&& p.last=n
 by_cases h:n=0
 ·subst h;rfl
 ·have h1:((n:Int) != 0)=true:=by simp;omega
  simp [h1,h]
end Go.Proofs.YtobfpgoepaeknaaGreat
