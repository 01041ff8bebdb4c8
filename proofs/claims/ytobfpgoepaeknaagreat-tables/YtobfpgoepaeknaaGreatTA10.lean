/-
  Plain mathematics: things that are sorted by likeness, each kind numbered by its first; that splitting the kinds until there are no more ends at the least automaton.
  Plain mathematics: the graph of an automaton, drawn state by state and letter by letter, numbers its states as they are met.
  Plain mathematics: from the graph to the table: the kinds of states, the classes of letters; how many there can be.
  Plain mathematics: states found one after the other, by what is left behind their first strings; alike bytes.
-/
import Derived.Test.YtobfpgoepaeknaaGreatTA07
import Derived.Test.YtobfpgoepaeknaaGreatTA08
namespace Go.Proofs.YtobfpgoepaeknaaGreat
structure Sorted (N:Nat) (E:Nat→Nat→Prop) (hs:List Nat) (kd:Nat→Nat):Prop where
 head:∀ k,k < hs.length→hs.getD k 0 < N∧kd (hs.getD k 0)=k
 lt:∀ a,a < N→kd a < hs.length
 le:∀ a,a < N→hs.getD (kd a) 0≤a
 incr:∀ j k,j < k→k < hs.length→hs.getD j 0 < hs.getD k 0
 iff:∀ a b,a < N→b < N→(kd a=kd b↔E a b)
theorem Sorted.nil (E:Nat→Nat→Prop) (kd:Nat→Nat):Sorted 0 E [] kd :=
 ⟨fun _ h=>absurd h (Nat.not_lt_zero _),fun _ h=>absurd h (Nat.not_lt_zero _),fun _ h=>absurd h (Nat.not_lt_zero _),fun _ _ _ h=>absurd h (Nat.not_lt_zero _),fun _ _ h=>absurd h (Nat.not_lt_zero _)⟩
theorem getD_snoc_old {l:List Nat} {x k:Nat} (h:k < l.length):(l++[x]).getD k 0=l.getD k 0:=by
 rw [List.getD_eq_getElem?_getD,List.getD_eq_getElem?_getD,List.getElem?_append_left h]
theorem getD_snoc_new (l:List Nat) (x:Nat):(l++[x]).getD l.length 0=x:=by
 rw [List.getD_eq_getElem?_getD,List.getElem?_append_right (Nat.le_refl _),Nat.sub_self];rfl
theorem Sorted.old {n:Nat} {E:Nat→Nat→Prop} {hs:List Nat} {kd kd':Nat→Nat} {k:Nat} (h:Sorted n E hs kd) (hE:Equivalence E) (hk:k < hs.length) (he:E n (hs.getD k 0)) (h1:∀ a,a < n→kd' a=kd a) (h2:kd' n=k):Sorted (n+1) E hs kd':=by
 refine ⟨fun j hj=>?_,fun a ha=>?_,fun a ha=>?_,h.incr,?_⟩
 ·have:=h.head j hj
  exact ⟨by omega,by rw [h1 _ this.1];exact this.2⟩
 ·by_cases e:a=n
  ·rw [e,h2];exact hk
  ·rw [h1 a (by omega)];exact h.lt a (by omega)
 ·by_cases e:a=n
  ·rw [e,h2];have:=(h.head k hk).1;omega
  ·rw [h1 a (by omega)];exact h.le a (by omega)
 ·have key:∀ b,b < n→(k=kd b↔E n b):=fun b hb=>by
   have g:=h.head k hk
   have:=h.iff _ b g.1 hb
   rw [g.2] at this
   rw [this]
   exact ⟨fun q=>hE.trans he q,fun q=>hE.trans (hE.symm he) q⟩
  intro a b ha hb
  by_cases ea:a=n<;>by_cases eb:b=n
  ·subst ea;subst eb;exact ⟨fun _=>hE.refl _,fun _=>rfl⟩
  ·subst ea;rw [h2,h1 b (by omega)];exact key b (by omega)
  ·subst eb;rw [h2,h1 a (by omega)]
   exact ⟨fun q=>hE.symm ((key a (by omega)).1 q.symm),fun q=>((key a (by omega)).2 (hE.symm q)).symm⟩
  ·rw [h1 a (by omega),h1 b (by omega)];exact h.iff a b (by omega) (by omega)
theorem Sorted.new {n:Nat} {E:Nat→Nat→Prop} {hs:List Nat} {kd kd':Nat→Nat} (h:Sorted n E hs kd) (hE:Equivalence E) (hno:∀ j,j < hs.length→¬E n (hs.getD j 0)) (h1:∀ a,a < n→kd' a=kd a) (h2:kd' n=hs.length):Sorted (n+1) E (hs++[n]) kd':=by
 have hl:(hs++[n]).length=hs.length+1:=by simp
 refine ⟨fun j hj=>?_,fun a ha=>?_,fun a ha=>?_,fun i j hij hj=>?_,?_⟩
 ·by_cases e:j=hs.length
  ·rw [e,getD_snoc_new];exact ⟨by omega,h2⟩
  ·have hj':j < hs.length:=by omega
   have:=h.head j hj'
   rw [getD_snoc_old hj']
   exact ⟨by omega,by rw [h1 _ this.1];exact this.2⟩
 ·by_cases e:a=n
  ·rw [e,h2];omega
  ·rw [h1 a (by omega)];have:=h.lt a (by omega);omega
 ·by_cases e:a=n
  ·rw [e,h2,getD_snoc_new];exact Nat.le_refl _
  ·have:=h.lt a (by omega)
   rw [h1 a (by omega),getD_snoc_old this];exact h.le a (by omega)
 ·rw [getD_snoc_old (show i < hs.length by omega)]
  by_cases e:j=hs.length
  ·rw [e,getD_snoc_new];exact (h.head i (by omega)).1
  ·rw [getD_snoc_old (show j < hs.length by omega)];exact h.incr i j hij (by omega)
 ·have key:∀ b,b < n→¬E n b:=fun b hb q=>by
   have l:=h.lt b hb
   have g:=h.head _ l
   exact hno _ l (hE.trans q (hE.symm ((h.iff _ b g.1 hb).1 g.2)))
  intro a b ha hb
  by_cases ea:a=n<;>by_cases eb:b=n
  ·subst ea;subst eb;exact ⟨fun _=>hE.refl _,fun _=>rfl⟩
  ·subst ea;rw [h2,h1 b (by omega)]
   have:=h.lt b (by omega)
   exact ⟨fun q=>by omega,fun q=>absurd q (key b (by omega))⟩
  ·subst eb;rw [h2,h1 a (by omega)]
   have:=h.lt a (by omega)
   exact ⟨fun q=>by omega,fun q=>absurd (hE.symm q) (key a (by omega))⟩
  ·rw [h1 a (by omega),h1 b (by omega)];exact h.iff a b (by omega) (by omega)
theorem Sorted.apart {N:Nat} {E:Nat→Nat→Prop} {hs:List Nat} {kd:Nat→Nat} (h:Sorted N E hs kd) {i j:Nat} (hij:i < j) (hj:j < hs.length):¬E (hs.getD i 0) (hs.getD j 0):=fun e=>by
 have h1:=h.head i (by omega)
 have h2:=h.head j hj
 have:=(h.iff _ _ h1.1 h2.1).2 e
 rw [h1.2,h2.2] at this;omega
theorem Sorted.grow {N:Nat} {E:Nat→Nat→Prop} {hs:List Nat} {kd:Nat→Nat} (h:Sorted N E hs kd) {a:Nat} (ha:a < N) {c:Nat} (hc:c < kd a):∃ a',a' < a∧kd a'=c:=by
 have l:=h.lt a ha
 have g:=h.head c (by omega)
 exact ⟨_,Nat.lt_of_lt_of_le (h.incr c _ hc l) (h.le a ha),g.2⟩
theorem Sorted.zero {N:Nat} {E:Nat→Nat→Prop} {hs:List Nat} {kd:Nat→Nat} (h:Sorted N E hs kd) (hN:0 < N):0 < hs.length∧kd 0=0∧hs.getD 0 0=0:=by
 have l:=h.lt 0 hN
 have e:kd 0=0:=by
  by_cases e:kd 0=0
  ·exact e
  ·obtain ⟨a',h1,_⟩:=h.grow hN (show 0 < kd 0 by omega);omega
 have:=h.le 0 hN
 rw [e] at this
 exact ⟨by omega,e,by omega⟩
structure BfsDfa (L:List Nat→Prop) (N:Nat) (nx:Nat→Nat→Nat) (gr:Nat→Bool):Prop where
 pos:0 < N
 lt:∀ i b,i < N→b < 256→nx i b < N
 says:∀ u,bytesOk u→(gr (dRun nx 0 u)=true↔L u)
 bfs:∀ k,0 < k→k < N→∃ i b,i < k∧b < 256∧nx i b=k∧(∀ i' b',b' < 256→i' < i→nx i' b' < k)∧(∀ b',b' < b→nx i b' < k)
section fold
variable {L : List Nat → Prop} {N : Nat} {nx : Nat → Nat → Nat} {gr : Nat → Bool}
theorem BfsDfa.run_lt (h:BfsDfa L N nx gr):∀ (u:List Nat) (i:Nat),i < N→bytesOk u→dRun nx i u < N
 | [],_,hi,_=>hi
 | b ::u,i,hi,hu=>h.run_lt u _ (h.lt i b hi (bytesOk_tail hu).1) (bytesOk_tail hu).2
theorem BfsDfa.reached (h:BfsDfa L N nx gr) (k:Nat):k < N→∃ u,bytesOk u∧dRun nx 0 u=k:=by
 induction k using Nat.strongRecOn with
 | ind k ih =>
  intro hk
  by_cases h0:k=0
  ·exact ⟨[],bytesOk_nil,h0.symm⟩
  ·obtain ⟨i,b,hi,hb,e,_⟩:=h.bfs k (by omega) hk
   obtain ⟨u,hu,eu⟩:=ih i hi (by omega)
   exact ⟨u++[b],bytesOk_snoc hu hb,by rw [dRun_append,eu];exact e⟩
def Espl (nx:Nat→Nat→Nat) (gr:Nat→Bool) (kd:Nat→Nat) (a b:Nat):Prop:=kd a=kd b∧gr a=gr b∧∀ c,c < 256→kd (nx a c)=kd (nx b c)
def ToldK (N:Nat) (nx:Nat→Nat→Nat) (gr:Nat→Bool) (kd:Nat→Nat):Prop:=∀ a b,a < N→b < N→kd a≠kd b→∃ u,bytesOk u∧gr (dRun nx a u)≠gr (dRun nx b u)
theorem ToldK.zero {kd:Nat→Nat} (h:∀ a,a < N→kd a=0):ToldK N nx gr kd:=fun a b ha hb hne=>absurd (by rw [h a ha,h b hb]) hne
theorem ToldK.not (hl:∀ i b,i < N→b < 256→nx i b < N) {kd:Nat→Nat} (h:ToldK N nx gr kd) {a b:Nat} (ha:a < N) (hb:b < N) (hne:¬Espl nx gr kd a b):∃ u,bytesOk u∧gr (dRun nx a u)≠gr (dRun nx b u):=by
 by_cases h1:kd a=kd b
 ·by_cases h2:gr a=gr b
  ·obtain ⟨c,hc⟩:=Classical.not_forall.1 fun h3=>hne ⟨h1,h2,h3⟩
   obtain ⟨hc,hd⟩:=Classical.not_imp.1 hc
   obtain ⟨u,hu,e⟩:=h _ _ (hl a c ha hc) (hl b c hb hc) hd
   exact ⟨c ::u,bytesOk_cons hc hu,e⟩
  ·exact ⟨[],bytesOk_nil,h2⟩
 ·exact h a b ha hb h1
theorem ToldK.next (hl:∀ i b,i < N→b < 256→nx i b < N) {kd kd':Nat→Nat} {hs:List Nat} (h:ToldK N nx gr kd) (hs':Sorted N (Espl nx gr kd) hs kd'):ToldK N nx gr kd' :=
 fun a b ha hb hne=>h.not hl ha hb fun e=>hne ((hs'.iff a b ha hb).2 e)
theorem Sorted.size_le {E E':Nat→Nat→Prop} {hs hs':List Nat} {kd kd':Nat→Nat} (h:Sorted N E hs kd) (h':Sorted N E' hs' kd') (hf:∀ a b,a < N→b < N→kd' a=kd' b→kd a=kd b):hs.length≤hs'.length:=by
 refine Nat.le_of_not_lt fun hlt=>?_
 obtain ⟨i,j,hij,hj,e⟩:=pigeon hs'.length (fun k=>kd' (hs.getD k 0)) fun k hk=>h'.lt _ (h.head k (by omega)).1
 have h1:=h.head i (by omega)
 have h2:=h.head j (by omega)
 have:=hf _ _ h1.1 h2.1 e
 rw [h1.2,h2.2] at this;omega
theorem Sorted.size_eq {E E':Nat→Nat→Prop} {hs hs':List Nat} {kd kd':Nat→Nat} (h:Sorted N E hs kd) (h':Sorted N E' hs' kd') (hf:∀ a b,a < N→b < N→kd' a=kd' b→kd a=kd b) (he:hs.length=hs'.length) {a b:Nat} (ha:a < N) (hb:b < N) (hk:kd a=kd b):kd' a=kd' b:=by
 refine Classical.byContradiction fun hne=>?_
 have key:∀ x,x < N→(∀ k,k < hs.length→kd' (hs.getD k 0)≠kd' x)→False:=fun x hx hno=>by
  obtain ⟨i,j,hij,hj,e⟩:=pigeon hs.length (fun k=>if k < hs.length then kd' (hs.getD k 0) else kd' x) fun k hk=>by
   show (if _ then _ else _) < _
   split
   ·rw [he];exact h'.lt _ (h.head k (by assumption)).1
   ·rw [he];exact h'.lt _ hx
  have hi:i < hs.length:=by omega
  simp only [if_pos hi] at e
  by_cases hj2:j < hs.length
  ·rw [if_pos hj2] at e
   have h1:=h.head i hi
   have h2:=h.head j hj2
   have:=hf _ _ h1.1 h2.1 e
   rw [h1.2,h2.2] at this;omega
  ·rw [if_neg hj2] at e
   exact hno i hi e
 have img:∀ x,x < N→∃ k,k < hs.length∧kd' (hs.getD k 0)=kd' x:=fun x hx=>Classical.byContradiction fun hno=>key x hx fun k hk e=>hno ⟨k,hk,e⟩
 obtain ⟨i,hi,ei⟩:=img a ha
 obtain ⟨j,hj,ej⟩:=img b hb
 have h1:=h.head i hi
 have h2:=h.head j hj
 have e1:=hf _ _ h1.1 ha ei
 have e2:=hf _ _ h2.1 hb ej
 rw [h1.2] at e1
 rw [h2.2] at e2
 have:i=j:=by omega
 subst this
 exact hne (ei.symm.trans ej)
theorem BfsDfa.many (h:BfsDfa L N nx gr) {kd kd':Nat→Nat} (ht:ToldK N nx gr kd) {n:Nat} {hs:List Nat} (hn:n≤N) (hs':Sorted n (Espl nx gr kd) hs kd') (hl:24 < hs.length):ManyStates L:=by
 have hc:∀ k,k < hs.length→∃ u,bytesOk u∧dRun nx 0 u=hs.getD k 0:=fun k hk=>h.reached _ (Nat.lt_of_lt_of_le (hs'.head k hk).1 hn)
 refine ⟨fun k=>if hk:k < hs.length then Classical.choose (hc k hk) else [],fun i hi=>?_,fun i j hij hj ha=>?_⟩
 ·simp only [dif_pos (show i < hs.length by omega)]
  exact (Classical.choose_spec (hc i (by omega))).1
 ·simp only [dif_pos (show i < hs.length by omega),dif_pos (show j < hs.length by omega)] at ha
  have si:=Classical.choose_spec (hc i (by omega))
  have sj:=Classical.choose_spec (hc j (by omega))
  generalize Classical.choose (hc i (by omega))=u at ha si
  generalize Classical.choose (hc j (by omega))=v at ha sj
  obtain ⟨w,hw,hne⟩:=ht.not h.lt (Nat.lt_of_lt_of_le (hs'.head i (by omega)).1 hn) (Nat.lt_of_lt_of_le (hs'.head j (by omega)).1 hn) (hs'.apart hij (by omega))
  apply hne
  rw [←si.2,←sj.2,←dRun_append,←dRun_append,Bool.eq_iff_iff,h.says _ (bytesOk_append si.1 hw),h.says _ (bytesOk_append sj.1 hw)]
  exact ha w hw
theorem BfsDfa.least (h:BfsDfa L N nx gr) {kd kd':Nat→Nat} (ht:ToldK N nx gr kd) {E:Nat→Nat→Prop} {hs hs':List Nat} (h0:Sorted N E hs kd) (h1:Sorted N (Espl nx gr kd) hs' kd') (he:hs.length=hs'.length) :
  MinDfa L hs'.length (fun k b=>kd' (nx (hs'.getD k 0) b)) (fun k=>gr (hs'.getD k 0)):=by
 have ht':=ht.next h.lt h1
 have hf:∀ a b,a < N→b < N→kd' a=kd' b→kd a=kd b:=fun a b ha hb e=>((h1.iff a b ha hb).1 e).1
 have hq:∀ {a b},a < N→b < N→kd' a=kd' b→gr a=gr b∧∀ c,c < 256→kd' (nx a c)=kd' (nx b c):=fun {a b} ha hb e=>by
  obtain ⟨_,g2,g3⟩:=(h1.iff a b ha hb).1 e
  exact ⟨g2,fun c hc=>h0.size_eq h1 hf he (h.lt a c ha hc) (h.lt b c hb hc) (g3 c hc)⟩
 have hk:∀ a,a < N→hs'.getD (kd' a) 0 < N∧kd' (hs'.getD (kd' a) 0)=kd' a:=fun a ha=>h1.head _ (h1.lt a ha)
 have hr:∀ (u:List Nat) (a:Nat),a < N→bytesOk u→dRun (fun k b=>kd' (nx (hs'.getD k 0) b)) (kd' a) u=kd' (dRun nx a u):=by
  intro u
  induction u with
  | nil=>intro a _ _;rfl
  | cons b u ih =>
   intro a ha hu
   have hb:=bytesOk_tail hu
   show dRun _ (kd' (nx (hs'.getD (kd' a) 0) b)) u=_
   rw [(hq (hk a ha).1 ha (hk a ha).2).2 b hb.1]
   exact ih _ (h.lt a b ha hb.1) hb.2
 have hg:∀ a,a < N→gr (hs'.getD (kd' a) 0)=gr a:=fun a ha=>(hq (hk a ha).1 ha (hk a ha).2).1
 obtain ⟨z1,z2,z3⟩:=h1.zero h.pos
 refine ⟨z1,fun i b hi hb=>h1.lt _ (h.lt _ b (h1.head i hi).1 hb),fun u hu=>?_,fun i j hi hj hs=>?_,fun k hk0 hk1=>?_⟩
 ·have:=hr u 0 h.pos hu
  rw [z2] at this
  rw [this]
  show gr _=true↔_
  rw [hg _ (h.run_lt u 0 h.pos hu)]
  exact h.says u hu
 ·have gi:=h1.head i hi
  have gj:=h1.head j hj
  refine Classical.byContradiction fun hne=>?_
  obtain ⟨u,hu,hd⟩:=ht' _ _ gi.1 gj.1 (by rw [gi.2,gj.2];exact hne)
  have e1:=hr u _ gi.1 hu
  have e2:=hr u _ gj.1 hu
  rw [gi.2] at e1
  rw [gj.2] at e2
  have:=hs u hu
  rw [e1,e2] at this
  have f1:=hg _ (h.run_lt u _ gi.1 hu)
  have f2:=hg _ (h.run_lt u _ gj.1 hu)
  exact hd (f1.symm.trans (this.trans f2))
 ·have gk:=h1.head k hk1
  have gz:=h1.incr 0 k hk0 hk1
  obtain ⟨i,b,hi,hb,e,f1,f2⟩:=h.bfs (hs'.getD k 0) (by omega) gk.1
  have hiN:i < N:=by omega
  have small:∀ a,a < hs'.getD k 0→kd' a < k:=fun a ha=>by
   have l:=h1.lt a (by omega)
   have:=h1.le a (by omega)
   refine Nat.lt_of_not_le fun hle=>?_
   rcases Nat.lt_or_eq_of_le hle with q | q
   ·have:=h1.incr k _ q l;omega
   ·rw [←q] at this;omega
  have hle:=h1.le i hiN
  refine ⟨kd' i,b,small i hi,hb,?_,fun i' b' hb' hi'=>?_,fun b' hb'=>?_⟩
  ·show kd' (nx (hs'.getD (kd' i) 0) b)=k
   rw [(hq (hk i hiN).1 hiN (hk i hiN).2).2 b hb,e];exact gk.2
  ·have l:=h1.lt i hiN
   have:=h1.incr i' (kd' i) hi' l
   exact small _ (f1 _ b' hb' (by omega))
  ·show kd' (nx (hs'.getD (kd' i) 0) b') < k
   rcases Nat.lt_or_eq_of_le hle with q | q
   ·exact small _ (f1 _ b' (by omega) q)
   ·rw [q];exact small _ (f2 b' hb')
end fold
end Go.Proofs.YtobfpgoepaeknaaGreat
namespace Go.Proofs.YtobfpgoepaeknaaGreat
def fitN (sets:List (Nat→Bool)) (b:Nat):Nat→Nat
 | 0=>0
 | k+1=>if setAtN sets k b then fitN sets b k ||| 2 ^ k else fitN sets b k
theorem fitN_bit (sets:List (Nat→Bool)) (b j:Nat):∀ k,(fitN sets b k).testBit j=true↔j < k∧setAtN sets j b=true
 | 0=>by simp [fitN]
 | k+1=>by
  rw [fitN]
  have ih:=fitN_bit sets b j k
  by_cases h:setAtN sets k b=true
  ·rw [if_pos h,Nat.testBit_or,Bool.or_eq_true,ih,bit_two]
   constructor
   ·rintro (⟨h1,h2⟩ | rfl)
    ·exact ⟨by omega,h2⟩
    ·exact ⟨by omega,h⟩
   ·rintro ⟨h1,h2⟩
    by_cases hj:j=k
    ·exact Or.inr hj
    ·exact Or.inl ⟨by omega,h2⟩
  ·rw [if_neg h,ih]
   constructor
   ·rintro ⟨h1,h2⟩;exact ⟨by omega,h2⟩
   ·rintro ⟨h1,h2⟩
    by_cases hj:j=k
    ·subst hj;exact absurd h2 h
    ·exact ⟨by omega,h2⟩
theorem fitN_lt (sets:List (Nat→Bool)) (b k:Nat):fitN sets b k < 2 ^ k:=by
 refine Nat.lt_pow_two_of_testBit _ fun i hi=>?_
 cases h:(fitN sets b k).testBit i
 ·rfl
 ·have:=((fitN_bit sets b i k).1 h).1;omega
def fitP (p:Part) (b:Nat):Nat:=fitN p.sets b p.sets.length
def reachP (p:Part) (x:Nat):Nat:=reachN p.next x p.next.length
theorem stepN_fit (p:Part) (x b:Nat):stepN p x b=reachP p x &&& fitP p b:=by
 apply Nat.eq_of_testBit_eq
 intro j
 rw [Bool.eq_iff_iff,Nat.testBit_and,Bool.and_eq_true]
 unfold stepN fitP reachP
 rw [ledN_bit,fitN_bit]
 constructor
 ·rintro ⟨h1,h2,h3⟩;exact ⟨h2,h1,h3⟩
 ·rintro ⟨h2,h1,h3⟩;exact ⟨h1,h2,h3⟩
structure Drawn (B M:Nat) (dl:Nat→Nat→Nat) (st:List Nat) (e:Nat) (nx:List Nat):Prop where
 len:nx.length=e
 nodup:∀ i j,i < j→j < st.length→st.getD i 0≠st.getD j 0
 bound:∀ i,i < st.length→st.getD i 0 < B
 edge:∀ k,k < e→nx.getD k 0 < st.length∧st.getD (nx.getD k 0) 0=dl (st.getD (k / M) 0) (k % M)
 met:∀ j,0 < j→j < st.length→∃ k,k < e∧nx.getD k 0=j∧k / M < j∧∀ k',k' < k→nx.getD k' 0 < j
 first:0 < st.length∧st.getD 0 0=1
 rows:e / M≤st.length
theorem Drawn.start {B M:Nat} {dl:Nat→Nat→Nat} (hB:1 < B):Drawn B M dl [1] 0 [] :=
 ⟨rfl,fun i j hij hj=>by simp at hj;omega,fun i hi=>by simp at hi;subst hi;exact hB,fun k hk=>absurd hk (Nat.not_lt_zero _),fun j h0 hj=>by simp at hj;omega,by simp,by simp⟩
theorem Drawn.size {B M:Nat} {dl:Nat→Nat→Nat} {st:List Nat} {e:Nat} {nx:List Nat} (h:Drawn B M dl st e nx):st.length≤B:=by
 refine Nat.le_of_not_lt fun hlt=>?_
 obtain ⟨i,j,hij,hj,e⟩:=pigeon B (fun i=>st.getD i 0) fun i hi=>h.bound i (by omega)
 exact h.nodup i j hij (by omega) e
theorem Drawn.old {B M:Nat} {dl:Nat→Nat→Nat} {st:List Nat} {e:Nat} {nx:List Nat} {j:Nat} (h:Drawn B M dl st e nx) (hM:0 < M) (he:e / M < st.length) (hj:j < st.length) (hs:st.getD j 0=dl (st.getD (e / M) 0) (e % M)):Drawn B M dl st (e+1) (nx++[j]):=by
 have hl:=h.len
 refine ⟨by simp [hl],h.nodup,h.bound,fun k hk=>?_,fun i h0 hi=>?_,h.first,?_⟩
 ·by_cases hke:k=e
  ·subst hke
   rw [←hl,getD_snoc_new,hl];exact ⟨hj,hs⟩
  ·rw [getD_snoc_old (by omega)];exact h.edge k (by omega)
 ·obtain ⟨k,h1,h2,h3,h4⟩:=h.met i h0 hi
  refine ⟨k,by omega,by rw [getD_snoc_old (by omega)];exact h2,h3,fun k' hk'=>?_⟩
  rw [getD_snoc_old (by omega)];exact h4 k' hk'
 ·have:(e+1) / M≤e / M+1:=by
   rw [Nat.div_le_iff_le_mul_add_pred hM]
   have:=Nat.div_add_mod e M
   have:=Nat.mod_lt e hM
   rw [Nat.mul_add];omega
  omega
theorem Drawn.new {B M:Nat} {dl:Nat→Nat→Nat} {st:List Nat} {e:Nat} {nx:List Nat} {s:Nat} (h:Drawn B M dl st e nx) (hM:0 < M) (he:e / M < st.length) (hs:s=dl (st.getD (e / M) 0) (e % M)) (hb:s < B) (hf:∀ i,i < st.length→st.getD i 0≠s):Drawn B M dl (st++[s]) (e+1) (nx++[st.length]):=by
 have hl:=h.len
 have hl2:(st++[s]).length=st.length+1:=by simp
 refine ⟨by simp [hl],fun i j hij hj=>?_,fun i hi=>?_,fun k hk=>?_,fun i h0 hi=>?_,⟨by omega,by rw [getD_snoc_old h.first.1];exact h.first.2⟩,?_⟩
 ·rw [getD_snoc_old (show i < st.length by omega)]
  by_cases hj2:j=st.length
  ·rw [hj2,getD_snoc_new];exact hf i (by omega)
  ·rw [getD_snoc_old (show j < st.length by omega)];exact h.nodup i j hij (by omega)
 ·by_cases hj2:i=st.length
  ·rw [hj2,getD_snoc_new];exact hb
  ·rw [getD_snoc_old (show i < st.length by omega)];exact h.bound i (by omega)
 ·have hkM:k / M < st.length:=by
   have:k / M≤e / M:=Nat.div_le_div_right (by omega)
   omega
  by_cases hke:k=e
  ·subst hke
   have e1:(nx++[st.length]).getD k 0=st.length:=by rw [←hl];exact getD_snoc_new _ _
   rw [e1]
   exact ⟨by omega,by rw [getD_snoc_new,getD_snoc_old hkM];exact hs⟩
  ·have:=h.edge k (by omega)
   rw [getD_snoc_old (show k < nx.length by omega),getD_snoc_old this.1,getD_snoc_old hkM]
   exact ⟨by omega,this.2⟩
 ·by_cases hj2:i=st.length
  ·subst hj2
   refine ⟨e,by omega,by rw [←hl];exact getD_snoc_new _ _,he,fun k' hk'=>?_⟩
   rw [getD_snoc_old (by omega)];exact (h.edge k' hk').1
  ·obtain ⟨k,h1,h2,h3,h4⟩:=h.met i h0 (by omega)
   refine ⟨k,by omega,by rw [getD_snoc_old (by omega)];exact h2,h3,fun k' hk'=>?_⟩
   rw [getD_snoc_old (by omega)];exact h4 k' hk'
 ·have:(e+1) / M≤e / M+1:=by
   rw [Nat.div_le_iff_le_mul_add_pred hM]
   have:=Nat.div_add_mod e M
   have:=Nat.mod_lt e hM
   rw [Nat.mul_add];omega
  omega
theorem Sorted.below_head {N:Nat} {E:Nat→Nat→Prop} {hs:List Nat} {kd:Nat→Nat} (h:Sorted N E hs kd) {c b:Nat} (hc:c < hs.length) (hb:b < hs.getD c 0):kd b < c:=by
 have g:=h.head c hc
 have l:=h.lt b (by omega)
 have:=h.le b (by omega)
 refine Nat.lt_of_not_le fun hle=>?_
 rcases Nat.lt_or_eq_of_le hle with q | q
 ·have:=h.incr c _ q l;omega
 ·rw [←q] at this;omega
theorem edge_div {M i c:Nat} (hc:c < M):(i * M+c) / M=i∧(i * M+c) % M=c:=by
 have hM:0 < M:=by omega
 rw [Nat.mul_comm i M,Nat.mul_add_div hM,Nat.div_eq_of_lt hc,Nat.mul_add_mod,Nat.mod_eq_of_lt hc]
 exact ⟨by omega,rfl⟩
theorem edge_lt {M i c i' c':Nat} (hc:c < M) (hi:i < i'):i * M+c < i' * M+c':=by
 have:(i+1) * M≤i' * M:=Nat.mul_le_mul_right M hi
 rw [Nat.add_mul] at this;omega
theorem Drawn.dfa {p:Part} {B:Nat} {st nx hb:List Nat} {lt:Nat→Nat} {gr:Nat→Bool} {L:List Nat→Prop}
  (hs:Sorted 256 (fun b b'=>fitP p b=fitP p b') hb lt) (h:Drawn B hb.length (fun s c=>reachP p s &&& fitP p (hb.getD c 0)) st (st.length * hb.length) nx)
  (hg:∀ i,i < st.length→(gr i=true↔st.getD i 0 &&& p.last≠0)) (hL:∀ u,runN p 1 u &&& p.last≠0↔L u) :
  BfsDfa L st.length (fun i b=>nx.getD (i * hb.length+lt b) 0) gr:=by
 have hM:0 < hb.length:=(hs.zero (by omega)).1
 have hk:∀ {i b},i < st.length→b < 256→i * hb.length+lt b < st.length * hb.length:=fun {i b} hi hb'=>edge_lt (c':=0) (hs.lt b hb') hi
 have hstep:∀ {i b},i < st.length→b < 256→nx.getD (i * hb.length+lt b) 0 < st.length∧st.getD (nx.getD (i * hb.length+lt b) 0) 0=stepN p (st.getD i 0) b:=fun {i b} hi hb'=>by
  have:=h.edge _ (hk hi hb')
  rw [(edge_div (hs.lt b hb')).1,(edge_div (hs.lt b hb')).2] at this
  refine ⟨this.1,?_⟩
  have g:=hs.head _ (hs.lt b hb')
  have e:fitP p (hb.getD (lt b) 0)=fitP p b:=(hs.iff _ b g.1 hb').1 g.2
  rw [this.2,stepN_fit]
  show reachP p _ &&& fitP p _=_
  rw [e]
 have hrun:∀ (u:List Nat) (i:Nat),i < st.length→bytesOk u→dRun (fun i b=>nx.getD (i * hb.length+lt b) 0) i u < st.length∧st.getD (dRun (fun i b=>nx.getD (i * hb.length+lt b) 0) i u) 0=runN p (st.getD i 0) u:=by
  intro u
  induction u with
  | nil=>intro i hi _;exact ⟨hi,rfl⟩
  | cons b u ih =>
   intro i hi hu
   have hb':=bytesOk_tail hu
   have g:=hstep hi hb'.1
   have:=ih _ g.1 hb'.2
   rw [g.2] at this
   exact this
 refine ⟨h.first.1,fun i b hi hb'=>(hstep hi hb').1,fun u hu=>?_,fun k h0 hk1=>?_⟩
 ·have g:=hrun u 0 h.first.1 hu
  rw [h.first.2] at g
  rw [hg _ g.1,g.2];exact hL u
 ·obtain ⟨k0,h1,h2,h3,h4⟩:=h.met k h0 hk1
  have hc:k0 % hb.length < hb.length:=Nat.mod_lt _ hM
  have g:=hs.head _ hc
  have e0:k0 / hb.length * hb.length+k0 % hb.length=k0:=by rw [Nat.mul_comm];exact Nat.div_add_mod _ _
  refine ⟨k0 / hb.length,hb.getD (k0 % hb.length) 0,h3,g.1,?_,fun i' b' hb' hi'=>?_,fun b' hb'=>?_⟩
  ·show nx.getD (_ * _+lt _) 0=k
   rw [g.2,e0];exact h2
  ·refine h4 _ ?_
   rw [←e0]
   exact edge_lt (hs.lt b' hb') hi'
  ·refine h4 _ ?_
   have:=hs.below_head hc hb'
   omega
end Go.Proofs.YtobfpgoepaeknaaGreat
namespace Go.Proofs.YtobfpgoepaeknaaGreat
def EsL (gr:Nat→Bool) (nl:Nat→Nat→Nat) (M:Nat) (kd:Nat→Nat) (a b:Nat):Prop:=kd a=kd b∧gr a=gr b∧∀ l,l < M→kd (nl a l)=kd (nl b l)
theorem EsL_eq {E0:Nat→Nat→Prop} {hb:List Nat} {lt:Nat→Nat} (hs:Sorted 256 E0 hb lt) (gr:Nat→Bool) (nl:Nat→Nat→Nat) (kd:Nat→Nat):EsL gr nl hb.length kd=Espl (fun i b=>nl i (lt b)) gr kd:=by
 funext a b
 apply propext
 constructor
 ·rintro ⟨h1,h2,h3⟩
  exact ⟨h1,h2,fun c hc=>h3 _ (hs.lt c hc)⟩
 ·rintro ⟨h1,h2,h3⟩
  refine ⟨h1,h2,fun l hl=>?_⟩
  have g:=hs.head l hl
  have:=h3 _ g.1
  simp only [g.2] at this
  exact this
theorem EsL_eqv (gr:Nat→Bool) (nl:Nat→Nat→Nat) (M:Nat) (kd:Nat→Nat):Equivalence (EsL gr nl M kd) :=
 ⟨fun _=>⟨rfl,rfl,fun _ _=>rfl⟩,fun h=>⟨h.1.symm,h.2.1.symm,fun l hl=>(h.2.2 l hl).symm⟩,fun h k=>⟨h.1.trans k.1,h.2.1.trans k.2.1,fun l hl=>(h.2.2 l hl).trans (k.2.2 l hl)⟩⟩
def ElT (S:Nat) (nf:Nat→Nat→Nat) (a b:Nat):Prop:=∀ k,k < S→nf k a=nf k b
theorem ElT_eqv (S:Nat) (nf:Nat→Nat→Nat):Equivalence (ElT S nf):=⟨fun _ _ _=>rfl,fun h k hk=>(h k hk).symm,fun h g k hk=>(h k hk).trans (g k hk)⟩
theorem tab_of {L:List Nat→Prop} {S:Nat} {nf:Nat→Nat→Nat} {gr:Nat→Bool} {E0:Nat→Nat→Prop} {hb fs:List Nat} {lt cls:Nat→Nat} (hl:Sorted 256 E0 hb lt)
  (hm:MinDfa L S (fun k b=>nf k (lt b)) gr) (hc:Sorted hb.length (ElT S nf) fs cls) (h1:S≤24) (h2:fs.length≤24) :
  TabOf L S fs.length (fun k b=>nf k (lt b)) gr (fun b=>cls (lt b)) (fun k c=>nf k (fs.getD c 0)):=by
 refine ⟨hm,⟨fun b hb'=>hc.lt _ (hl.lt b hb'),fun b b' g1 g2=>?_,fun b hb' c hcc=>?_,fun c hcc=>?_⟩,h1,h2,fun i b hi hb'=>?_⟩
 ·exact hc.iff _ _ (hl.lt b g1) (hl.lt b' g2)
 ·obtain ⟨l,l1,l2⟩:=hc.grow (hl.lt b hb') hcc
  obtain ⟨b',g1,g2⟩:=hl.grow hb' l1
  exact ⟨b',g1,by show cls (lt b')=c;rw [g2,l2]⟩
 ·have g:=hc.head c hcc
  have k:=hl.head _ g.1
  exact ⟨_,k.1,by show cls (lt _)=c;rw [k.2,g.2]⟩
 ·have g:=hc.head _ (hc.lt _ (hl.lt b hb'))
  exact (hc.iff _ _ g.1 (hl.lt b hb')).1 g.2 i hi
theorem many_of {L:List Nat→Prop} {S n:Nat} {nf:Nat→Nat→Nat} {gr:Nat→Bool} {E0:Nat→Nat→Prop} {hb fs:List Nat} {lt cls:Nat→Nat} (hl:Sorted 256 E0 hb lt)
  (hm:MinDfa L S (fun k b=>nf k (lt b)) gr) (hn:n≤hb.length) (hc:Sorted n (ElT S nf) fs cls) (h2:24 < fs.length):ManyClasses L:=by
 refine hm.many (fun i=>hb.getD (fs.getD i 0) 0) (fun i hi=>?_) (fun i j hij hj=>?_)
 ·exact (hl.head _ (Nat.lt_of_lt_of_le (hc.head i (by omega)).1 hn)).1
 ·have g:=hc.apart hij (show j < fs.length by omega)
  refine Classical.byContradiction fun hno=>g fun k hk=>?_
  refine Classical.byContradiction fun hne=>hno ⟨k,hk,?_⟩
  show nf k (lt _)≠nf k (lt _)
  rw [(hl.head _ (Nat.lt_of_lt_of_le (hc.head i (by omega)).1 hn)).2,(hl.head _ (Nat.lt_of_lt_of_le (hc.head j (by omega)).1 hn)).2]
  exact hne
end Go.Proofs.YtobfpgoepaeknaaGreat
namespace Go.Proofs.YtobfpgoepaeknaaGreat
def EqB (A B:Lang):Prop:=∀ w,bytesOk w→(A w↔B w)
theorem EqB.refl (A:Lang):EqB A A:=fun _ _=>Iff.rfl
theorem EqB.symm {A B:Lang} (h:EqB A B):EqB B A:=fun w hw=>(h w hw).symm
theorem EqB.trans {A B C:Lang} (h:EqB A B) (k:EqB B C):EqB A C:=fun w hw=>(h w hw).trans (k w hw)
theorem EqB.der {A B:Lang} (h:EqB A B) {c:Nat} (hc:c < 256):EqB (derL c A) (derL c B):=fun w hw=>h (c ::w) (bytesOk_cons hc hw)
def derS (u:List Nat) (A:Lang):Lang:=fun w=>A (u++w)
theorem derS_snoc (u:List Nat) (c:Nat) (A:Lang):derS (u++[c]) A=derL c (derS u A):=Lang.ext fun w=>by
 show A (u++[c]++w)↔A (u++(c ::w))
 rw [List.append_assoc];exact Iff.rfl
structure FoundI (M:Nat) (hb:List Nat) (L:Lang) (st:List Lang) (e:Nat) (nx:List Nat):Prop where
 len:nx.length=e
 nodup:∀ (i j:Nat) (A B:Lang),i < j→st[i]?=some A→st[j]?=some B→¬EqB A B
 edge:∀ (k:Nat) (A:Lang),k < e→st[k / M]?=some A→∃ B,st[nx.getD k 0]?=some B∧EqB B (derL (hb.getD (k % M) 0) A)
 met:∀ j:Nat,0 < j→j < st.length→∃ k,k < e∧nx.getD k 0=j∧k / M < j∧∀ k',k' < k→nx.getD k' 0 < j
 first:∃ A,st[0]?=some A∧EqB A L
 rows:e / M≤st.length
 reach:∀ (i:Nat) (A:Lang),st[i]?=some A→∃ u,bytesOk u∧EqB A (derS u L)
theorem get_snoc_old {α:Type} {l:List α} {x a:α} {k:Nat} (h:l[k]?=some a):(l++[x])[k]?=some a:=by
 rw [List.getElem?_append_left (List.getElem?_eq_some_iff.1 h).1];exact h
theorem get_snoc {α:Type} {l:List α} {x a:α} {k:Nat} (h:(l++[x])[k]?=some a):l[k]?=some a∨(k=l.length∧a=x):=by
 by_cases g:k < l.length
 ·rw [List.getElem?_append_left g] at h;exact .inl h
 ·have:=(List.getElem?_eq_some_iff.1 h).1
  simp at this
  obtain rfl:k=l.length:=by omega
  simp at h
  exact .inr ⟨rfl,h.symm⟩
theorem get_lt {α:Type} {l:List α} {a:α} {k:Nat} (h:l[k]?=some a):k < l.length:=(List.getElem?_eq_some_iff.1 h).1
section found
variable {M : Nat} {hb : List Nat} {L : Lang} {st : List Lang} {e : Nat} {nx : List Nat}
theorem FoundI.start (A:Lang) (h:EqB A L):FoundI M hb L [A] 0 []:=by
 refine ⟨rfl,fun i j A' B hij _ hj=>?_,fun k A' hk=>absurd hk (Nat.not_lt_zero _),fun j h0 hj=>?_,⟨A,rfl,h⟩,by simp,fun i A' hi=>?_⟩
 ·have:=get_lt hj;simp at this;omega
 ·simp at hj;omega
 ·have:=get_lt hi
  simp at this
  subst this
  simp at hi
  subst hi
  exact ⟨[],bytesOk_nil,h⟩
theorem div_succ_le {M e:Nat} (hM:0 < M):(e+1) / M≤e / M+1:=by
 rw [Nat.div_le_iff_le_mul_add_pred hM]
 have:=Nat.div_add_mod e M
 have:=Nat.mod_lt e hM
 rw [Nat.mul_add];omega
theorem FoundI.to_lt (h:FoundI M hb L st e nx) {k:Nat} (hk:k < e) (hs:k / M < st.length):nx.getD k 0 < st.length:=by
 obtain ⟨B,h1,_⟩:=h.edge k _ hk (List.getElem?_eq_getElem hs)
 exact get_lt h1
theorem FoundI.old {j:Nat} {A B:Lang} (h:FoundI M hb L st e nx) (hM:0 < M) (he:st[e / M]?=some A) (hj:st[j]?=some B) (hs:EqB B (derL (hb.getD (e % M) 0) A)):FoundI M hb L st (e+1) (nx++[j]):=by
 have hl:=h.len
 refine ⟨by simp [hl],h.nodup,fun k A' hk hA=>?_,fun i h0 hi=>?_,h.first,?_,h.reach⟩
 ·by_cases hke:k=e
  ·subst hke
   rw [←hl,getD_snoc_new,hl]
   rw [he] at hA
   cases hA
   exact ⟨B,hj,hs⟩
  ·rw [getD_snoc_old (by omega)];exact h.edge k A' (by omega) hA
 ·obtain ⟨k,h1,h2,h3,h4⟩:=h.met i h0 hi
  refine ⟨k,by omega,by rw [getD_snoc_old (by omega)];exact h2,h3,fun k' hk'=>?_⟩
  rw [getD_snoc_old (by omega)];exact h4 k' hk'
 ·have:=div_succ_le (e:=e) hM
  have:=get_lt he
  omega
theorem FoundI.new {A B:Lang} (h:FoundI M hb L st e nx) (hM:0 < M) (he:st[e / M]?=some A) (hs:EqB B (derL (hb.getD (e % M) 0) A)) (hbt:hb.getD (e % M) 0 < 256) (hf:∀ (i:Nat) (C:Lang),st[i]?=some C→¬EqB C B):FoundI M hb L (st++[B]) (e+1) (nx++[st.length]):=by
 have hl:=h.len
 have hel:=get_lt he
 refine ⟨by simp [hl],fun i j A' B' hij hi hj=>?_,fun k A' hk hA=>?_,fun i h0 hi=>?_,?_,?_,fun i A' hi=>?_⟩
 ·rcases get_snoc hj with hj | ⟨rfl,rfl⟩
  ·rcases get_snoc hi with hi | ⟨rfl,_⟩
   ·exact h.nodup i j A' B' hij hi hj
   ·have:=get_lt hj;omega
  ·rcases get_snoc hi with hi | ⟨rfl,_⟩
   ·exact hf i A' hi
   ·omega
 ·have hkM:k / M < st.length:=by
   have:k / M≤e / M:=Nat.div_le_div_right (by omega)
   omega
  have hA':st[k / M]?=some A':=by
   rcases get_snoc hA with g | ⟨g,_⟩
   ·exact g
   ·omega
  by_cases hke:k=e
  ·subst hke
   have e1:(nx++[st.length]).getD k 0=st.length:=by rw [←hl];exact getD_snoc_new _ _
   rw [e1]
   rw [he] at hA'
   cases hA'
   exact ⟨B,by simp,hs⟩
  ·obtain ⟨B',g1,g2⟩:=h.edge k A' (by omega) hA'
   rw [getD_snoc_old (show k < nx.length by omega)]
   exact ⟨B',get_snoc_old g1,g2⟩
 ·have hi2:i < st.length+1:=by simpa using hi
  by_cases hj2:i=st.length
  ·subst hj2
   refine ⟨e,by omega,by rw [←hl];exact getD_snoc_new _ _,hel,fun k' hk'=>?_⟩
   rw [getD_snoc_old (by omega)]
   exact h.to_lt hk' (Nat.lt_of_le_of_lt (Nat.div_le_div_right (by omega)) hel)
  ·obtain ⟨k,h1,h2,h3,h4⟩:=h.met i h0 (by omega)
   refine ⟨k,by omega,by rw [getD_snoc_old (by omega)];exact h2,h3,fun k' hk'=>?_⟩
   rw [getD_snoc_old (by omega)];exact h4 k' hk'
 ·obtain ⟨A0,g1,g2⟩:=h.first
  exact ⟨A0,get_snoc_old g1,g2⟩
 ·have:=div_succ_le (e:=e) hM
  simp
  omega
 ·rcases get_snoc hi with g | ⟨_,rfl⟩
  ·exact h.reach i A' g
  ·obtain ⟨u,u1,u2⟩:=h.reach _ A he
   exact ⟨u++[hb.getD (e % M) 0],bytesOk_snoc u1 hbt,by rw [derS_snoc];exact hs.trans (u2.der hbt)⟩
theorem FoundI.many (h:FoundI M hb L st e nx) (hl:24 < st.length):ManyStates L:=by
 have hc:∀ k,k < st.length→∃ u,bytesOk u∧∀ A,st[k]?=some A→EqB A (derS u L):=fun k hk=>by
  obtain ⟨u,u1,u2⟩:=h.reach k _ (List.getElem?_eq_getElem hk)
  exact ⟨u,u1,fun A hA=>by rw [List.getElem?_eq_getElem hk] at hA;cases hA;exact u2⟩
 refine ⟨fun k=>if hk:k < st.length then Classical.choose (hc k hk) else [],fun i hi=>?_,fun i j hij hj ha=>?_⟩
 ·simp only [dif_pos (show i < st.length by omega)]
  exact (Classical.choose_spec (hc i (by omega))).1
 ·simp only [dif_pos (show i < st.length by omega),dif_pos (show j < st.length by omega)] at ha
  have si:=(Classical.choose_spec (hc i (by omega))).2 _ (List.getElem?_eq_getElem (by omega))
  have sj:=(Classical.choose_spec (hc j (by omega))).2 _ (List.getElem?_eq_getElem (by omega))
  exact h.nodup i j _ _ hij (List.getElem?_eq_getElem (by omega)) (List.getElem?_eq_getElem (by omega)) fun w hw=>(si w hw).trans ((ha w hw).trans (sj w hw).symm)
theorem FoundI.dfa {E:Nat→Nat→Prop} {kd:Nat→Nat} {gr:Nat→Bool} (hs:Sorted 256 E hb kd) (h:FoundI hb.length hb L st (st.length * hb.length) nx)
  (hk:∀ (i:Nat) (A:Lang) (b:Nat),st[i]?=some A→b < 256→EqB (derL b A) (derL (hb.getD (kd b) 0) A)) (hg:∀ (i:Nat) (A:Lang),st[i]?=some A→(gr i=true↔A [])):MinDfa L st.length (fun i b=>nx.getD (i * hb.length+kd b) 0) gr:=by
 have hM:0 < hb.length:=(hs.zero (by omega)).1
 have hkk:∀ {i b:Nat},i < st.length→b < 256→i * hb.length+kd b < st.length * hb.length:=fun {i b} hi hb'=>edge_lt (c':=0) (hs.lt b hb') hi
 have hstep:∀ {i b:Nat} {A:Lang},st[i]?=some A→b < 256→∃ B,st[nx.getD (i * hb.length+kd b) 0]?=some B∧EqB B (derL b A):=fun {i b A} hi hb'=>by
  have he:=edge_div (M:=hb.length) (i:=i) (hs.lt b hb')
  obtain ⟨B,g1,g2⟩:=h.edge _ A (hkk (get_lt hi) hb') (by rw [he.1];exact hi)
  rw [he.2] at g2
  exact ⟨B,g1,g2.trans (hk i A b hi hb').symm⟩
 have hrun:∀ (u:List Nat) (i:Nat) (A:Lang),st[i]?=some A→bytesOk u→∃ B,st[dRun (fun i b=>nx.getD (i * hb.length+kd b) 0) i u]?=some B∧EqB B (derS u A):=by
  intro u
  induction u with
  | nil=>intro i A hi _;exact ⟨A,hi,EqB.refl _⟩
  | cons b u ih =>
   intro i A hi hu
   have hb':=bytesOk_tail hu
   obtain ⟨B,g1,g2⟩:=hstep hi hb'.1
   obtain ⟨C,g3,g4⟩:=ih _ B g1 hb'.2
   exact ⟨C,g3,fun w hw=>(g4 w hw).trans (g2 (u++w) (bytesOk_append hb'.2 hw))⟩
 obtain ⟨A0,f1,f2⟩:=h.first
 refine ⟨get_lt f1,fun i b hi hb'=>?_,fun u hu=>?_,fun i j hi hj hsame=>?_,fun k h0 hk1=>?_⟩
 ·obtain ⟨B,g1,_⟩:=hstep (List.getElem?_eq_getElem hi) hb'
  exact get_lt g1
 ·obtain ⟨B,g1,g2⟩:=hrun u 0 A0 f1 hu
  rw [hg _ B g1,g2 [] bytesOk_nil]
  show A0 (u++[])↔L u
  rw [List.append_nil]
  exact f2 u hu
 ·have key:∀ a b:Nat,a < b→∀ A B:Lang,st[a]?=some A→st[b]?=some B→(∀ u,bytesOk u→gr (dRun (fun i b=>nx.getD (i * hb.length+kd b) 0) a u)=gr (dRun (fun i b=>nx.getD (i * hb.length+kd b) 0) b u))→False:=fun a b hab A B hA hB hsm=>by
   refine h.nodup a b A B hab hA hB fun w hw=>?_
   obtain ⟨C,c1,c2⟩:=hrun w a A hA hw
   obtain ⟨D,d1,d2⟩:=hrun w b B hB hw
   have e1:=hg _ C c1
   have e2:=hg _ D d1
   have q1:=c2 [] bytesOk_nil
   have q2:=d2 [] bytesOk_nil
   simp only [derS,List.append_nil] at q1 q2
   rw [←q1,←q2,←e1,←e2,hsm w hw]
  rcases Nat.lt_trichotomy i j with g | g | g
  ·exact (key i j g _ _ (List.getElem?_eq_getElem hi) (List.getElem?_eq_getElem hj) hsame).elim
  ·exact g
  ·exact (key j i g _ _ (List.getElem?_eq_getElem hj) (List.getElem?_eq_getElem hi) (fun u hu=>(hsame u hu).symm)).elim
 ·obtain ⟨k0,h1,h2,h3,h4⟩:=h.met k h0 hk1
  have hc:k0 % hb.length < hb.length:=Nat.mod_lt _ hM
  have g:=hs.head _ hc
  have e0:k0 / hb.length * hb.length+k0 % hb.length=k0:=by rw [Nat.mul_comm];exact Nat.div_add_mod _ _
  refine ⟨k0 / hb.length,hb.getD (k0 % hb.length) 0,h3,g.1,?_,fun i' b' hb' hi'=>?_,fun b' hb'=>?_⟩
  ·show nx.getD (_ * _+kd _) 0=k
   rw [g.2,e0];exact h2
  ·refine h4 _ ?_
   rw [←e0]
   exact Nat.lt_of_lt_of_le (edge_lt (c':=0) (hs.lt b' hb') hi') (by omega)
  ·refine h4 _ ?_
   have:=hs.below_head hc hb'
   omega
end found
def alkB (rs:List Rn) (b c:Nat):Prop:=∀ r∈rs,r.kind=2→r.f b=r.f c
theorem alk_eqv (rs:List Rn):Equivalence (alkB rs):=⟨fun _ _ _ _=>rfl,fun h r hr hk=>(h r hr hk).symm,fun h k r hr hk=>(h r hr hk).trans (k r hr hk)⟩
def Alk2 (rs:List Rn):List Nat→List Nat→Prop
 | [],[]=>True
 | b ::u,c ::v=>alkB rs b c∧Alk2 rs u v
 | _,_=>False
theorem Alk2.refl (rs:List Rn):∀ u,Alk2 rs u u
 | []=>trivial
 | _ ::u=>⟨(alk_eqv rs).refl _,Alk2.refl rs u⟩
theorem Alk2.symm {rs:List Rn}:∀ {u v:List Nat},Alk2 rs u v→Alk2 rs v u
 | [],[],_=>trivial
 | _ ::_,_ ::_,h=>⟨(alk_eqv rs).symm h.1,Alk2.symm h.2⟩
 | [],_ ::_,h=>h.elim
 | _ ::_,[],h=>h.elim
theorem Alk2.split {rs:List Rn}:∀ {u1 u2 v:List Nat},Alk2 rs (u1++u2) v→∃ v1 v2,v=v1++v2∧Alk2 rs u1 v1∧Alk2 rs u2 v2
 | [],_,v,h=>⟨[],v,rfl,trivial,h⟩
 | _ ::_,_,[],h=>h.elim
 | _ ::u1,u2,c ::v,h=>by
  obtain ⟨v1,v2,rfl,g1,g2⟩:=Alk2.split (u1:=u1) (u2:=u2) h.2
  exact ⟨c ::v1,v2,rfl,⟨h.1,g1⟩,g2⟩
def SameA (rs:List Rn) (A:Lang):Prop:=∀ u v,Alk2 rs u v→A u→A v
theorem SameA.cat {rs:List Rn} {A B:Lang} (ha:SameA rs A) (hb:SameA rs B):SameA rs (catL A B):=by
 rintro u v h ⟨u1,u2,rfl,h1,h2⟩
 obtain ⟨v1,v2,rfl,g1,g2⟩:=h.split
 exact ⟨v1,v2,rfl,ha _ _ g1 h1,hb _ _ g2 h2⟩
theorem SameA.eps (rs:List Rn):SameA rs epsL:=by
 intro u v h e
 have e':u=[]:=e
 subst e'
 cases v with
 | nil=>rfl
 | cons _ _=>exact h.elim
theorem SameA.pw {rs:List Rn} {A:Lang} (ha:SameA rs A):∀ k,SameA rs (pwL A k)
 | 0=>SameA.eps rs
 | k+1=>ha.cat (SameA.pw ha k)
theorem Dr.sameA {rs:List Rn} {R:Re}:∀ {k:Int},Dr rs R k→SameA rs R.L:=by
 induction R using Re.ind with
 | blank=>intro _ _;exact SameA.eps rs
 | set f =>
  rintro _ ⟨r,_,h1,h2,h3⟩ u v h ⟨b,rfl,hb⟩
  match v,h with
  | [c],h=>exact ⟨c,rfl,by rw [←h3,←h.1 r (List.mem_of_getElem? h1) h2,h3];exact hb⟩
  | [],h=>exact h.elim
  | _ ::_ ::_,h=>exact h.2.elim
 | seq a b iha ihb=>rintro _ ⟨_,_,_,_,h1,h2⟩;exact (iha h1).cat (ihb h2)
 | alt a b iha ihb=>rintro _ ⟨_,_,_,_,h1,h2⟩ u v h hu;exact hu.elim (fun x=>.inl (iha h1 u v h x)) (fun x=>.inr (ihb h2 u v h x))
 | star a iha=>rintro _ ⟨_,_,_,_,h1⟩ u v h ⟨k,hk⟩;exact ⟨k,(iha h1).pw k u v h hk⟩
 | plus a iha=>rintro _ ⟨_,_,_,_,h1⟩ u v h ⟨k,k1,hk⟩;exact ⟨k,k1,(iha h1).pw k u v h hk⟩
 | opt a iha=>rintro _ ⟨_,_,_,_,h1⟩ u v h hu;exact hu.elim (fun x=>.inl (SameA.eps rs u v h x)) (fun x=>.inr (iha h1 u v h x))
 | times m n a iha=>rintro _ ⟨_,_,_,_,_,_,_,_,h1⟩ u v h ⟨k,k1,k2,hk⟩;exact ⟨k,k1,k2,(iha h1).pw k u v h hk⟩
theorem alk_app {rs:List Rn}:∀ (u:List Nat) {v w:List Nat},Alk2 rs v w→Alk2 rs (u++v) (u++w)
 | [],_,_,h=>h
 | _ ::u,_,_,h=>⟨(alk_eqv rs).refl _,alk_app u h⟩
theorem SameA.der {rs:List Rn} {L A:Lang} (h:SameA rs L) {u:List Nat} (hA:EqB A (derS u L)) {b c:Nat} (hb:b < 256) (hc:c < 256) (he:alkB rs b c):EqB (derL b A) (derL c A):=fun w hw=>by
 have h1:=hA (b ::w) (bytesOk_cons hb hw)
 have h2:=hA (c ::w) (bytesOk_cons hc hw)
 show A (b ::w)↔A (c ::w)
 rw [h1,h2]
 exact ⟨h _ _ (alk_app u ⟨he,Alk2.refl rs w⟩),h _ _ (alk_app u ⟨(alk_eqv rs).symm he,Alk2.refl rs w⟩)⟩
end Go.Proofs.YtobfpgoepaeknaaGreat
