/-
  Plain mathematics: sets of strings as sorted lists; how many there can be.
  Plain mathematics: states found one after the other, by what is left behind their first strings; alike bytes.
  Plain mathematics: how many nodes a tree can come to have.
  Plain mathematics: how long terms can be; sets of terms that are right; what they stand for.
-/
import Derived.Test.YtobfpgoepaeknaaGreatPO17
import Derived.Test.YtobfpgoepaeknaaGreatPO10
import Derived.Test.YtobfpgoepaeknaaGreatPO13
namespace Go.Proofs.YtobfpgoepaeknaaGreat
def lessS (a b:ByteArray):Bool:=Op.bytesLess a.toList b.toList
theorem bl_irrefl:∀ l:List UInt8,Op.bytesLess l l=false
 | []=>rfl
 | a ::l=>by simp [Op.bytesLess,bl_irrefl l]
theorem bl_trans:∀ {a b c:List UInt8},Op.bytesLess a b=true→Op.bytesLess b c=true→Op.bytesLess a c=true
 | _,[],_,h,_=>by simp [Op.bytesLess] at h
 | _,_ ::_,[],_,h=>by simp [Op.bytesLess] at h
 | [],_ ::_,_ ::_,_,_=>rfl
 | x ::a,y ::b,z ::c,h1,h2=>by
  simp only [Op.bytesLess,Bool.or_eq_true,Bool.and_eq_true,decide_eq_true_eq,beq_iff_eq] at h1 h2 ⊢
  rcases h1 with h1 | ⟨rfl,h1⟩
  ·rcases h2 with h2 | ⟨rfl,h2⟩
   ·exact .inl (UInt8.lt_trans h1 h2)
   ·exact .inl h1
  ·rcases h2 with h2 | ⟨rfl,h2⟩
   ·exact .inl h2
   ·exact .inr ⟨rfl,bl_trans h1 h2⟩
theorem bl_total:∀ {a b:List UInt8},a≠b→Op.bytesLess a b=false→Op.bytesLess b a=true
 | [],[],h,_=>absurd rfl h
 | [],_ ::_,_,h=>by simp [Op.bytesLess] at h
 | _ ::_,[],_,_=>rfl
 | x ::a,y ::b,hne,h=>by
  simp only [Op.bytesLess,Bool.or_eq_false_iff,Bool.and_eq_false_iff,decide_eq_false_iff_not,Bool.or_eq_true,Bool.and_eq_true,decide_eq_true_eq,beq_iff_eq,beq_eq_false_iff_ne] at h ⊢
  by_cases e:x=y
  ·subst e
   right
   refine ⟨rfl,bl_total (fun e=>hne (by rw [e])) ?_⟩
   rcases h.2 with g | g
   ·exact absurd rfl g
   ·exact g
  ·left
   rcases Nat.lt_trichotomy x.toNat y.toNat with g | g | g
   ·exact absurd (UInt8.lt_iff_toNat_lt.2 g) h.1
   ·exact absurd (UInt8.toNat_inj.1 g) e
   ·exact UInt8.lt_iff_toNat_lt.2 g
theorem ba_ext {a b:ByteArray} (h:a.toList=b.toList):a=b:=by
 rw [ByteArray.toList_eq,ByteArray.toList_eq] at h
 cases a with | mk a=>cases b with | mk b=>simpa using h
theorem lessS_irrefl (a:ByteArray):lessS a a=false:=bl_irrefl _
theorem lessS_trans {a b c:ByteArray} (h:lessS a b=true) (k:lessS b c=true):lessS a c=true:=bl_trans h k
theorem lessS_total {a b:ByteArray} (hne:a≠b) (h:lessS a b=false):lessS b a=true:=bl_total (fun e=>hne (ba_ext e)) h
def SrtS (X:List ByteArray):Prop:=X.Pairwise (fun a b=>lessS a b=true)
theorem SrtS.ext:∀ {X Y:List ByteArray},SrtS X→SrtS Y→(∀ s,s∈X↔s∈Y)→X=Y
 | [],[],_,_,_=>rfl
 | [],b ::Y,_,_,h=>absurd ((h b).2 (by simp)) (by simp)
 | a ::X,[],_,_,h=>absurd ((h a).1 (by simp)) (by simp)
 | a ::X,b ::Y,hX,hY,h=>by
  obtain ⟨x1,x2⟩:=List.pairwise_cons.1 hX
  obtain ⟨y1,y2⟩:=List.pairwise_cons.1 hY
  have hab:a=b:=by
   refine Classical.byContradiction fun hne=>?_
   have h1:a∈Y:=((List.mem_cons.1 ((h a).1 (by simp))).resolve_left hne)
   have h2:b∈X:=((List.mem_cons.1 ((h b).2 (by simp))).resolve_left fun e=>hne e.symm)
   have g:=lessS_trans (x1 b h2) (y1 a h1)
   rw [lessS_irrefl] at g;cases g
  subst hab
  have hn:∀ {Z:List ByteArray},(∀ s∈Z,lessS a s=true)→a∉Z:=fun {Z} hz ha=>by
   have:=hz a ha
   rw [lessS_irrefl] at this;cases this
  rw [SrtS.ext x2 y2 fun s=>?_]
  constructor
  ·intro hs
   rcases List.mem_cons.1 ((h s).1 (by simp [hs])) with rfl | g
   ·exact absurd hs (hn x1)
   ·exact g
  ·intro hs
   rcases List.mem_cons.1 ((h s).2 (by simp [hs])) with rfl | g
   ·exact absurd hs (hn y1)
   ·exact g
def lowS (s:ByteArray):List ByteArray→List ByteArray
 | []=>[]
 | a ::l=>if lessS a s=true then a ::lowS s l else []
def highS (s:ByteArray):List ByteArray→List ByteArray
 | []=>[]
 | a ::l=>if lessS a s=true then highS s l else a ::l
theorem low_high (s:ByteArray):∀ l,lowS s l++highS s l=l
 | []=>rfl
 | a ::l=>by
  rw [lowS,highS]
  split
  ·rw [List.cons_append,low_high s l]
  ·rfl
def insS (l:List ByteArray) (s:ByteArray):List ByteArray:=lowS s l++[s]++(highS s l).filter (fun x=>decide (x≠s))
theorem low_lt (s:ByteArray):∀ l,∀ a∈lowS s l,lessS a s=true
 | [],a,h=>by cases h
 | b ::l,a,h=>by
  rw [lowS] at h
  split at h
  ·next hb =>
   rcases List.mem_cons.1 h with rfl | h
   ·exact hb
   ·exact low_lt s l a h
  ·cases h
theorem high_ge (s:ByteArray):∀ {l},SrtS l→∀ a∈highS s l,a≠s→lessS s a=true
 | [],_,a,h,_=>by cases h
 | b ::l,hs,a,h,hne=>by
  obtain ⟨x1,x2⟩:=List.pairwise_cons.1 hs
  rw [highS] at h
  split at h
  ·exact high_ge s x2 a h hne
  ·next hb =>
   have hbf:lessS b s=false:=by simpa using hb
   rcases List.mem_cons.1 h with rfl | h
   ·exact lessS_total hne hbf
   ·by_cases e:b=s
    ·subst e;exact x1 a h
    ·exact lessS_trans (lessS_total e hbf) (x1 a h)
theorem insS_mem (l:List ByteArray) (s x:ByteArray):x∈insS l s↔x=s∨x∈l:=by
 have h:=low_high s l
 unfold insS
 conv=>rhs;rw [←h]
 simp only [List.mem_append,List.mem_singleton,List.mem_filter,decide_eq_true_eq]
 constructor
 ·rintro ((g | g) | ⟨g,_⟩)
  ·exact .inr (.inl g)
  ·exact .inl g
  ·exact .inr (.inr g)
 ·rintro (g | g | g)
  ·exact .inl (.inr g)
  ·exact .inl (.inl g)
  ·by_cases e:x=s
   ·exact .inl (.inr e)
   ·exact .inr ⟨g,e⟩
theorem insS_srt {l:List ByteArray} (h:SrtS l) (s:ByteArray):SrtS (insS l s):=by
 have hl:=low_high s l
 have h1:SrtS (lowS s l++highS s l):=by rw [hl];exact h
 obtain ⟨a1,a2,a3⟩:=List.pairwise_append.1 h1
 unfold SrtS insS
 rw [List.append_assoc]
 refine List.pairwise_append.2 ⟨a1,List.pairwise_append.2 ⟨List.pairwise_singleton _ _,a2.filter _,fun x hx y hy=>?_⟩,fun x hx y hy=>?_⟩
 ·simp only [List.mem_singleton] at hx
  subst hx
  simp only [List.mem_filter,decide_eq_true_eq] at hy
  exact high_ge x h y hy.1 hy.2
 ·rcases List.mem_append.1 hy with hy | hy
  ·simp only [List.mem_singleton] at hy
   subst hy
   exact low_lt y l x hx
  ·exact a3 x hx y (List.mem_filter.1 hy).1
def nmS (rs0 rs:List Rn) (s:ByteArray):List Nm:=(bytesN s).map (nmOf rs0 rs)
def InT (rs0 rs:List Rn) (U:List (List Nm)) (s:ByteArray):Prop:=(∀ k∈bytesN s,k < rs.length)∧nmS rs0 rs s∈U
def InU (rs0 rs:List Rn) (U:List (List Nm)) (X:List ByteArray):Prop:=∀ s∈X,InT rs0 rs U s
theorem zbytes_inj {a b:ByteArray} (h:bytesN a=bytesN b):a=b:=by
 unfold bytesN at h
 have h2:a.data.toList=b.data.toList:=by
  have:∀ {l m:List UInt8},l.map (fun b=>b.toNat)=m.map (fun b=>b.toNat)→l=m:=by
   intro l
   induction l with
   | nil=>intro m h;cases m<;>simp at h ⊢
   | cons x l ih =>
    intro m h
    cases m with
    | nil=>simp at h
    | cons y m =>
     simp only [List.map_cons,List.cons.injEq] at h
     rw [UInt8.toNat_inj.1 h.1,ih h.2]
  exact this h
 cases a with | mk a=>cases b with | mk b=>simpa using h2
theorem map_inj_on {f:Nat→Nm} {P:Nat→Prop} (hf:∀ i j,P i→P j→f i=f j→i=j):∀ {l m:List Nat},(∀ k∈l,P k)→(∀ k∈m,P k)→l.map f=m.map f→l=m
 | [],[],_,_,_=>rfl
 | [],_ ::_,_,_,h=>by simp at h
 | _ ::_,[],_,_,h=>by simp at h
 | a ::l,b ::m,hl,hm,h=>by
  simp only [List.map_cons,List.cons.injEq] at h
  rw [hf a b (hl a (by simp)) (hm b (by simp)) h.1,map_inj_on hf (fun k hk=>hl k (by simp [hk])) (fun k hk=>hm k (by simp [hk])) h.2]
theorem nmS_inj {rs0 rs:List Rn} (h:GrownT rs0 rs) {U:List (List Nm)} {a b:ByteArray} (ha:InT rs0 rs U a) (hb:InT rs0 rs U b) (e:nmS rs0 rs a=nmS rs0 rs b):a=b :=
 zbytes_inj (map_inj_on (P:=fun k=>k < rs.length) (fun _ _ hi hj e=>h.nm_inj hi hj e) ha.1 hb.1 e)
def maskU (f:List Nm→Bool):List (List Nm)→Nat
 | []=>0
 | u ::U=>(if f u=true then 1 else 0)+2 * maskU f U
theorem maskU_lt (f:List Nm→Bool):∀ U,maskU f U < 2 ^ U.length
 | []=>by simp [maskU]
 | u ::U=>by
  have:=maskU_lt f U
  rw [maskU,List.length_cons,Nat.pow_succ]
  split<;>omega
theorem maskU_eq {f g:List Nm→Bool}:∀ {U},maskU f U=maskU g U→∀ u∈U,(f u=true↔g u=true)
 | u0 ::U,h,u,hu=>by
  rw [maskU,maskU] at h
  have key:(f u0=true↔g u0=true)∧maskU f U=maskU g U:=by
   split at h<;>split at h
   ·next h1 h2=>exact ⟨⟨fun _=>h2,fun _=>h1⟩,by omega⟩
   ·omega
   ·omega
   ·next h1 h2=>exact ⟨⟨fun h=>absurd h h1,fun h=>absurd h h2⟩,by omega⟩
  rcases List.mem_cons.1 hu with rfl | hu
  ·exact key.1
  ·exact maskU_eq key.2 u hu
def memU (rs0 rs:List Rn) (X:List ByteArray) (u:List Nm):Bool:=X.any (fun s=>decide (nmS rs0 rs s=u))
theorem memU_iff (rs0 rs:List Rn) (X:List ByteArray) (u:List Nm):memU rs0 rs X u=true↔∃ s∈X,nmS rs0 rs s=u:=by
 unfold memU
 rw [List.any_eq_true]
 simp only [decide_eq_true_eq]
theorem mask_inj {rs0 rs:List Rn} (h:GrownT rs0 rs) {U:List (List Nm)} {X Y:List ByteArray} (hX:InU rs0 rs U X) (hY:InU rs0 rs U Y) (sX:SrtS X) (sY:SrtS Y) (e:maskU (memU rs0 rs X) U=maskU (memU rs0 rs Y) U):X=Y:=by
 have key:∀ u∈U,((∃ s∈X,nmS rs0 rs s=u)↔∃ s∈Y,nmS rs0 rs s=u):=fun u hu=>by
  have:=maskU_eq e u hu
  rwa [memU_iff,memU_iff] at this
 refine SrtS.ext sX sY fun s=>?_
 constructor
 ·intro hs
  obtain ⟨t,ht,et⟩:=(key _ (hX s hs).2).1 ⟨s,hs,rfl⟩
  rw [←nmS_inj h (hY t ht) (hX s hs) et];exact ht
 ·intro hs
  obtain ⟨t,ht,et⟩:=(key _ (hY s hs).2).2 ⟨s,hs,rfl⟩
  rw [←nmS_inj h (hX t ht) (hY s hs) et];exact ht
theorem InT.grow {rs0 rs:List Rn} {U:List (List Nm)} {s:ByteArray} (h:InT rs0 rs U s) (x:List Rn):InT rs0 (rs++x) U s:=by
 refine ⟨fun k hk=>by have:=h.1 k hk;simp;omega,?_⟩
 have:nmS rs0 (rs++x) s=nmS rs0 rs s:=List.map_congr_left fun k hk=>nmOf_app (h.1 k hk) x
 rw [this];exact h.2
end Go.Proofs.YtobfpgoepaeknaaGreat
namespace Go.Proofs.YtobfpgoepaeknaaGreat
def EqB (A B:Lang):Prop:=∀ w,bytesOk w→(A w↔B w)
theorem EqB.refl (A:Lang):EqB A A:=fun _ _=>Iff.rfl
theorem EqB.symm {A B:Lang} (h:EqB A B):EqB B A:=fun w hw=>(h w hw).symm
theorem EqB.trans {A B C:Lang} (h:EqB A B) (k:EqB B C):EqB A C:=fun w hw=>(h w hw).trans (k w hw)
theorem EqB.der {A B:Lang} (h:EqB A B) {c:Nat} (hc:c < 256):EqB (derL c A) (derL c B):=fun w hw=>h (c ::w) (bytesOk_cons hc hw)
def derS (u:List Nat) (A:Lang):Lang:=fun w=>A (u++w)
theorem derS_snoc (u:List Nat) (c:Nat) (A:Lang):derS (u++[c]) A=derL c (derS u A):=Lang.ext fun w=>by
 show A (u++[c]++w)↔A (u++(c ::w))
 rw [List.append_assoc];exact Iff.rfl
structure FoundI (M:Nat) (hb:List Nat) (L:Lang) (st:List Lang) (e:Nat) (nx:List Nat):Prop where
 len:nx.length=e
 nodup:∀ (i j:Nat) (A B:Lang),i < j→st[i]?=some A→st[j]?=some B→¬EqB A B
 edge:∀ (k:Nat) (A:Lang),k < e→st[k / M]?=some A→∃ B,st[nx.getD k 0]?=some B∧EqB B (derL (hb.getD (k % M) 0) A)
 met:∀ j:Nat,0 < j→j < st.length→∃ k,k < e∧nx.getD k 0=j∧k / M < j∧∀ k',k' < k→nx.getD k' 0 < j
 first:∃ A,st[0]?=some A∧EqB A L
 rows:e / M≤st.length
 reach:∀ (i:Nat) (A:Lang),st[i]?=some A→∃ u,bytesOk u∧EqB A (derS u L)
theorem get_snoc_old {α:Type} {l:List α} {x a:α} {k:Nat} (h:l[k]?=some a):(l++[x])[k]?=some a:=by
 rw [List.getElem?_append_left (List.getElem?_eq_some_iff.1 h).1];exact h
theorem get_snoc {α:Type} {l:List α} {x a:α} {k:Nat} (h:(l++[x])[k]?=some a):l[k]?=some a∨(k=l.length∧a=x):=by
 by_cases g:k < l.length
 ·rw [List.getElem?_append_left g] at h;exact .inl h
 ·have:=(List.getElem?_eq_some_iff.1 h).1
  simp at this
  obtain rfl:k=l.length:=by omega
  simp at h
  exact .inr ⟨rfl,h.symm⟩
theorem get_lt {α:Type} {l:List α} {a:α} {k:Nat} (h:l[k]?=some a):k < l.length:=(List.getElem?_eq_some_iff.1 h).1
section found
variable {M : Nat} {hb : List Nat} {L : Lang} {st : List Lang} {e : Nat} {nx : List Nat}
theorem FoundI.start (A:Lang) (h:EqB A L):FoundI M hb L [A] 0 []:=by
 refine ⟨rfl,fun i j A' B hij _ hj=>?_,fun k A' hk=>absurd hk (Nat.not_lt_zero _),fun j h0 hj=>?_,⟨A,rfl,h⟩,by simp,fun i A' hi=>?_⟩
 ·have:=get_lt hj;simp at this;omega
 ·simp at hj;omega
 ·have:=get_lt hi
  simp at this
  subst this
  simp at hi
  subst hi
  exact ⟨[],bytesOk_nil,h⟩
theorem div_succ_le {M e:Nat} (hM:0 < M):(e+1) / M≤e / M+1:=by
 rw [Nat.div_le_iff_le_mul_add_pred hM]
 have:=Nat.div_add_mod e M
 have:=Nat.mod_lt e hM
 rw [Nat.mul_add];omega
theorem FoundI.to_lt (h:FoundI M hb L st e nx) {k:Nat} (hk:k < e) (hs:k / M < st.length):nx.getD k 0 < st.length:=by
 obtain ⟨B,h1,_⟩:=h.edge k _ hk (List.getElem?_eq_getElem hs)
 exact get_lt h1
theorem FoundI.old {j:Nat} {A B:Lang} (h:FoundI M hb L st e nx) (hM:0 < M) (he:st[e / M]?=some A) (hj:st[j]?=some B) (hs:EqB B (derL (hb.getD (e % M) 0) A)):FoundI M hb L st (e+1) (nx++[j]):=by
 have hl:=h.len
 refine ⟨by simp [hl],h.nodup,fun k A' hk hA=>?_,fun i h0 hi=>?_,h.first,?_,h.reach⟩
 ·by_cases hke:k=e
  ·subst hke
   rw [←hl,getD_snoc_new,hl]
   rw [he] at hA
   cases hA
   exact ⟨B,hj,hs⟩
  ·rw [getD_snoc_old (by omega)];exact h.edge k A' (by omega) hA
 ·obtain ⟨k,h1,h2,h3,h4⟩:=h.met i h0 hi
  refine ⟨k,by omega,by rw [getD_snoc_old (by omega)];exact h2,h3,fun k' hk'=>?_⟩
  rw [getD_snoc_old (by omega)];exact h4 k' hk'
 ·have:=div_succ_le (e:=e) hM
  have:=get_lt he
  omega
theorem FoundI.new {A B:Lang} (h:FoundI M hb L st e nx) (hM:0 < M) (he:st[e / M]?=some A) (hs:EqB B (derL (hb.getD (e % M) 0) A)) (hbt:hb.getD (e % M) 0 < 256) (hf:∀ (i:Nat) (C:Lang),st[i]?=some C→¬EqB C B):FoundI M hb L (st++[B]) (e+1) (nx++[st.length]):=by
 have hl:=h.len
 have hel:=get_lt he
 refine ⟨by simp [hl],fun i j A' B' hij hi hj=>?_,fun k A' hk hA=>?_,fun i h0 hi=>?_,?_,?_,fun i A' hi=>?_⟩
 ·rcases get_snoc hj with hj | ⟨rfl,rfl⟩
  ·rcases get_snoc hi with hi | ⟨rfl,_⟩
   ·exact h.nodup i j A' B' hij hi hj
   ·have:=get_lt hj;omega
  ·rcases get_snoc hi with hi | ⟨rfl,_⟩
   ·exact hf i A' hi
   ·omega
 ·have hkM:k / M < st.length:=by
   have:k / M≤e / M:=Nat.div_le_div_right (by omega)
   omega
  have hA':st[k / M]?=some A':=by
   rcases get_snoc hA with g | ⟨g,_⟩
   ·exact g
   ·omega
  by_cases hke:k=e
  ·subst hke
   have e1:(nx++[st.length]).getD k 0=st.length:=by rw [←hl];exact getD_snoc_new _ _
   rw [e1]
   rw [he] at hA'
   cases hA'
   exact ⟨B,by simp,hs⟩
  ·obtain ⟨B',g1,g2⟩:=h.edge k A' (by omega) hA'
   rw [getD_snoc_old (show k < nx.length by omega)]
   exact ⟨B',get_snoc_old g1,g2⟩
 ·have hi2:i < st.length+1:=by simpa using hi
  by_cases hj2:i=st.length
  ·subst hj2
   refine ⟨e,by omega,by rw [←hl];exact getD_snoc_new _ _,hel,fun k' hk'=>?_⟩
   rw [getD_snoc_old (by omega)]
   exact h.to_lt hk' (Nat.lt_of_le_of_lt (Nat.div_le_div_right (by omega)) hel)
  ·obtain ⟨k,h1,h2,h3,h4⟩:=h.met i h0 (by omega)
   refine ⟨k,by omega,by rw [getD_snoc_old (by omega)];exact h2,h3,fun k' hk'=>?_⟩
   rw [getD_snoc_old (by omega)];exact h4 k' hk'
 ·obtain ⟨A0,g1,g2⟩:=h.first
  exact ⟨A0,get_snoc_old g1,g2⟩
 ·have:=div_succ_le (e:=e) hM
  simp
  omega
 ·rcases get_snoc hi with g | ⟨_,rfl⟩
  ·exact h.reach i A' g
  ·obtain ⟨u,u1,u2⟩:=h.reach _ A he
   exact ⟨u++[hb.getD (e % M) 0],bytesOk_snoc u1 hbt,by rw [derS_snoc];exact hs.trans (u2.der hbt)⟩
theorem FoundI.many (h:FoundI M hb L st e nx) (hl:24 < st.length):ManyStates L:=by
 have hc:∀ k,k < st.length→∃ u,bytesOk u∧∀ A,st[k]?=some A→EqB A (derS u L):=fun k hk=>by
  obtain ⟨u,u1,u2⟩:=h.reach k _ (List.getElem?_eq_getElem hk)
  exact ⟨u,u1,fun A hA=>by rw [List.getElem?_eq_getElem hk] at hA;cases hA;exact u2⟩
 refine ⟨fun k=>if hk:k < st.length then Classical.choose (hc k hk) else [],fun i hi=>?_,fun i j hij hj ha=>?_⟩
 ·simp only [dif_pos (show i < st.length by omega)]
  exact (Classical.choose_spec (hc i (by omega))).1
 ·simp only [dif_pos (show i < st.length by omega),dif_pos (show j < st.length by omega)] at ha
  have si:=(Classical.choose_spec (hc i (by omega))).2 _ (List.getElem?_eq_getElem (by omega))
  have sj:=(Classical.choose_spec (hc j (by omega))).2 _ (List.getElem?_eq_getElem (by omega))
  exact h.nodup i j _ _ hij (List.getElem?_eq_getElem (by omega)) (List.getElem?_eq_getElem (by omega)) fun w hw=>(si w hw).trans ((ha w hw).trans (sj w hw).symm)
theorem FoundI.dfa {E:Nat→Nat→Prop} {kd:Nat→Nat} {gr:Nat→Bool} (hs:Sorted 256 E hb kd) (h:FoundI hb.length hb L st (st.length * hb.length) nx)
  (hk:∀ (i:Nat) (A:Lang) (b:Nat),st[i]?=some A→b < 256→EqB (derL b A) (derL (hb.getD (kd b) 0) A)) (hg:∀ (i:Nat) (A:Lang),st[i]?=some A→(gr i=true↔A [])):MinDfa L st.length (fun i b=>nx.getD (i * hb.length+kd b) 0) gr:=by
 have hM:0 < hb.length:=(hs.zero (by omega)).1
 have hkk:∀ {i b:Nat},i < st.length→b < 256→i * hb.length+kd b < st.length * hb.length:=fun {i b} hi hb'=>edge_lt (c':=0) (hs.lt b hb') hi
 have hstep:∀ {i b:Nat} {A:Lang},st[i]?=some A→b < 256→∃ B,st[nx.getD (i * hb.length+kd b) 0]?=some B∧EqB B (derL b A):=fun {i b A} hi hb'=>by
  have he:=edge_div (M:=hb.length) (i:=i) (hs.lt b hb')
  obtain ⟨B,g1,g2⟩:=h.edge _ A (hkk (get_lt hi) hb') (by rw [he.1];exact hi)
  rw [he.2] at g2
  exact ⟨B,g1,g2.trans (hk i A b hi hb').symm⟩
 have hrun:∀ (u:List Nat) (i:Nat) (A:Lang),st[i]?=some A→bytesOk u→∃ B,st[dRun (fun i b=>nx.getD (i * hb.length+kd b) 0) i u]?=some B∧EqB B (derS u A):=by
  intro u
  induction u with
  | nil=>intro i A hi _;exact ⟨A,hi,EqB.refl _⟩
  | cons b u ih =>
   intro i A hi hu
   have hb':=bytesOk_tail hu
   obtain ⟨B,g1,g2⟩:=hstep hi hb'.1
   obtain ⟨C,g3,g4⟩:=ih _ B g1 hb'.2
   exact ⟨C,g3,fun w hw=>(g4 w hw).trans (g2 (u++w) (bytesOk_append hb'.2 hw))⟩
 obtain ⟨A0,f1,f2⟩:=h.first
 refine ⟨get_lt f1,fun i b hi hb'=>?_,fun u hu=>?_,fun i j hi hj hsame=>?_,fun k h0 hk1=>?_⟩
 ·obtain ⟨B,g1,_⟩:=hstep (List.getElem?_eq_getElem hi) hb'
  exact get_lt g1
 ·obtain ⟨B,g1,g2⟩:=hrun u 0 A0 f1 hu
  rw [hg _ B g1,g2 [] bytesOk_nil]
  show A0 (u++[])↔L u
  rw [List.append_nil]
  exact f2 u hu
 ·have key:∀ a b:Nat,a < b→∀ A B:Lang,st[a]?=some A→st[b]?=some B→(∀ u,bytesOk u→gr (dRun (fun i b=>nx.getD (i * hb.length+kd b) 0) a u)=gr (dRun (fun i b=>nx.getD (i * hb.length+kd b) 0) b u))→False:=fun a b hab A B hA hB hsm=>by
   refine h.nodup a b A B hab hA hB fun w hw=>?_
   obtain ⟨C,c1,c2⟩:=hrun w a A hA hw
   obtain ⟨D,d1,d2⟩:=hrun w b B hB hw
   have e1:=hg _ C c1
   have e2:=hg _ D d1
   have q1:=c2 [] bytesOk_nil
   have q2:=d2 [] bytesOk_nil
   simp only [derS,List.append_nil] at q1 q2
   rw [←q1,←q2,←e1,←e2,hsm w hw]
  rcases Nat.lt_trichotomy i j with g | g | g
  ·exact (key i j g _ _ (List.getElem?_eq_getElem hi) (List.getElem?_eq_getElem hj) hsame).elim
  ·exact g
  ·exact (key j i g _ _ (List.getElem?_eq_getElem hj) (List.getElem?_eq_getElem hi) (fun u hu=>(hsame u hu).symm)).elim
 ·obtain ⟨k0,h1,h2,h3,h4⟩:=h.met k h0 hk1
  have hc:k0 % hb.length < hb.length:=Nat.mod_lt _ hM
  have g:=hs.head _ hc
  have e0:k0 / hb.length * hb.length+k0 % hb.length=k0:=by rw [Nat.mul_comm];exact Nat.div_add_mod _ _
  refine ⟨k0 / hb.length,hb.getD (k0 % hb.length) 0,h3,g.1,?_,fun i' b' hb' hi'=>?_,fun b' hb'=>?_⟩
  ·show nx.getD (_ * _+kd _) 0=k
   rw [g.2,e0];exact h2
  ·refine h4 _ ?_
   rw [←e0]
   exact Nat.lt_of_lt_of_le (edge_lt (c':=0) (hs.lt b' hb') hi') (by omega)
  ·refine h4 _ ?_
   have:=hs.below_head hc hb'
   omega
end found
def alkB (rs:List Rn) (b c:Nat):Prop:=∀ r∈rs,r.kind=2→r.f b=r.f c
theorem alk_eqv (rs:List Rn):Equivalence (alkB rs):=⟨fun _ _ _ _=>rfl,fun h r hr hk=>(h r hr hk).symm,fun h k r hr hk=>(h r hr hk).trans (k r hr hk)⟩
def Alk2 (rs:List Rn):List Nat→List Nat→Prop
 | [],[]=>True
 | b ::u,c ::v=>alkB rs b c∧Alk2 rs u v
 | _,_=>False
theorem Alk2.refl (rs:List Rn):∀ u,Alk2 rs u u
 | []=>trivial
 | _ ::u=>⟨(alk_eqv rs).refl _,Alk2.refl rs u⟩
theorem Alk2.symm {rs:List Rn}:∀ {u v:List Nat},Alk2 rs u v→Alk2 rs v u
 | [],[],_=>trivial
 | _ ::_,_ ::_,h=>⟨(alk_eqv rs).symm h.1,Alk2.symm h.2⟩
 | [],_ ::_,h=>h.elim
 | _ ::_,[],h=>h.elim
theorem Alk2.split {rs:List Rn}:∀ {u1 u2 v:List Nat},Alk2 rs (u1++u2) v→∃ v1 v2,v=v1++v2∧Alk2 rs u1 v1∧Alk2 rs u2 v2
 | [],_,v,h=>⟨[],v,rfl,trivial,h⟩
 | _ ::_,_,[],h=>h.elim
 | _ ::u1,u2,c ::v,h=>by
  obtain ⟨v1,v2,rfl,g1,g2⟩:=Alk2.split (u1:=u1) (u2:=u2) h.2
  exact ⟨c ::v1,v2,rfl,⟨h.1,g1⟩,g2⟩
def SameA (rs:List Rn) (A:Lang):Prop:=∀ u v,Alk2 rs u v→A u→A v
theorem SameA.cat {rs:List Rn} {A B:Lang} (ha:SameA rs A) (hb:SameA rs B):SameA rs (catL A B):=by
 rintro u v h ⟨u1,u2,rfl,h1,h2⟩
 obtain ⟨v1,v2,rfl,g1,g2⟩:=h.split
 exact ⟨v1,v2,rfl,ha _ _ g1 h1,hb _ _ g2 h2⟩
theorem SameA.eps (rs:List Rn):SameA rs epsL:=by
 intro u v h e
 have e':u=[]:=e
 subst e'
 cases v with
 | nil=>rfl
 | cons _ _=>exact h.elim
theorem SameA.pw {rs:List Rn} {A:Lang} (ha:SameA rs A):∀ k,SameA rs (pwL A k)
 | 0=>SameA.eps rs
 | k+1=>ha.cat (SameA.pw ha k)
theorem Dr.sameA {rs:List Rn} {R:Re}:∀ {k:Int},Dr rs R k→SameA rs R.L:=by
 induction R using Re.ind with
 | blank=>intro _ _;exact SameA.eps rs
 | set f =>
  rintro _ ⟨r,_,h1,h2,h3⟩ u v h ⟨b,rfl,hb⟩
  match v,h with
  | [c],h=>exact ⟨c,rfl,by rw [←h3,←h.1 r (List.mem_of_getElem? h1) h2,h3];exact hb⟩
  | [],h=>exact h.elim
  | _ ::_ ::_,h=>exact h.2.elim
 | seq a b iha ihb=>rintro _ ⟨_,_,_,_,h1,h2⟩;exact (iha h1).cat (ihb h2)
 | alt a b iha ihb=>rintro _ ⟨_,_,_,_,h1,h2⟩ u v h hu;exact hu.elim (fun x=>.inl (iha h1 u v h x)) (fun x=>.inr (ihb h2 u v h x))
 | star a iha=>rintro _ ⟨_,_,_,_,h1⟩ u v h ⟨k,hk⟩;exact ⟨k,(iha h1).pw k u v h hk⟩
 | plus a iha=>rintro _ ⟨_,_,_,_,h1⟩ u v h ⟨k,k1,hk⟩;exact ⟨k,k1,(iha h1).pw k u v h hk⟩
 | opt a iha=>rintro _ ⟨_,_,_,_,h1⟩ u v h hu;exact hu.elim (fun x=>.inl (SameA.eps rs u v h x)) (fun x=>.inr (iha h1 u v h x))
 | times m n a iha=>rintro _ ⟨_,_,_,_,_,_,_,_,h1⟩ u v h ⟨k,k1,k2,hk⟩;exact ⟨k,k1,k2,(iha h1).pw k u v h hk⟩
theorem alk_app {rs:List Rn}:∀ (u:List Nat) {v w:List Nat},Alk2 rs v w→Alk2 rs (u++v) (u++w)
 | [],_,_,h=>h
 | _ ::u,_,_,h=>⟨(alk_eqv rs).refl _,alk_app u h⟩
theorem SameA.der {rs:List Rn} {L A:Lang} (h:SameA rs L) {u:List Nat} (hA:EqB A (derS u L)) {b c:Nat} (hb:b < 256) (hc:c < 256) (he:alkB rs b c):EqB (derL b A) (derL c A):=fun w hw=>by
 have h1:=hA (b ::w) (bytesOk_cons hb hw)
 have h2:=hA (c ::w) (bytesOk_cons hc hw)
 show A (b ::w)↔A (c ::w)
 rw [h1,h2]
 exact ⟨h _ _ (alk_app u ⟨he,Alk2.refl rs w⟩),h _ _ (alk_app u ⟨(alk_eqv rs).symm he,Alk2.refl rs w⟩)⟩
end Go.Proofs.YtobfpgoepaeknaaGreat
namespace Go.Proofs.YtobfpgoepaeknaaGreat
def extraR (r:Rn):Nat:=if r.kind=6 then 1 else if r.kind=8 then r.n.toNat else 0
def phiR:List Rn→Nat
 | []=>0
 | r ::rs=>1+extraR r+phiR rs
theorem phiR_app:∀ (a b:List Rn),phiR (a++b)=phiR a+phiR b
 | [],b=>by simp [phiR]
 | r ::a,b=>by rw [List.cons_append,phiR,phiR,phiR_app a b];omega
theorem phiR_one (rs:List Rn) (r:Rn):phiR (rs++[r])=phiR rs+(1+extraR r):=by rw [phiR_app];simp [phiR]
theorem ext_size (p:ByteArray) (a b:Nat):(p.extract a b).size=min b p.size - a:=by
 rw [ByteArray.size_extract]
theorem leafS_facts {p:ByteArray} {r:Rn} (h:leafS p=some r):0 < p.size∧extraR r=0:=by
 unfold leafS at h
 split at h
 ·next hp =>
  refine ⟨hp,?_⟩
  split at h
  ·cases h;rfl
  ·split at h
   ·split at h
    ·split at h
     ·rw [Option.bind_eq_some_iff] at h
      obtain ⟨f,_,h⟩:=h
      cases h;rfl
     ·rw [Option.bind_eq_some_iff] at h
      obtain ⟨f,_,h⟩:=h
      cases h;rfl
    ·cases h
   ·rw [Option.bind_eq_some_iff] at h
    obtain ⟨f,_,h⟩:=h
    cases h;rfl
 ·cases h
def PhiOk (tag:Nat) (p:ByteArray) (a:Nat) (rs rs':List Rn):Prop :=
 match tag with
 | 0=>phiR rs'≤phiR rs+2 * p.size+1
 | 1=>phiR rs'≤phiR rs+2 * p.size+1
 | 2=>(p.size=0→phiR rs'=phiR rs+1)∧(1≤p.size→phiR rs'+1≤phiR rs+2 * p.size)
 | 3=>phiR rs'+2 * a≤phiR rs+2 * p.size
 | _=>1≤p.size∧phiR rs'+1≤phiR rs+2 * p.size
theorem rfF_phi:∀ (n tag:Nat) (p:ByteArray) (a:Nat) (l:Int) (rs:List Rn) (r:List Rn × Int),rfF n tag p a l rs=some r→PhiOk tag p a rs r.1:=by
 intro n
 induction n with
 | zero=>intro tag p a l rs r h;simp [rfF] at h
 | succ n ih =>
  intro tag p a l rs r h
  match tag with
  | 0 =>
   simp only [rfF] at h
   exact ih 1 _ _ _ _ _ h
  | 1 =>
   simp only [rfF] at h
   split at h
   ·rw [Option.bind_eq_some_iff] at h
    obtain ⟨j,_,h⟩:=h
    have g:phiR r.1≤phiR rs+2 * p.size+1:=ih 1 p j 0 rs r h
    exact g
   ·split at h
    ·next hle =>
     rw [Option.bind_eq_some_iff] at h
     obtain ⟨x,hx,h⟩:=h
     obtain ⟨g1,g2⟩:=ih 2 _ _ _ _ _ hx
     rw [ext_size] at g1 g2
     split at h
     ·simp only [Option.some.injEq] at h
      subst h
      show phiR _≤_
      by_cases e:p.size=0
      ·have:=g1 (by omega);omega
      ·have:=g2 (by omega);omega
     ·next hne =>
      rw [Option.bind_eq_some_iff] at h
      obtain ⟨y,hy,h⟩:=h
      have g3:phiR y.1≤_:=ih 0 _ _ _ _ _ hy
      rw [ext_size] at g3
      simp only [Option.some.injEq] at h
      subst h
      show phiR (y.1++[_])≤_
      rw [phiR_one]
      have e0:extraR ⟨4,x.2,y.2,0,0,noSet⟩=0:=rfl
      rw [e0]
      by_cases e:a=0
      ·have:=g1 (by omega);omega
      ·have:=g2 (by omega);omega
    ·cases h
  | 2 =>
   simp only [rfF] at h
   split at h
   ·next h0 =>
    simp only [Option.some.injEq] at h
    subst h
    refine ⟨fun _=>?_,fun h1=>by omega⟩
    show phiR (rs++[_])=_
    rw [phiR_one];rfl
   ·next h0 =>
    rw [Option.bind_eq_some_iff] at h
    obtain ⟨j,_,h⟩:=h
    split at h
    ·next hj =>
     rw [Option.bind_eq_some_iff] at h
     obtain ⟨x,hx,h⟩:=h
     obtain ⟨g1,g2⟩:=ih 4 _ _ _ _ _ hx
     rw [ext_size] at g1 g2
     have g3:phiR r.1+2 * j≤_:=ih 3 _ _ _ _ _ h
     refine ⟨fun h1=>absurd h1 h0,fun _=>?_⟩
     omega
    ·cases h
  | 3 =>
   simp only [rfF] at h
   split at h
   ·next hc =>
    have g:phiR r.1+2 * (a+1)≤phiR (rs++[_])+_:=ih 3 _ _ _ _ _ h
    rw [phiR_one] at g
    have e0:extraR ⟨5,l,0,0,0,noSet⟩=0:=rfl
    rw [e0] at g
    show _+_≤_
    omega
   ·split at h
    ·have g:phiR r.1+2 * (a+1)≤phiR (rs++[_])+_:=ih 3 _ _ _ _ _ h
     rw [phiR_one] at g
     have e0:extraR ⟨6,l,0,0,0,noSet⟩=1:=rfl
     rw [e0] at g
     show _+_≤_
     omega
    ·split at h
     ·have g:phiR r.1+2 * (a+1)≤phiR (rs++[_])+_:=ih 3 _ _ _ _ _ h
      rw [phiR_one] at g
      have e0:extraR ⟨7,l,0,0,0,noSet⟩=0:=rfl
      rw [e0] at g
      show _+_≤_
      omega
     ·split at h
      ·split at h
       ·next hd =>
        have g:phiR r.1+2 * (a+5)≤phiR (rs++[_])+_:=ih 3 _ _ _ _ _ h
        rw [phiR_one] at g
        have e0:extraR ⟨8,l,0,byteAt p (a+1) - 48,byteAt p (a+3) - 48,noSet⟩=(byteAt p (a+3) - 48).toNat:=rfl
        rw [e0] at g
        have d3:48≤byteAt p (a+3)∧byteAt p (a+3)≤57:=by simpa [decB] using hd.2.2
        show _+_≤_
        omega
       ·cases h
      ·split at h
       ·next he =>
        simp only [Option.some.injEq] at h
        subst h
        show phiR rs+_≤_
        omega
       ·split at h
        ·next hlt =>
         rw [Option.bind_eq_some_iff] at h
         obtain ⟨y,hy,h⟩:=h
         obtain ⟨_,g2⟩:=ih 2 _ _ _ _ _ hy
         rw [ext_size] at g2
         simp only [Option.some.injEq] at h
         subst h
         show phiR (y.1++[_])+_≤_
         rw [phiR_one]
         have e0:extraR ⟨3,l,y.2,0,0,noSet⟩=0:=rfl
         rw [e0]
         have:=g2 (by omega)
         omega
        ·cases h
  | t+4 =>
   simp only [rfF] at h
   split at h
   ·next hc =>
    split at h
    ·next h1 =>
     have g:phiR r.1≤_:=ih 0 _ _ _ _ _ h
     rw [ext_size] at g
     show _∧_
     refine ⟨by omega,?_⟩
     omega
    ·cases h
   ·rw [Option.bind_eq_some_iff] at h
    obtain ⟨x,hx,h⟩:=h
    obtain ⟨g1,g2⟩:=leafS_facts hx
    simp only [Option.some.injEq] at h
    subst h
    show _∧phiR (rs++[x])+1≤_
    rw [phiR_one,g2]
    exact ⟨by omega,by omega⟩
theorem tree_small {n:Nat} {p:ByteArray} {rs:List Rn} {k:Int} (h:rfF n 0 p 0 0 []=some (rs,k)) (hp:p.size≤60):phiR rs≤121:=by
 have g:phiR rs≤phiR []+2 * p.size+1:=rfF_phi n 0 p 0 0 [] _ h
 simp only [phiR] at g
 omega
def ctsR (r:Rn):List Nm:=if r.kind=6 then [.x 5 r.l 0 0] else if r.kind=8 then (List.range r.n.toNat).map (fun j=>Nm.x 8 r.l ((r.m.toNat - (j+1):Nat):Int) ((r.n.toNat - (j+1):Nat):Int)) else []
def ctsT (rs:List Rn):List Nm:=rs.flatMap ctsR
theorem ctsT_len:∀ rs:List Rn,rs.length+(ctsT rs).length=phiR rs
 | []=>rfl
 | r ::rs=>by
  have ih:=ctsT_len rs
  have e:(ctsR r).length=extraR r:=by
   unfold ctsR extraR
   split
   ·rfl
   ·split
    ·simp
    ·rfl
  unfold ctsT at ih ⊢
  rw [List.flatMap_cons,List.length_append,e,List.length_cons,phiR]
  omega
structure GrowT (rs0 rs:List Rn):Prop where
 gr:GrownT rs0 rs
 may:∀ k r,rs0.length≤k→rs[k]?=some r→ctOf r∈ctsT rs0
theorem mem_pos {α:Type} [DecidableEq α] {a:α} {l:List α} (h:a∈l):∃ i,i < l.length∧l[i]?=some a:=by
 obtain ⟨i,hi,e⟩:=List.getElem_of_mem h
 exact ⟨i,hi,by rw [List.getElem?_eq_getElem hi,e]⟩
theorem GrowT.small {rs0 rs:List Rn} (h:GrowT rs0 rs):rs.length≤phiR rs0:=by
 rw [←ctsT_len]
 refine Nat.le_of_not_lt fun hlt=>?_
 have hc:∀ i,i≤(ctsT rs0).length→∃ j r,rs[rs0.length+i]?=some r∧j < (ctsT rs0).length∧(ctsT rs0)[j]?=some (ctOf r):=fun i hi=>by
  have hl:rs0.length+i < rs.length:=by omega
  obtain ⟨j,h1,h2⟩:=mem_pos (h.may (rs0.length+i) _ (by omega) (List.getElem?_eq_getElem hl))
  exact ⟨j,_,List.getElem?_eq_getElem hl,h1,h2⟩
 obtain ⟨i,j,hij,hj,e⟩:=pigeon (ctsT rs0).length (fun i=>if hi:i≤(ctsT rs0).length then Classical.choose (hc i hi) else 0) fun i hi=>by
  simp only [dif_pos hi]
  obtain ⟨r,_,g,_⟩:=Classical.choose_spec (hc i hi)
  exact g
 simp only [dif_pos (show i≤(ctsT rs0).length by omega),dif_pos hj] at e
 obtain ⟨r,a1,a2,a3⟩:=Classical.choose_spec (hc i (by omega))
 obtain ⟨s,b1,b2,b3⟩:=Classical.choose_spec (hc j hj)
 rw [e,b3] at a3
 have:=h.gr.inj _ _ r s (by omega) (by omega) a1 b1 (by simpa using a3.symm)
 omega
theorem GrowT.refl (rs:List Rn):GrowT rs rs:=⟨GrownT.refl rs,fun k r h1 h2=>by rw [List.getElem?_eq_none h1] at h2;cases h2⟩
theorem GrowT.put {rs0 rs:List Rn} (h:GrowT rs0 rs) {n:Rn} (hn:fstC (ctOf n) rs=none) (hm:ctOf n∈ctsT rs0):GrowT rs0 (rs++[n]):=⟨(h.gr.put hn).1,fun k r hk hr=>by
 rcases List.getElem?_append (l₁:=rs) (l₂:=[n]) (i:=k) ▸ hr with g
 by_cases hl:k < rs.length
 ·rw [if_pos hl] at g;exact h.may k r hk g
 ·rw [if_neg hl] at g
  have:r=n:=by
   have:=(List.getElem?_eq_some_iff.1 g).1
   simp at this
   rw [this] at g
   simpa using g.symm
  rw [this];exact hm⟩
end Go.Proofs.YtobfpgoepaeknaaGreat
namespace Go.Proofs.YtobfpgoepaeknaaGreat
def WfT (rs:List Rn):Prop:=∀ (k:Nat) (r:Rn),rs[k]?=some r→(3≤r.kind→0≤r.l∧r.l < (k:Int))∧((r.kind=3∨r.kind=4)→0≤r.r∧r.r < (k:Int))
theorem WfT.snoc {rs:List Rn} (h:WfT rs) (n:Rn) (h1:3≤n.kind→0≤n.l∧n.l < (rs.length:Int)) (h2:(n.kind=3∨n.kind=4)→0≤n.r∧n.r < (rs.length:Int)):WfT (rs++[n]):=fun k r hk=>by
 rcases get_snoc hk with g | ⟨rfl,rfl⟩
 ·exact h k r g
 ·exact ⟨h1,h2⟩
theorem leafS_kind {p:ByteArray} {r:Rn} (h:leafS p=some r):r.kind=2:=by
 unfold leafS at h
 split at h
 ·split at h
  ·cases h;rfl
  ·split at h
   ·split at h
    ·split at h
     ·rw [Option.bind_eq_some_iff] at h
      obtain ⟨f,_,h⟩:=h
      cases h;rfl
     ·rw [Option.bind_eq_some_iff] at h
      obtain ⟨f,_,h⟩:=h
      cases h;rfl
    ·cases h
   ·rw [Option.bind_eq_some_iff] at h
    obtain ⟨f,_,h⟩:=h
    cases h;rfl
 ·cases h
theorem rfF_wf:∀ (n tag:Nat) (p:ByteArray) (a:Nat) (l:Int) (rs:List Rn) (r:List Rn × Int),rfF n tag p a l rs=some r→WfT rs→(tag=3→0≤l∧l < (rs.length:Int))→WfT r.1∧0≤r.2∧r.2 < (r.1.length:Int):=by
 intro n
 induction n with
 | zero=>intro tag p a l rs r h;simp [rfF] at h
 | succ n ih =>
  intro tag p a l rs r h hw hl
  have len1:∀ (x:List Rn) (y:Rn),((x++[y]).length:Int)=(x.length:Int)+1:=fun x y=>by simp
  match tag with
  | 0 =>
   simp only [rfF] at h
   exact ih 1 _ _ _ _ _ h hw (fun e=>by cases e)
  | 1 =>
   simp only [rfF] at h
   split at h
   ·rw [Option.bind_eq_some_iff] at h
    obtain ⟨j,_,h⟩:=h
    exact ih 1 _ _ _ _ _ h hw (fun e=>by cases e)
   ·split at h
    ·rw [Option.bind_eq_some_iff] at h
     obtain ⟨x,hx,h⟩:=h
     obtain ⟨g1,g2,g3⟩:=ih 2 _ _ _ _ _ hx hw (fun e=>by cases e)
     split at h
     ·simp only [Option.some.injEq] at h;subst h;exact ⟨g1,g2,g3⟩
     ·rw [Option.bind_eq_some_iff] at h
      obtain ⟨y,hy,h⟩:=h
      obtain ⟨q1,q2,q3⟩:=ih 0 _ _ _ _ _ hy g1 (fun e=>by cases e)
      have hg:=rfF_grows _ _ _ _ _ _ _ hy
      simp only [Option.some.injEq] at h;subst h
      refine ⟨q1.snoc _ (fun _=>⟨g2,by show x.2 < _;omega⟩) (fun _=>⟨q2,q3⟩),by show (0:Int)≤(y.1.length:Int);omega,?_⟩
      show (y.1.length:Int) < ((y.1++[_]).length:Int)
      rw [len1];omega
    ·cases h
  | 2 =>
   simp only [rfF] at h
   split at h
   ·simp only [Option.some.injEq] at h;subst h
    refine ⟨hw.snoc _ (fun e=>absurd e (by show ¬(3:Int)≤1;omega)) (fun e=>absurd e (by show ¬((1:Int)=3∨(1:Int)=4);omega)),by show (0:Int)≤(rs.length:Int);omega,?_⟩
    show (rs.length:Int) < ((rs++[_]).length:Int)
    rw [len1];omega
   ·rw [Option.bind_eq_some_iff] at h
    obtain ⟨j,_,h⟩:=h
    split at h
    ·rw [Option.bind_eq_some_iff] at h
     obtain ⟨x,hx,h⟩:=h
     obtain ⟨g1,g2,g3⟩:=ih 4 _ _ _ _ _ hx hw (fun e=>by cases e)
     exact ih 3 _ _ _ _ _ h g1 (fun _=>⟨g2,g3⟩)
    ·cases h
  | 3 =>
   obtain ⟨l0,l1⟩:=hl rfl
   have one:∀ (k m q:Int),3 < k→k≠4→WfT (rs++[⟨k,l,0,m,q,noSet⟩]):=fun k m q h3 h4=>hw.snoc _ (fun _=>⟨l0,l1⟩) (fun e=>absurd e (by show ¬(k=3∨k=4);omega))
   have nx:∀ y:Rn,(0:Int)≤(rs.length:Int)∧(rs.length:Int) < ((rs++[y]).length:Int):=fun y=>by rw [len1];omega
   simp only [rfF] at h
   split at h
   ·exact ih 3 _ _ _ _ _ h (one 5 0 0 (by omega) (by omega)) (fun _=>nx _)
   ·split at h
    ·exact ih 3 _ _ _ _ _ h (one 6 0 0 (by omega) (by omega)) (fun _=>nx _)
    ·split at h
     ·exact ih 3 _ _ _ _ _ h (one 7 0 0 (by omega) (by omega)) (fun _=>nx _)
     ·split at h
      ·split at h
       ·exact ih 3 _ _ _ _ _ h (one 8 _ _ (by omega) (by omega)) (fun _=>nx _)
       ·cases h
      ·split at h
       ·simp only [Option.some.injEq] at h;subst h;exact ⟨hw,l0,l1⟩
       ·split at h
        ·rw [Option.bind_eq_some_iff] at h
         obtain ⟨y,hy,h⟩:=h
         obtain ⟨q1,q2,q3⟩:=ih 2 _ _ _ _ _ hy hw (fun e=>by cases e)
         have hg:=rfF_grows _ _ _ _ _ _ _ hy
         simp only [Option.some.injEq] at h;subst h
         refine ⟨q1.snoc _ (fun _=>⟨l0,by show l < _;omega⟩) (fun _=>⟨q2,q3⟩),by show (0:Int)≤(y.1.length:Int);omega,?_⟩
         show (y.1.length:Int) < ((y.1++[_]).length:Int)
         rw [len1];omega
        ·cases h
  | t+4 =>
   simp only [rfF] at h
   split at h
   ·split at h
    ·exact ih 0 _ _ _ _ _ h hw (fun e=>by cases e)
    ·cases h
   ·rw [Option.bind_eq_some_iff] at h
    obtain ⟨x,hx,h⟩:=h
    have hk:=leafS_kind hx
    simp only [Option.some.injEq] at h;subst h
    refine ⟨hw.snoc _ (fun e=>by omega) (fun e=>by omega),by show (0:Int)≤(rs.length:Int);omega,?_⟩
    show (rs.length:Int) < ((rs++[_]).length:Int)
    rw [len1];omega
def rdep:Re→Nat:=Re.fold ⟨0,fun _=>0,fun a b=>max (a+1) b,fun a b=>max a b,fun a=>a+1,fun a=>a+1,fun a=>a,fun _ _ a=>a+1⟩
theorem rdep_seq (a b:Re):rdep (.seq a b)=max (rdep a+1) (rdep b):=rfl
theorem rdep_alt (a b:Re):rdep (.alt a b)=max (rdep a) (rdep b):=rfl
theorem rdep_star (a:Re):rdep (.star a)=rdep a+1:=rfl
theorem rdep_plus (a:Re):rdep (.plus a)=rdep a+1:=rfl
theorem rdep_opt (a:Re):rdep (.opt a)=rdep a:=rfl
theorem rdep_times (m n:Nat) (a:Re):rdep (.times m n a)=rdep a+1:=rfl
theorem uni_dep (rs0:List Rn) (R:Re):∀ k:Nat,∀ τ∈uni rs0 R k,τ.length≤rdep R:=by
 induction R using Re.ind with
 | blank=>intro k τ h;cases h
 | set f =>
  intro k τ h
  rw [uni_set,List.mem_singleton] at h
  subst h;exact Nat.zero_le _
 | seq a b iha ihb =>
  intro k τ h
  rw [uni_seq] at h
  rw [rdep_seq]
  rcases List.mem_append.1 h with h | h
  ·obtain ⟨σ,h1,rfl⟩:=List.mem_map.1 h
   have:=iha _ σ h1
   simp;omega
  ·have:=ihb _ τ h
   omega
 | alt a b iha ihb =>
  intro k τ h
  rw [uni_alt] at h
  rw [rdep_alt]
  rcases List.mem_append.1 h with h | h
  ·have:=iha _ τ h;omega
  ·have:=ihb _ τ h;omega
 | star a iha =>
  intro k τ h
  rw [uni_star] at h
  obtain ⟨σ,h1,rfl⟩:=List.mem_map.1 h
  have:=iha _ σ h1
  rw [rdep_star]
  simp;omega
 | plus a iha =>
  intro k τ h
  rw [uni_plus] at h
  obtain ⟨σ,h1,rfl⟩:=List.mem_map.1 h
  have:=iha _ σ h1
  rw [rdep_plus]
  simp;omega
 | opt a iha=>exact fun k τ h=>iha _ τ h
 | times m n a iha =>
  intro k τ h
  rw [uni_times] at h
  split at h
  ·obtain ⟨j,_,h⟩:=List.mem_flatMap.1 h
   obtain ⟨σ,h1,rfl⟩:=List.mem_map.1 h
   have:=iha _ σ h1
   rw [rdep_times]
   simp;omega
  ·cases h
theorem rdep_le {rs:List Rn} (hw:WfT rs) {R:Re}:∀ {k:Int},Dr rs R k→(rdep R:Int)≤k:=by
 induction R using Re.ind with
 | blank=>intro k h;exact h.nonneg
 | set f=>intro k h;exact h.nonneg
 | seq a b iha ihb =>
  rintro k ⟨r,h0,h1,h2,ha,hb⟩
  have w:=hw _ _ h1
  have w1:=w.1 (by omega)
  have w2:=w.2 (.inl h2)
  have:=iha ha
  have:=ihb hb
  rw [Int.toNat_of_nonneg h0] at w1 w2
  rw [rdep_seq]
  omega
 | alt a b iha ihb =>
  rintro k ⟨r,h0,h1,h2,ha,hb⟩
  have w:=hw _ _ h1
  have w1:=w.1 (by omega)
  have w2:=w.2 (.inr h2)
  have:=iha ha
  have:=ihb hb
  rw [Int.toNat_of_nonneg h0] at w1 w2
  rw [rdep_alt]
  omega
 | star a iha =>
  rintro k ⟨r,h0,h1,h2,ha⟩
  have w1:=(hw _ _ h1).1 (by omega)
  have:=iha ha
  rw [Int.toNat_of_nonneg h0] at w1
  rw [rdep_star]
  omega
 | plus a iha =>
  rintro k ⟨r,h0,h1,h2,ha⟩
  have w1:=(hw _ _ h1).1 (by omega)
  have:=iha ha
  rw [Int.toNat_of_nonneg h0] at w1
  rw [rdep_plus]
  omega
 | opt a iha =>
  rintro k ⟨r,h0,h1,h2,ha⟩
  have w1:=(hw _ _ h1).1 (by omega)
  have:=iha ha
  rw [Int.toNat_of_nonneg h0] at w1
  rw [rdep_opt]
  omega
 | times m n a iha =>
  rintro k ⟨r,h0,h1,h2,_,_,_,_,ha⟩
  have w1:=(hw _ _ h1).1 (by omega)
  have:=iha ha
  rw [Int.toNat_of_nonneg h0] at w1
  rw [rdep_times]
  omega
def NumOk (rs0 rs:List Rn) (k:Nat):Prop:=(k < rs0.length∧∃ R,Dr rs0 R (k:Int)∧R.wt≤12)∨(rs0.length≤k∧∃ r,rs[k]?=some r∧∃ a,Dr rs0 a r.l∧a.wt≤12∧((r.kind=5∧r.m=0∧r.n=0)∨(r.kind=8∧∃ m n:Nat,r.m=(m:Int)∧r.n=(n:Int)∧m≤9∧n≤9∧(Re.times m n a).wt≤12)))
theorem NumOk.nd {rs0 rs:List Rn} (hg:GrowT rs0 rs) {k:Nat} (h:NumOk rs0 rs k):NdOk rs k:=by
 obtain ⟨e,rfl⟩:=hg.gr.pre
 rcases h with ⟨_,R,hR,_⟩ | ⟨_,r,h1,a,ha,_,h2 | ⟨h2,m,n,q1,q2,q3,q4,_⟩⟩
 ·exact ⟨R,hR.app e⟩
 ·exact ⟨.star a,r,by omega,by rw [Int.toNat_natCast];exact h1,h2.1,ha.app e⟩
 ·exact ⟨.times m n a,r,by omega,by rw [Int.toNat_natCast];exact h1,h2,q1,q2,q3,q4,ha.app e⟩
theorem NumOk.grow {rs0 rs:List Rn} {k:Nat} (h:NumOk rs0 rs k) (x:List Rn):NumOk rs0 (rs++x) k:=by
 rcases h with h | ⟨h0,r,h1,h2⟩
 ·exact .inl h
 ·exact .inr ⟨h0,r,getElem?_app h1 x,h2⟩
theorem LN_eq {rs:List Rn} {R:Re} {k:Nat} (h:Dr rs R (k:Int)):LN rs k=R.L:=Lang.ext fun w=>⟨fun ⟨R',h1,h2⟩=>by rw [Dr.same h h1];exact h2,fun hw=>⟨R,h,hw⟩⟩
theorem LN_app {rs:List Rn} {k:Nat} (h:NdOk rs k) (x:List Rn):LN (rs++x) k=LN rs k:=by
 obtain ⟨R,hR⟩:=h
 rw [LN_eq hR,LN_eq (hR.app x)]
theorem tmL_app {rs:List Rn} (x:List Rn):∀ {s:List Nat},(∀ k∈s,NdOk rs k)→tmL (rs++x) s=tmL rs s
 | [],_=>rfl
 | k ::s,h=>by rw [tmL,tmL,LN_app (h k (by simp)) x,tmL_app x fun k hk=>h k (by simp [hk])]
structure VSet (rs0 rs:List Rn) (U:List (List Nm)) (X:List ByteArray):Prop where
 srt:SrtS X
 inu:InU rs0 rs U X
 num:∀ s∈X,∀ k∈bytesN s,NumOk rs0 rs k
def stB (rs:List Rn) (X:List ByteArray):Lang:=fun w=>∃ s∈X,tmL rs (bytesN s) w
theorem VSet.grow {rs0 rs:List Rn} {U:List (List Nm)} {X:List ByteArray} (h:VSet rs0 rs U X) (x:List Rn):VSet rs0 (rs++x) U X:=⟨h.srt,fun s hs=>(h.inu s hs).grow x,fun s hs k hk=>(h.num s hs k hk).grow x⟩
theorem VSet.mono {rs0 rs:List Rn} {U U':List (List Nm)} {X:List ByteArray} (h:VSet rs0 rs U X) (hU:∀ u∈U,u∈U'):VSet rs0 rs U' X:=⟨h.srt,fun s hs=>⟨(h.inu s hs).1,hU _ (h.inu s hs).2⟩,h.num⟩
theorem VSet.nil (rs0 rs:List Rn) (U:List (List Nm)):VSet rs0 rs U []:=⟨List.Pairwise.nil,(fun s h=>by cases h),(fun s h=>by cases h)⟩
theorem stB_app {rs0 rs:List Rn} (hg:GrowT rs0 rs) {U:List (List Nm)} {X:List ByteArray} (h:VSet rs0 rs U X) (x:List Rn):stB (rs++x) X=stB rs X:=Lang.ext fun w=>by
 constructor
 ·rintro ⟨s,h1,h2⟩
  rw [tmL_app x fun k hk=>(h.num s h1 k hk).nd hg] at h2
  exact ⟨s,h1,h2⟩
 ·rintro ⟨s,h1,h2⟩
  rw [←tmL_app x fun k hk=>(h.num s h1 k hk).nd hg] at h2
  exact ⟨s,h1,h2⟩
theorem stB_nil (rs:List Rn):stB rs []=voidL:=Lang.ext fun w=>⟨(fun ⟨s,h,_⟩=>by cases h),fun h=>h.elim⟩
theorem VSet.len {rs0 rs:List Rn} (hg:GrowT rs0 rs) {U:List (List Nm)} {X:List ByteArray} (h:VSet rs0 rs U X):X.length≤U.length:=by
 refine Nat.le_of_not_lt fun hlt=>?_
 have hc:∀ i,i≤U.length→∃ j s,X[i]?=some s∧j < U.length∧U[j]?=some (nmS rs0 rs s):=fun i hi=>by
  have hl:i < X.length:=by omega
  obtain ⟨j,h1,h2⟩:=mem_pos (h.inu _ (List.getElem_mem hl)).2
  exact ⟨j,_,List.getElem?_eq_getElem hl,h1,h2⟩
 obtain ⟨i,j,hij,hj,e⟩:=pigeon U.length (fun i=>if hi:i≤U.length then Classical.choose (hc i hi) else 0) fun i hi=>by
  simp only [dif_pos hi]
  obtain ⟨s,_,g,_⟩:=Classical.choose_spec (hc i hi)
  exact g
 simp only [dif_pos (show i≤U.length by omega),dif_pos hj] at e
 obtain ⟨s,a1,a2,a3⟩:=Classical.choose_spec (hc i (by omega))
 obtain ⟨t,b1,b2,b3⟩:=Classical.choose_spec (hc j hj)
 rw [e,b3] at a3
 have hst:=nmS_inj hg.gr (h.inu t (List.mem_of_getElem? b1)) (h.inu s (List.mem_of_getElem? a1)) (by simpa using a3)
 subst hst
 obtain ⟨hi,ei⟩:=List.getElem?_eq_some_iff.1 a1
 obtain ⟨hj',ej⟩:=List.getElem?_eq_some_iff.1 b1
 have:=List.pairwise_iff_getElem.1 h.srt i j hi hj' hij
 rw [ei,ej,lessS_irrefl] at this
 cases this
theorem VSet.size {rs0 rs:List Rn} {R:Re} {k:Nat} {X:List ByteArray} (h:VSet rs0 rs (uni rs0 R k) X):∀ s∈X,s.size≤rdep R:=fun s hs=>by
 have h1:=uni_dep rs0 R k _ (h.inu s hs).2
 unfold nmS at h1
 rw [List.length_map,bytesN_len] at h1
 exact h1
end Go.Proofs.YtobfpgoepaeknaaGreat
