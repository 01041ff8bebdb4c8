/-
  Plain mathematics: regular expressions and the strings that match them.
  Plain mathematics: a part of a pattern as spots that follow one another, and the strings that it matches.
  Plain mathematics: an automaton read byte by byte; the document's relation between the places of a string.
  Plain mathematics: the bytes that a set names, as the reader and as the document's answer take them.
  Plain mathematics: what nodes stand for; how the document's answer joins parts, by what they match and weigh.
  Plain mathematics: what the reader has read matches and weighs what the document's answer makes of it.
  Sets of spots as numbers: move, has, onePart; rows of numbers.
  Parts: onePart, link.
  Parts: onePart, orEmpty, again.
-/
import Derived.Test.YtobfpgoepaeknaaGreatPO04
import Derived.Test.YtobfpgoepaeknaaGreatPO07
import Derived.Laws.BitsAllLaws
import Derived.Deep.RegionHeld3
import Derived.Deep.AppendLies
import Derived.Deep.DrawnRows
namespace Go.Proofs.YtobfpgoepaeknaaGreat
def Lang:Type:=List Nat→Prop
theorem Lang.ext {A B:Lang} (h:∀ w,A w↔B w):A=B:=funext fun w=>propext (h w)
def epsL:Lang:=fun w=>w=[]
def voidL:Lang:=fun _=>False
def catL (A B:Lang):Lang:=fun w=>∃ u v,w=u++v∧A u∧B v
def altL (A B:Lang):Lang:=fun w=>A w∨B w
def pwL (A:Lang):Nat→Lang
 | 0=>epsL
 | k+1=>catL A (pwL A k)
def starL (A:Lang):Lang:=fun w=>∃ k,pwL A k w
def plusL (A:Lang):Lang:=fun w=>∃ k,1≤k∧pwL A k w
def optL (A:Lang):Lang:=fun w=>w=[]∨A w
def timesL (m n:Nat) (A:Lang):Lang:=fun w=>∃ k,m≤k∧k≤n∧pwL A k w
def setL (f:Nat→Bool):Lang:=fun w=>∃ b,w=[b]∧f b=true
structure ReA (X:Type) where
 blank:X
 set:(Nat→Bool)→X
 seq:X→X→X
 alt:X→X→X
 star:X→X
 plus:X→X
 opt:X→X
 times:Nat→Nat→X→X
def ReC:Type 1:=∀ X:Type,ReA X→X
section
def ReC.blank:ReC:=fun _ A=>A.blank
def ReC.set (f:Nat→Bool):ReC:=fun _ A=>A.set f
def ReC.seq (a b:ReC):ReC:=fun X A=>A.seq (a X A) (b X A)
def ReC.alt (a b:ReC):ReC:=fun X A=>A.alt (a X A) (b X A)
def ReC.star (a:ReC):ReC:=fun X A=>A.star (a X A)
def ReC.plus (a:ReC):ReC:=fun X A=>A.plus (a X A)
def ReC.opt (a:ReC):ReC:=fun X A=>A.opt (a X A)
def ReC.times (m n:Nat) (a:ReC):ReC:=fun X A=>A.times m n (a X A)
def ReC.Made (r:ReC):Prop:=∀ P:ReC→Prop,P ReC.blank→(∀ f,P (ReC.set f))→(∀ a b,P a→P b→P (ReC.seq a b))→(∀ a b,P a→P b→P (ReC.alt a b)) →
 (∀ a,P a→P (ReC.star a))→(∀ a,P a→P (ReC.plus a))→(∀ a,P a→P (ReC.opt a))→(∀ m n a,P a→P (ReC.times m n a))→P r
end
structure Re where
 c:ReC
 made:c.Made
def Re.blank:Re:=⟨ReC.blank,fun _ h _ _ _ _ _ _ _=>h⟩
def Re.set (f:Nat→Bool):Re:=⟨ReC.set f,fun _ _ h _ _ _ _ _ _=>h f⟩
def Re.seq (a b:Re):Re:=⟨ReC.seq a.c b.c,fun P h1 h2 h3 h4 h5 h6 h7 h8=>h3 _ _ (a.made P h1 h2 h3 h4 h5 h6 h7 h8) (b.made P h1 h2 h3 h4 h5 h6 h7 h8)⟩
def Re.alt (a b:Re):Re:=⟨ReC.alt a.c b.c,fun P h1 h2 h3 h4 h5 h6 h7 h8=>h4 _ _ (a.made P h1 h2 h3 h4 h5 h6 h7 h8) (b.made P h1 h2 h3 h4 h5 h6 h7 h8)⟩
def Re.star (a:Re):Re:=⟨ReC.star a.c,fun P h1 h2 h3 h4 h5 h6 h7 h8=>h5 _ (a.made P h1 h2 h3 h4 h5 h6 h7 h8)⟩
def Re.plus (a:Re):Re:=⟨ReC.plus a.c,fun P h1 h2 h3 h4 h5 h6 h7 h8=>h6 _ (a.made P h1 h2 h3 h4 h5 h6 h7 h8)⟩
def Re.opt (a:Re):Re:=⟨ReC.opt a.c,fun P h1 h2 h3 h4 h5 h6 h7 h8=>h7 _ (a.made P h1 h2 h3 h4 h5 h6 h7 h8)⟩
def Re.times (m n:Nat) (a:Re):Re:=⟨ReC.times m n a.c,fun P h1 h2 h3 h4 h5 h6 h7 h8=>h8 _ _ _ (a.made P h1 h2 h3 h4 h5 h6 h7 h8)⟩
def Re.fold {X:Type} (A:ReA X) (r:Re):X:=r.c X A
theorem Re.ind {P:Re→Prop} (blank:P Re.blank) (set:∀ f,P (Re.set f)) (seq:∀ a b,P a→P b→P (Re.seq a b)) (alt:∀ a b,P a→P b→P (Re.alt a b))
  (star:∀ a,P a→P (Re.star a)) (plus:∀ a,P a→P (Re.plus a)) (opt:∀ a,P a→P (Re.opt a)) (times:∀ m n a,P a→P (Re.times m n a)) (r:Re):P r:=by
 obtain ⟨h,p⟩:=r.made (fun c=>∃ h:c.Made,P ⟨c,h⟩) ⟨_,blank⟩ (fun f=>⟨_,set f⟩) (fun a b ⟨ha,pa⟩ ⟨hb,pb⟩=>⟨_,seq ⟨a,ha⟩ ⟨b,hb⟩ pa pb⟩) (fun a b ⟨ha,pa⟩ ⟨hb,pb⟩=>⟨_,alt ⟨a,ha⟩ ⟨b,hb⟩ pa pb⟩)
  (fun a ⟨ha,pa⟩=>⟨_,star ⟨a,ha⟩ pa⟩) (fun a ⟨ha,pa⟩=>⟨_,plus ⟨a,ha⟩ pa⟩) (fun a ⟨ha,pa⟩=>⟨_,opt ⟨a,ha⟩ pa⟩) (fun m n a ⟨ha,pa⟩=>⟨_,times m n ⟨a,ha⟩ pa⟩)
 exact p
def Re.L:Re→Lang:=Re.fold ⟨epsL,setL,catL,altL,starL,plusL,optL,timesL⟩
def Re.wt:Re→Int:=Re.fold ⟨1,fun _=>1,fun a b=>a+b,fun a b=>a+b,fun a=>a,fun a=>a,fun a=>a,fun _ n a=>max1 (a * (n:Int))⟩
theorem Re.wt_seq (a b:Re):(Re.seq a b).wt=a.wt+b.wt:=rfl
theorem Re.wt_alt (a b:Re):(Re.alt a b).wt=a.wt+b.wt:=rfl
theorem Re.wt_times (m n:Nat) (a:Re):(Re.times m n a).wt=max1 (a.wt * (n:Int)):=rfl
theorem Re.wt_pos:∀ r:Re,1≤r.wt :=
 Re.ind (Int.le_refl 1) (fun _=>Int.le_refl 1) (fun a b ha hb=>by rw [Re.wt_seq];omega) (fun a b ha hb=>by rw [Re.wt_alt];omega) (fun _ h=>h) (fun _ h=>h) (fun _ h=>h)
  (fun m n a _=>by rw [Re.wt_times];unfold max1;split<;>omega)
theorem catL_assoc (A B C:Lang):catL (catL A B) C=catL A (catL B C):=by
 refine Lang.ext fun w=>⟨?_,?_⟩
 ·rintro ⟨u,v,rfl,⟨x,y,rfl,hx,hy⟩,hv⟩
  exact ⟨x,y++v,by simp,hx,y,v,rfl,hy,hv⟩
 ·rintro ⟨u,v,rfl,hu,x,y,rfl,hx,hy⟩
  exact ⟨u++x,y,by simp,⟨u,x,rfl,hu,hx⟩,hy⟩
theorem catL_eps (A:Lang):catL A epsL=A:=by
 refine Lang.ext fun w=>⟨?_,fun h=>⟨w,[],by simp,h,rfl⟩⟩
 rintro ⟨u,v,rfl,hu,hv⟩
 cases (show v=[] from hv);simpa using hu
theorem epsL_cat (A:Lang):catL epsL A=A:=by
 refine Lang.ext fun w=>⟨?_,fun h=>⟨[],w,by simp,rfl,h⟩⟩
 rintro ⟨u,v,rfl,hu,hv⟩
 cases (show u=[] from hu);simpa using hv
theorem altL_assoc (A B C:Lang):altL (altL A B) C=altL A (altL B C):=Lang.ext fun _=>or_assoc
theorem altL_void (A:Lang):altL A voidL=A:=Lang.ext fun _=>⟨fun h=>h.elim id False.elim,Or.inl⟩
theorem pwL_snoc (A:Lang):∀ k,pwL A (k+1)=catL (pwL A k) A
 | 0=>by show catL A epsL=catL epsL A;rw [catL_eps,epsL_cat]
 | k+1=>by
  show catL A (pwL A (k+1))=catL (catL A (pwL A k)) A
  rw [pwL_snoc A k,catL_assoc]
theorem pwL_one (A:Lang):pwL A 1=A:=catL_eps A
theorem pwL_add (A:Lang) (a:Nat):∀ b,pwL A (a+b)=catL (pwL A a) (pwL A b)
 | 0=>(catL_eps _).symm
 | b+1=>by
  rw [←Nat.add_assoc,pwL_snoc,pwL_snoc A b,pwL_add A a b,catL_assoc]
theorem pwL_opt (A:Lang):∀ d,pwL (optL A) d=timesL 0 d A
 | 0=>Lang.ext fun w=>⟨fun h=>⟨0,Nat.le_refl _,Nat.le_refl _,h⟩,fun ⟨k,_,hk,h⟩=>by
   obtain rfl:k=0:=by omega
   exact h⟩
 | d+1=>by
  refine Lang.ext fun w=>⟨?_,?_⟩
  ·rintro ⟨u,v,rfl,hu,hv⟩
   rw [pwL_opt A d] at hv
   obtain ⟨k,_,hk,h⟩:=hv
   rcases hu with rfl | hu
   ·exact ⟨k,Nat.zero_le _,by omega,by simpa using h⟩
   ·exact ⟨k+1,Nat.zero_le _,by omega,u,v,rfl,hu,h⟩
  ·rintro ⟨k,_,hk,h⟩
   cases k with
   | zero=>exact ⟨[],w,rfl,Or.inl rfl,by rw [pwL_opt A d];exact ⟨0,Nat.le_refl _,Nat.zero_le _,h⟩⟩
   | succ k =>
    obtain ⟨u,v,rfl,hu,hv⟩:=h
    exact ⟨u,v,rfl,Or.inr hu,by rw [pwL_opt A d];exact ⟨k,Nat.zero_le _,by omega,hv⟩⟩
theorem timesL_split (A:Lang) {m n:Nat} (h:m≤n):catL (pwL A m) (pwL (optL A) (n - m))=timesL m n A:=by
 rw [pwL_opt]
 refine Lang.ext fun w=>⟨?_,?_⟩
 ·rintro ⟨u,v,rfl,hu,k,_,hk,hv⟩
  exact ⟨m+k,by omega,by omega,by rw [pwL_add];exact ⟨u,v,rfl,hu,hv⟩⟩
 ·rintro ⟨k,h1,h2,hk⟩
  rw [show k=m+(k - m) from by omega,pwL_add] at hk
  obtain ⟨u,v,rfl,hu,hv⟩:=hk
  exact ⟨u,v,rfl,hu,k - m,Nat.zero_le _,by omega,hv⟩
theorem timesL_void (A:Lang) {m n:Nat} (h:n < m):timesL m n A=voidL :=
 Lang.ext fun _=>⟨fun ⟨k,h1,h2,_⟩=>absurd h (by omega),False.elim⟩
theorem timesL_nil (A:Lang):timesL 0 0 A=epsL:=by rw [←pwL_opt];rfl
end Go.Proofs.YtobfpgoepaeknaaGreat
namespace Go.Proofs.YtobfpgoepaeknaaGreat
structure Part where
 empty:Bool
 first:Nat
 last:Nat
 next:List Nat
 sets:List (Nat→Bool)
def Part.nx (p:Part) (i j:Nat):Prop:=∃ x,p.next[i]?=some x∧x.testBit j=true
def Part.st (p:Part) (j b:Nat):Prop:=∃ f,p.sets[j]?=some f∧f b=true
def Part.acc (p:Part):Nat→List Nat→Prop
 | i,[]=>p.last.testBit i=true
 | i,b ::w=>∃ j,p.nx i j∧p.st j b∧p.acc j w
def Part.L (p:Part):Lang
 | []=>p.empty=true
 | b ::w=>∃ j,p.first.testBit j=true∧p.st j b∧p.acc j w
def Part.Ok (p:Part):Prop :=
 p.sets.length=p.next.length∧p.first < 2 ^ p.next.length∧p.last < 2 ^ p.next.length∧∀ x∈p.next,x < 2 ^ p.next.length
theorem bit_lt {x n j:Nat} (h:x < 2 ^ n) (hj:x.testBit j=true):j < n:=by
 rcases Nat.lt_or_ge j n with h1 | h1
 ·exact h1
 ·rw [Nat.testBit_lt_two_pow (Nat.lt_of_lt_of_le h (Nat.pow_le_pow_right (by omega) h1))] at hj;cases hj
theorem Part.Ok.first_lt {p:Part} (h:p.Ok) {j:Nat} (hj:p.first.testBit j=true):j < p.next.length:=bit_lt h.2.1 hj
theorem Part.Ok.last_lt {p:Part} (h:p.Ok) {j:Nat} (hj:p.last.testBit j=true):j < p.next.length:=bit_lt h.2.2.1 hj
theorem Part.Ok.nx_lt {p:Part} (h:p.Ok) {i j:Nat} (hj:p.nx i j):i < p.next.length∧j < p.next.length:=by
 obtain ⟨x,hx,hj⟩:=hj
 exact ⟨(List.getElem?_eq_some_iff.1 hx).1,bit_lt (h.2.2.2 x (List.mem_of_getElem? hx)) hj⟩
def linkN (next:List Nat) (from' to:Nat):List Nat:=next.mapIdx fun i x=>if from'.testBit i then x ||| to else x
def besideN (a b:Part):Part :=
 ⟨a.empty || b.empty,a.first ||| (b.first * 2 ^ a.next.length),a.last ||| (b.last * 2 ^ a.next.length),linkN a.next 0 0++b.next.map (· * 2 ^ a.next.length),a.sets++b.sets⟩
def behindN (a b:Part):Part :=
 ⟨a.empty && b.empty,if a.empty then (besideN a b).first else a.first,if b.empty then (besideN a b).last else b.last * 2 ^ a.next.length,
  linkN (besideN a b).next a.last (b.first * 2 ^ a.next.length),a.sets++b.sets⟩
def againN (a:Part):Part:=⟨a.empty,a.first,a.last,linkN a.next a.last a.first,a.sets⟩
def orEmptyN (a:Part):Part:=⟨true,a.first,a.last,a.next,a.sets⟩
def oneN (f:Nat→Bool):Part:=⟨false,1,1,[0],[f]⟩
def emptyN:Part:=⟨true,0,0,[],[]⟩
def voidN:Part:=⟨false,0,0,[],[]⟩
def repeatN (a:Part) (low:Nat):Nat→Part
 | 0=>emptyN
 | k+1=>behindN (repeatN a low k) (if k < low then a else orEmptyN a)
theorem linkN_length (n:List Nat) (f t:Nat):(linkN n f t).length=n.length:=by simp [linkN]
theorem linkN_zero (n:List Nat):linkN n 0 0=n:=by
 unfold linkN
 apply List.ext_getElem? ;intro i
 simp [List.getElem?_mapIdx]
theorem linkN_nx (n:List Nat) (f t i j:Nat):(∃ x,(linkN n f t)[i]?=some x∧x.testBit j=true)↔(∃ x,n[i]?=some x∧x.testBit j=true)∨(i < n.length∧f.testBit i=true∧t.testBit j=true):=by
 unfold linkN
 rw [List.getElem?_mapIdx]
 by_cases hi:i < n.length
 ·rw [List.getElem?_eq_getElem hi]
  simp only [Option.map_some,Option.some.injEq,exists_eq_left']
  by_cases hf:f.testBit i=true
  ·rw [if_pos hf,Nat.testBit_or,Bool.or_eq_true];simp [hf,hi]
  ·rw [if_neg hf];simp [hf]
 ·rw [List.getElem?_eq_none (by omega)];simp;intro h;omega
theorem bit_move (x n j:Nat):(x * 2 ^ n).testBit j=true↔n≤j∧x.testBit (j - n)=true:=by
 rw [Nat.testBit_mul_two_pow];simp
theorem move_lt {x n m:Nat} (h:x < 2 ^ m):x * 2 ^ n < 2 ^ (n+m):=by
 rw [Nat.pow_add,Nat.mul_comm (2 ^ n)];exact (Nat.mul_lt_mul_right (Nat.two_pow_pos n)).2 h
theorem grow_lt {x n m:Nat} (h:x < 2 ^ n):x < 2 ^ (n+m):=Nat.lt_of_lt_of_le h (Nat.pow_le_pow_right (by omega) (by omega))
theorem linkN_lt {n:List Nat} {f t N:Nat} (h:∀ x∈n,x < 2 ^ N) (ht:t < 2 ^ N):∀ x∈linkN n f t,x < 2 ^ N:=by
 intro x hx
 unfold linkN at hx
 rw [List.mem_mapIdx] at hx
 obtain ⟨i,hi,rfl⟩:=hx
 split
 ·exact Nat.or_lt_two_pow (h _ (List.getElem_mem _)) ht
 ·exact h _ (List.getElem_mem _)
theorem besideN_len (a b:Part):(besideN a b).next.length=a.next.length+b.next.length:=by simp [besideN,linkN_length]
theorem besideN_ok {a b:Part} (ha:a.Ok) (hb:b.Ok):(besideN a b).Ok:=by
 refine ⟨?_,?_,?_,?_⟩
 ·rw [besideN_len];simp [besideN,ha.1,hb.1]
 ·rw [besideN_len];exact Nat.or_lt_two_pow (grow_lt ha.2.1) (move_lt hb.2.1)
 ·rw [besideN_len];exact Nat.or_lt_two_pow (grow_lt ha.2.2.1) (move_lt hb.2.2.1)
 ·rw [besideN_len]
  intro x hx
  simp only [besideN,linkN_zero,List.mem_append,List.mem_map] at hx
  rcases hx with hx | ⟨y,hy,rfl⟩
  ·exact grow_lt (ha.2.2.2 x hx)
  ·exact move_lt (hb.2.2.2 y hy)
theorem behindN_len (a b:Part):(behindN a b).next.length=a.next.length+b.next.length:=by simp [behindN,linkN_length,besideN_len]
theorem behindN_ok {a b:Part} (ha:a.Ok) (hb:b.Ok):(behindN a b).Ok:=by
 have h:=besideN_ok ha hb
 have e:=besideN_len a b
 refine ⟨?_,?_,?_,?_⟩
 ·rw [behindN_len];simp [behindN,ha.1,hb.1]
 ·rw [behindN_len];simp only [behindN];split
  ·rw [←e];exact h.2.1
  ·exact grow_lt ha.2.1
 ·rw [behindN_len];simp only [behindN];split
  ·rw [←e];exact h.2.2.1
  ·exact move_lt hb.2.2.1
 ·rw [behindN_len]
  exact linkN_lt (by rw [←e];exact h.2.2.2) (move_lt hb.2.1)
theorem againN_ok {a:Part} (ha:a.Ok):(againN a).Ok:=by
 refine ⟨?_,?_,?_,?_⟩<;>simp only [againN,linkN_length]
 ·exact ha.1
 ·exact ha.2.1
 ·exact ha.2.2.1
 ·exact linkN_lt ha.2.2.2 ha.2.1
theorem orEmptyN_ok {a:Part} (ha:a.Ok):(orEmptyN a).Ok:=ha
theorem oneN_ok (f:Nat→Bool):(oneN f).Ok:=⟨rfl,(by decide:1 < 2 ^ 1),(by decide:1 < 2 ^ 1),by intro x hx;simp [oneN] at hx;subst hx;exact (by decide:0 < 2 ^ 1)⟩
theorem emptyN_ok:emptyN.Ok:=⟨rfl,by decide,by decide,by intro x hx;simp [emptyN] at hx⟩
theorem voidN_ok:voidN.Ok:=⟨rfl,by decide,by decide,by intro x hx;simp [voidN] at hx⟩
theorem repeatN_ok {a:Part} (ha:a.Ok) (low:Nat):∀ k,(repeatN a low k).Ok
 | 0=>emptyN_ok
 | k+1=>by
  rw [repeatN]
  refine behindN_ok (repeatN_ok ha low k) ?_
  split
  ·exact ha
  ·exact ha
theorem repeatN_len (a:Part) (low:Nat):∀ k,(repeatN a low k).next.length=a.next.length * k
 | 0=>rfl
 | k+1=>by
  rw [repeatN,behindN_len,repeatN_len a low k,Nat.mul_succ]
  split<;>rfl
theorem beside_nx_l {a b:Part} {i j:Nat} (hi:i < a.next.length):(besideN a b).nx i j↔a.nx i j:=by
 simp only [Part.nx,besideN,linkN_zero]
 rw [List.getElem?_append_left hi]
theorem beside_nx_r {a b:Part} {i j:Nat}:(besideN a b).nx (a.next.length+i) j↔∃ k,j=a.next.length+k∧b.nx i k:=by
 simp only [Part.nx,besideN,linkN_zero]
 rw [List.getElem?_append_right (by omega),show a.next.length+i - a.next.length=i from by omega,List.getElem?_map]
 constructor
 ·rintro ⟨x,hx,hj⟩
  rw [Option.map_eq_some_iff] at hx
  obtain ⟨y,hy,rfl⟩:=hx
  rw [bit_move] at hj
  exact ⟨j - a.next.length,by omega,y,hy,hj.2⟩
 ·rintro ⟨k,rfl,y,hy,hk⟩
  refine ⟨y * 2 ^ a.next.length,by rw [hy];rfl,?_⟩
  rw [bit_move];exact ⟨by omega,by rw [show a.next.length+k - a.next.length=k from by omega];exact hk⟩
theorem sets_l {a b:Part} {j c:Nat} (ha:a.Ok) (hj:j < a.next.length):(∃ f,(a.sets++b.sets)[j]?=some f∧f c=true)↔a.st j c:=by
 rw [List.getElem?_append_left (by rw [ha.1];exact hj)];rfl
theorem sets_r {a b:Part} {j c:Nat} (ha:a.Ok):(∃ f,(a.sets++b.sets)[a.next.length+j]?=some f∧f c=true)↔b.st j c:=by
 rw [List.getElem?_append_right (by rw [ha.1];omega),ha.1,show a.next.length+j - a.next.length=j from by omega];rfl
theorem or_move_l {x y n j:Nat} (hj:j < n):(x ||| y * 2 ^ n).testBit j=true↔x.testBit j=true:=by
 rw [Nat.testBit_or,Bool.or_eq_true,bit_move];constructor
 ·rintro (h | ⟨h,_⟩)
  ·exact h
  ·omega
 ·exact Or.inl
theorem or_move_r {x y n j:Nat} (hx:x < 2 ^ n):(x ||| y * 2 ^ n).testBit (n+j)=true↔y.testBit j=true:=by
 rw [Nat.testBit_or,Bool.or_eq_true,bit_move,show n+j - n=j from by omega];constructor
 ·rintro (h | ⟨_,h⟩)
  ·have:=bit_lt hx h;omega
  ·exact h
 ·exact fun h=>Or.inr ⟨by omega,h⟩
theorem beside_acc_l {a b:Part} (ha:a.Ok):∀ (w:List Nat) (i:Nat),i < a.next.length→((besideN a b).acc i w↔a.acc i w)
 | [],i,hi=>or_move_l hi
 | c ::w,i,hi=>by
  simp only [Part.acc]
  constructor
  ·rintro ⟨j,h1,h2,h3⟩
   have h1':=(beside_nx_l hi).1 h1
   have hj:=(ha.nx_lt h1').2
   exact ⟨j,h1',(sets_l ha hj).1 h2,(beside_acc_l ha w j hj).1 h3⟩
  ·rintro ⟨j,h1,h2,h3⟩
   have hj:=(ha.nx_lt h1).2
   exact ⟨j,(beside_nx_l hi).2 h1,(sets_l ha hj).2 h2,(beside_acc_l ha w j hj).2 h3⟩
theorem beside_acc_r {a b:Part} (ha:a.Ok):∀ (w:List Nat) (i:Nat),((besideN a b).acc (a.next.length+i) w↔b.acc i w)
 | [],i=>or_move_r ha.2.2.1
 | c ::w,i=>by
  simp only [Part.acc]
  constructor
  ·rintro ⟨j,h1,h2,h3⟩
   obtain ⟨k,rfl,hk⟩:=beside_nx_r.1 h1
   exact ⟨k,hk,(sets_r ha).1 h2,(beside_acc_r ha w k).1 h3⟩
  ·rintro ⟨k,h1,h2,h3⟩
   exact ⟨_,beside_nx_r.2 ⟨k,rfl,h1⟩,(sets_r ha).2 h2,(beside_acc_r ha w k).2 h3⟩
theorem spot_cases (n j:Nat):j < n∨∃ k,j=n+k:=by
 rcases Nat.lt_or_ge j n with h | h
 ·exact Or.inl h
 ·exact Or.inr ⟨j - n,by omega⟩
theorem beside_L {a b:Part} (ha:a.Ok):(besideN a b).L=altL a.L b.L:=by
 refine Lang.ext fun w=>?_
 cases w with
 | nil=>simp [Part.L,besideN,altL]
 | cons c w =>
  constructor
  ·rintro ⟨j,h1,h2,h3⟩
   rcases spot_cases a.next.length j with hj | ⟨k,rfl⟩
   ·exact Or.inl ⟨j,(or_move_l hj).1 h1,(sets_l ha hj).1 h2,(beside_acc_l ha w j hj).1 h3⟩
   ·exact Or.inr ⟨k,(or_move_r ha.2.1).1 h1,(sets_r ha).1 h2,(beside_acc_r ha w k).1 h3⟩
  ·rintro (⟨j,h1,h2,h3⟩ | ⟨k,h1,h2,h3⟩)
   ·have hj:=ha.first_lt h1
    exact ⟨j,(or_move_l hj).2 h1,(sets_l ha hj).2 h2,(beside_acc_l ha w j hj).2 h3⟩
   ·exact ⟨_,(or_move_r ha.2.1).2 h1,(sets_r ha).2 h2,(beside_acc_r ha w k).2 h3⟩
theorem behind_nx {a b:Part} {i j:Nat}:(behindN a b).nx i j↔(besideN a b).nx i j∨(i < a.next.length+b.next.length∧a.last.testBit i=true∧(b.first * 2 ^ a.next.length).testBit j=true):=by
 simp only [Part.nx,behindN]
 rw [linkN_nx,besideN_len]
theorem behind_acc_r {a b:Part} (ha:a.Ok):∀ (w:List Nat) (i:Nat),((behindN a b).acc (a.next.length+i) w↔b.acc i w)
 | [],i=>by
  simp only [Part.acc,behindN]
  split
  ·exact or_move_r ha.2.2.1
  ·rw [bit_move];simp
 | c ::w,i=>by
  simp only [Part.acc]
  constructor
  ·rintro ⟨j,h1,h2,h3⟩
   rcases behind_nx.1 h1 with h1 | ⟨_,h1,_⟩
   ·obtain ⟨k,rfl,hk⟩:=beside_nx_r.1 h1
    exact ⟨k,hk,(sets_r ha).1 h2,(behind_acc_r ha w k).1 h3⟩
   ·have:=ha.last_lt h1;omega
  ·rintro ⟨k,h1,h2,h3⟩
   exact ⟨_,behind_nx.2 (Or.inl (beside_nx_r.2 ⟨k,rfl,h1⟩)),(sets_r ha).2 h2,(behind_acc_r ha w k).2 h3⟩
theorem behind_acc_l {a b:Part} (ha:a.Ok) (hb:b.Ok):∀ (w:List Nat) (i:Nat),i < a.next.length→((behindN a b).acc i w↔catL (a.acc i) b.L w)
 | [],i,hi=>by
  constructor
  ·intro h
   simp only [Part.acc,behindN] at h
   by_cases hbe:b.empty=true
   ·rw [if_pos hbe] at h
    exact ⟨[],[],rfl,(or_move_l hi).1 h,hbe⟩
   ·rw [if_neg hbe,bit_move] at h;omega
  ·rintro ⟨u,v,h,hu,hv⟩
   obtain ⟨rfl,rfl⟩:u=[]∧v=[]:=by simpa using h.symm
   have hbe:b.empty=true:=hv
   simp only [Part.acc,behindN]
   rw [if_pos hbe]
   exact (or_move_l hi).2 hu
 | c ::w,i,hi=>by
  constructor
  ·rintro ⟨j,h1,h2,h3⟩
   rcases behind_nx.1 h1 with h1 | ⟨_,h5,h4⟩
   ·have h1':=(beside_nx_l hi).1 h1
    have hj:=(ha.nx_lt h1').2
    obtain ⟨u,v,rfl,hu,hv⟩:=(behind_acc_l ha hb w j hj).1 h3
    exact ⟨c ::u,v,rfl,⟨j,h1',(sets_l ha hj).1 h2,hu⟩,hv⟩
   ·rw [bit_move] at h4
    obtain ⟨k,rfl⟩:∃ k,j=a.next.length+k:=⟨j - a.next.length,by omega⟩
    rw [show a.next.length+k - a.next.length=k from by omega] at h4
    exact ⟨[],c ::w,rfl,h5,k,h4.2,(sets_r ha).1 h2,(behind_acc_r ha w k).1 h3⟩
  ·rintro ⟨u,v,h,hu,hv⟩
   cases u with
   | nil =>
    simp only [List.nil_append] at h
    subst h
    obtain ⟨k,h1,h2,h3⟩:=hv
    refine ⟨a.next.length+k,behind_nx.2 (Or.inr ⟨by omega,hu,?_⟩),(sets_r ha).2 h2,(behind_acc_r ha w k).2 h3⟩
    rw [bit_move];exact ⟨by omega,by rw [show a.next.length+k - a.next.length=k from by omega];exact h1⟩
   | cons d u =>
    simp only [List.cons_append,List.cons.injEq] at h
    obtain ⟨rfl,rfl⟩:=h
    obtain ⟨j,h1,h2,h3⟩:=hu
    have hj:=(ha.nx_lt h1).2
    exact ⟨j,behind_nx.2 (Or.inl ((beside_nx_l hi).2 h1)),(sets_l ha hj).2 h2,(behind_acc_l ha hb _ j hj).2 ⟨u,v,rfl,h3,hv⟩⟩
theorem behind_L {a b:Part} (ha:a.Ok) (hb:b.Ok):(behindN a b).L=catL a.L b.L:=by
 refine Lang.ext fun w=>?_
 cases w with
 | nil =>
  constructor
  ·intro h
   have h':(a.empty && b.empty)=true:=h
   rw [Bool.and_eq_true] at h'
   exact ⟨[],[],rfl,h'.1,h'.2⟩
  ·rintro ⟨u,v,h,hu,hv⟩
   obtain ⟨rfl,rfl⟩:u=[]∧v=[]:=by simpa using h.symm
   show (a.empty && b.empty)=true
   rw [Bool.and_eq_true];exact ⟨hu,hv⟩
 | cons c w =>
  constructor
  ·rintro ⟨j,h1,h2,h3⟩
   rcases spot_cases a.next.length j with hj | ⟨k,rfl⟩
   ·have hf:a.first.testBit j=true:=by
     simp only [behindN] at h1
     split at h1
     ·exact (or_move_l hj).1 h1
     ·exact h1
    obtain ⟨u,v,rfl,hu,hv⟩:=(behind_acc_l ha hb w j hj).1 h3
    exact ⟨c ::u,v,rfl,⟨j,hf,(sets_l ha hj).1 h2,hu⟩,hv⟩
   ·simp only [behindN] at h1
    split at h1
    ·rename_i he
     exact ⟨[],c ::w,rfl,he,k,(or_move_r ha.2.1).1 h1,(sets_r ha).1 h2,(behind_acc_r ha w k).1 h3⟩
    ·have:=ha.first_lt h1;omega
  ·rintro ⟨u,v,h,hu,hv⟩
   cases u with
   | nil =>
    simp only [List.nil_append] at h
    subst h
    obtain ⟨k,h1,h2,h3⟩:=hv
    have he:a.empty=true:=hu
    refine ⟨a.next.length+k,?_,(sets_r ha).2 h2,(behind_acc_r ha w k).2 h3⟩
    simp only [behindN]
    rw [if_pos he]
    exact (or_move_r ha.2.1).2 h1
   | cons d u =>
    simp only [List.cons_append,List.cons.injEq] at h
    obtain ⟨rfl,rfl⟩:=h
    obtain ⟨j,h1,h2,h3⟩:=hu
    have hj:=ha.first_lt h1
    refine ⟨j,?_,(sets_l ha hj).2 h2,(behind_acc_l ha hb _ j hj).2 ⟨u,v,rfl,h3,hv⟩⟩
    simp only [behindN]
    split
    ·exact (or_move_l hj).2 h1
    ·exact h1
theorem again_nx {a:Part} {i j:Nat}:(againN a).nx i j↔a.nx i j∨(i < a.next.length∧a.last.testBit i=true∧a.first.testBit j=true):=by
 simp only [Part.nx,againN]
 rw [linkN_nx]
theorem again_acc_of {a:Part}:∀ (w:List Nat) (i:Nat),(againN a).acc i w→∃ u v,w=u++v∧a.acc i u∧starL a.L v
 | [],i,h=>⟨[],[],rfl,h,0,rfl⟩
 | c ::w,i,h=>by
  obtain ⟨j,h1,h2,h3⟩:=h
  obtain ⟨u,v,rfl,hu,k,hv⟩:=again_acc_of w j h3
  rcases again_nx.1 h1 with h1 | ⟨_,h1,h4⟩
  ·exact ⟨c ::u,v,rfl,⟨j,h1,h2,hu⟩,k,hv⟩
  ·exact ⟨[],c ::(u++v),rfl,h1,k+1,c ::u,v,rfl,⟨j,h4,h2,hu⟩,hv⟩
theorem again_acc_self {a:Part}:∀ (u:List Nat) (i:Nat),a.acc i u→(againN a).acc i u
 | [],_,h=>h
 | c ::w,i,h=>by
  obtain ⟨j,h1,h2,h3⟩:=h
  exact ⟨j,again_nx.2 (Or.inl h1),h2,again_acc_self w j h3⟩
theorem again_acc_mk {a:Part} (ha:a.Ok):∀ (k:Nat) (u v:List Nat) (i:Nat),a.acc i u→pwL a.L k v→(againN a).acc i (u++v)
 | 0,u,v,i,hu,hv=>by
  cases (show v=[] from hv)
  rw [List.append_nil];exact again_acc_self u i hu
 | k+1,u,v,i,hu,hv=>by
  obtain ⟨x,y,rfl,hx,hy⟩:=hv
  cases x with
  | nil=>exact again_acc_mk ha k u y i hu hy
  | cons c x =>
   obtain ⟨j,h1,h2,h3⟩:=hx
   have h4:=again_acc_mk ha k x y j h3 hy
   have go:∀ (u:List Nat) (i:Nat),a.acc i u→(againN a).acc i (u++(c ::x++y)):=by
    intro u
    induction u with
    | nil=>intro i hi;exact ⟨j,again_nx.2 (Or.inr ⟨ha.last_lt hi,hi,h1⟩),h2,h4⟩
    | cons d u ih =>
     intro i hi
     obtain ⟨j',g1,g2,g3⟩:=hi
     exact ⟨j',again_nx.2 (Or.inl g1),g2,ih j' g3⟩
   exact go u i hu
theorem again_L {a:Part} (ha:a.Ok):(againN a).L=plusL a.L:=by
 refine Lang.ext fun w=>?_
 cases w with
 | nil =>
  constructor
  ·intro h;exact ⟨1,Nat.le_refl _,by rw [pwL_one];exact h⟩
  ·rintro ⟨k,hk,h⟩
   obtain ⟨k,rfl⟩:∃ k',k=k'+1:=⟨k - 1,by omega⟩
   obtain ⟨u,v,h,hu,hv⟩:=h
   obtain ⟨rfl,rfl⟩:u=[]∧v=[]:=by simpa using h.symm
   exact hu
 | cons c w =>
  constructor
  ·rintro ⟨j,h1,h2,h3⟩
   obtain ⟨u,v,rfl,hu,k,hv⟩:=again_acc_of w j h3
   exact ⟨k+1,by omega,c ::u,v,rfl,⟨j,h1,h2,hu⟩,hv⟩
  ·rintro ⟨k,_,h⟩
   have go:∀ k,pwL a.L k (c ::w)→(againN a).L (c ::w):=by
    intro k
    induction k with
    | zero=>intro h;cases (show c ::w=[] from h)
    | succ k ih =>
     rintro ⟨u,v,h,hu,hv⟩
     cases u with
     | nil=>simp only [List.nil_append] at h;subst h;exact ih hv
     | cons d u =>
      simp only [List.cons_append,List.cons.injEq] at h
      obtain ⟨rfl,rfl⟩:=h
      obtain ⟨j,h1,h2,h3⟩:=hu
      exact ⟨j,h1,h2,again_acc_mk ha k u v j h3 hv⟩
   exact go k h
theorem orEmpty_acc (a:Part):∀ (w:List Nat) (i:Nat),(orEmptyN a).acc i w↔a.acc i w
 | [],_=>Iff.rfl
 | c ::w,i=>by
  simp only [Part.acc]
  constructor
  ·rintro ⟨j,h1,h2,h3⟩;exact ⟨j,h1,h2,(orEmpty_acc a w j).1 h3⟩
  ·rintro ⟨j,h1,h2,h3⟩;exact ⟨j,h1,h2,(orEmpty_acc a w j).2 h3⟩
theorem orEmpty_L (a:Part):(orEmptyN a).L=optL a.L:=by
 refine Lang.ext fun w=>?_
 cases w with
 | nil=>exact ⟨fun _=>Or.inl rfl,fun _=>rfl⟩
 | cons c w =>
  constructor
  ·rintro ⟨j,h1,h2,h3⟩;exact Or.inr ⟨j,h1,h2,(orEmpty_acc a w j).1 h3⟩
  ·rintro (h | ⟨j,h1,h2,h3⟩)
   ·cases h
   ·exact ⟨j,h1,h2,(orEmpty_acc a w j).2 h3⟩
theorem star_L {a:Part} (ha:a.Ok):(orEmptyN (againN a)).L=starL a.L:=by
 rw [orEmpty_L,again_L ha]
 refine Lang.ext fun w=>⟨?_,?_⟩
 ·rintro (rfl | ⟨k,_,h⟩)
  ·exact ⟨0,rfl⟩
  ·exact ⟨k,h⟩
 ·rintro ⟨k,h⟩
  cases k with
  | zero=>exact Or.inl h
  | succ k=>exact Or.inr ⟨k+1,by omega,h⟩
theorem bit_one {j:Nat}:Nat.testBit 1 j=true↔j=0:=by
 constructor
 ·intro h;have:=bit_lt (n:=1) (by decide) h;omega
 ·rintro rfl;rfl
theorem one_acc (f:Nat→Bool) (w:List Nat):(oneN f).acc 0 w↔w=[]:=by
 cases w with
 | nil=>simp [Part.acc,oneN]
 | cons c w =>
  constructor
  ·rintro ⟨j,⟨x,hx,hj⟩,_⟩
   simp [oneN] at hx;subst hx;simp at hj
  ·intro h;cases h
theorem one_L (f:Nat→Bool):(oneN f).L=setL f:=by
 refine Lang.ext fun w=>?_
 cases w with
 | nil =>
  constructor
  ·intro h;cases (show false=true from h)
  ·rintro ⟨b,h,_⟩;cases h
 | cons c w =>
  constructor
  ·rintro ⟨j,h1,⟨g,h2,h4⟩,h3⟩
   obtain rfl:j=0:=bit_one.1 h1
   simp [oneN] at h2;subst h2
   obtain rfl:=(one_acc f w).1 h3
   exact ⟨c,rfl,h4⟩
  ·rintro ⟨b,h,hf⟩
   simp only [List.cons.injEq] at h
   obtain ⟨rfl,rfl⟩:=h
   exact ⟨0,by simp [oneN],⟨f,by simp [oneN],hf⟩,(one_acc f []).2 rfl⟩
theorem empty_L:emptyN.L=epsL:=by
 refine Lang.ext fun w=>?_
 cases w with
 | nil=>exact ⟨fun _=>rfl,fun _=>rfl⟩
 | cons c w =>
  constructor
  ·rintro ⟨j,h1,_⟩;simp [emptyN] at h1
  ·intro h;cases (show c ::w=[] from h)
theorem void_L:voidN.L=voidL:=by
 refine Lang.ext fun w=>?_
 cases w with
 | nil=>exact ⟨fun h=>(by cases (show false=true from h)),False.elim⟩
 | cons c w =>
  constructor
  ·rintro ⟨j,h1,_⟩;simp [voidN] at h1
  ·exact False.elim
theorem repeat_L {a:Part} (ha:a.Ok) (low:Nat):∀ k,(repeatN a low k).L=if k≤low then pwL a.L k else catL (pwL a.L low) (pwL (optL a.L) (k - low))
 | 0=>by rw [if_pos (Nat.zero_le _)];exact empty_L
 | k+1=>by
  have ho:(if k < low then a else orEmptyN a).Ok:=by split<;>exact ha
  rw [repeatN,behind_L (repeatN_ok ha low k) ho,repeat_L ha low k]
  by_cases h:k < low
  ·rw [if_pos (show k≤low by omega),if_pos h,if_pos (show k+1≤low by omega),←pwL_snoc]
  ·rw [if_neg h,orEmpty_L,if_neg (show ¬k+1≤low by omega),show k+1 - low=(k - low)+1 from by omega,pwL_snoc (optL a.L),←catL_assoc]
   by_cases h2:k≤low
   ·obtain rfl:k=low:=by omega
    rw [if_pos h2,Nat.sub_self]
    show _=catL (catL _ epsL) _
    rw [catL_eps]
   ·rw [if_neg h2]
theorem times_L {a:Part} (ha:a.Ok) {low high:Nat} (h:low≤high):(repeatN a low high).L=timesL low high a.L:=by
 rw [repeat_L ha,←timesL_split a.L h]
 by_cases h2:high≤low
 ·obtain rfl:high=low:=by omega
  rw [if_pos h2,Nat.sub_self]
  show _=catL _ epsL
  rw [catL_eps]
 ·rw [if_neg h2]
def partN:Re→Part:=Re.fold ⟨emptyN,oneN,behindN,besideN,fun a=>orEmptyN (againN a),againN,orEmptyN,fun m n a=>if n < m then voidN else if n=0 then emptyN else repeatN a m n⟩
theorem partN_seq (a b:Re):partN (.seq a b)=behindN (partN a) (partN b):=rfl
theorem partN_alt (a b:Re):partN (.alt a b)=besideN (partN a) (partN b):=rfl
theorem partN_times (m n:Nat) (a:Re):partN (.times m n a)=if n < m then voidN else if n=0 then emptyN else repeatN (partN a) m n:=rfl
theorem partN_ok:∀ r,(partN r).Ok:=Re.ind emptyN_ok oneN_ok (fun _ _ ha hb=>behindN_ok ha hb) (fun _ _ ha hb=>besideN_ok ha hb) (fun _ ha=>againN_ok ha) (fun _ ha=>againN_ok ha) (fun _ ha=>ha) (fun m n a ha=>by
 rw [partN_times]
 split
 ·exact voidN_ok
 ·split
  ·exact emptyN_ok
  ·exact repeatN_ok ha m n)
theorem partN_L:∀ r,(partN r).L=r.L:=Re.ind empty_L one_L
 (fun a b ha hb=>by show (behindN (partN a) (partN b)).L=catL a.L b.L;rw [behind_L (partN_ok a) (partN_ok b),ha,hb])
 (fun a b ha hb=>by show (besideN (partN a) (partN b)).L=altL a.L b.L;rw [beside_L (partN_ok a),ha,hb])
 (fun a ha=>by show (orEmptyN (againN (partN a))).L=starL a.L;rw [star_L (partN_ok a),ha])
 (fun a ha=>by show (againN (partN a)).L=plusL a.L;rw [again_L (partN_ok a),ha])
 (fun a ha=>by show (orEmptyN (partN a)).L=optL a.L;rw [orEmpty_L,ha])
 (fun m n a ha=>by
  rw [partN_times]
  show _=timesL m n a.L
  split
  ·rename_i h;rw [void_L,timesL_void _ h]
  ·split
   ·rename_i h h2;subst h2
    obtain rfl:m=0:=by omega
    rw [empty_L,timesL_nil]
   ·rw [times_L (partN_ok a) (by omega),ha])
theorem partN_len:∀ r:Re,((partN r).next.length:Int)≤r.wt:=Re.ind
 (by show ((emptyN.next.length:Nat):Int)≤1;simp [emptyN]) (fun f=>by show (((oneN f).next.length:Nat):Int)≤1;simp [oneN])
 (fun a b ha hb=>by show (((behindN (partN a) (partN b)).next.length:Nat):Int)≤a.wt+b.wt;simp only [behindN_len];omega)
 (fun a b ha hb=>by show (((besideN (partN a) (partN b)).next.length:Nat):Int)≤a.wt+b.wt;simp only [besideN_len];omega)
 (fun a ha=>by show (((orEmptyN (againN (partN a))).next.length:Nat):Int)≤a.wt;simp only [orEmptyN,againN,linkN_length];omega)
 (fun a ha=>by show (((againN (partN a)).next.length:Nat):Int)≤a.wt;simp only [againN,linkN_length];omega)
 (fun a ha=>by show (((orEmptyN (partN a)).next.length:Nat):Int)≤a.wt;simp only [orEmptyN];omega)
 (fun m n a h=>by
  have hp:=(Re.times m n a).wt_pos
  rw [partN_times]
  split
  ·show (0:Int)≤_;omega
  ·split
   ·show (0:Int)≤_;omega
   ·rw [repeatN_len]
    have:((partN a).next.length:Int) * (n:Int)≤a.wt * (n:Int):=Int.mul_le_mul_of_nonneg_right h (by omega)
    rw [Re.wt_times]
    simp only [max1]
    push_cast
    split<;>omega)
end Go.Proofs.YtobfpgoepaeknaaGreat
namespace Go.Proofs.YtobfpgoepaeknaaGreat
def reachN (next:List Nat) (state:Nat):Nat→Nat
 | 0=>0
 | k+1=>if state.testBit k then reachN next state k ||| next.getD k 0 else reachN next state k
def setAtN (sets:List (Nat→Bool)) (k b:Nat):Bool:=(sets.getD k fun _=>false) b
def ledN (sets:List (Nat→Bool)) (reach b:Nat):Nat→Nat
 | 0=>0
 | k+1=>if reach.testBit k && setAtN sets k b then ledN sets reach b k ||| 2 ^ k else ledN sets reach b k
def stepN (p:Part) (state b:Nat):Nat:=ledN p.sets (reachN p.next state p.next.length) b p.sets.length
def runN (p:Part):Nat→List Nat→Nat
 | x,[]=>x
 | x,b ::w=>runN p (stepN p x b) w
theorem reachN_bit (next:List Nat) (state j:Nat):∀ k,(reachN next state k).testBit j=true↔∃ i,i < k∧state.testBit i=true∧(next.getD i 0).testBit j=true
 | 0=>by simp [reachN]
 | k+1=>by
  rw [reachN]
  have ih:=reachN_bit next state j k
  by_cases h:state.testBit k=true
  ·rw [if_pos h,Nat.testBit_or,Bool.or_eq_true,ih]
   constructor
   ·rintro (⟨i,h1,h2,h3⟩ | h1)
    ·exact ⟨i,by omega,h2,h3⟩
    ·exact ⟨k,by omega,h,h1⟩
   ·rintro ⟨i,h1,h2,h3⟩
    by_cases hi:i=k
    ·subst hi;exact Or.inr h3
    ·exact Or.inl ⟨i,by omega,h2,h3⟩
  ·rw [if_neg h,ih]
   constructor
   ·rintro ⟨i,h1,h2,h3⟩;exact ⟨i,by omega,h2,h3⟩
   ·rintro ⟨i,h1,h2,h3⟩
    by_cases hi:i=k
    ·subst hi;exact absurd h2 h
    ·exact ⟨i,by omega,h2,h3⟩
theorem bit_two (k j:Nat):(2 ^ k).testBit j=true↔j=k:=by
 rw [show 2 ^ k=1 * 2 ^ k from by omega,bit_move,bit_one];omega
theorem ledN_bit (sets:List (Nat→Bool)) (reach b j:Nat):∀ k,(ledN sets reach b k).testBit j=true↔j < k∧reach.testBit j=true∧setAtN sets j b=true
 | 0=>by simp [ledN]
 | k+1=>by
  rw [ledN]
  have ih:=ledN_bit sets reach b j k
  by_cases h:(reach.testBit k && setAtN sets k b)=true
  ·rw [if_pos h,Nat.testBit_or,Bool.or_eq_true,ih,bit_two]
   rw [Bool.and_eq_true] at h
   constructor
   ·rintro (⟨h1,h2⟩ | rfl)
    ·exact ⟨by omega,h2⟩
    ·exact ⟨by omega,h⟩
   ·rintro ⟨h1,h2⟩
    by_cases hj:j=k
    ·exact Or.inr hj
    ·exact Or.inl ⟨by omega,h2⟩
  ·rw [if_neg h,ih]
   rw [Bool.and_eq_true] at h
   constructor
   ·rintro ⟨h1,h2⟩;exact ⟨by omega,h2⟩
   ·rintro ⟨h1,h2⟩
    by_cases hj:j=k
    ·subst hj;exact absurd h2 h
    ·exact ⟨by omega,h2⟩
theorem setAtN_st (p:Part) (j b:Nat):setAtN p.sets j b=true↔p.st j b:=by
 unfold setAtN Part.st
 rw [List.getD_eq_getElem?_getD]
 cases p.sets[j]?<;>simp
theorem nextD_nx (p:Part) (i j:Nat):(p.next.getD i 0).testBit j=true↔p.nx i j:=by
 unfold Part.nx
 rw [List.getD_eq_getElem?_getD]
 cases p.next[i]?<;>simp
theorem stepN_bit {p:Part} (hp:p.Ok) (state b j:Nat):(stepN p state b).testBit j=true↔∃ i,state.testBit i=true∧p.nx i j∧p.st j b:=by
 unfold stepN
 rw [ledN_bit,reachN_bit,setAtN_st]
 constructor
 ·rintro ⟨_,⟨i,_,h2,h3⟩,h4⟩;exact ⟨i,h2,(nextD_nx p i j).1 h3,h4⟩
 ·rintro ⟨i,h1,h2,h3⟩
  have hl:=hp.nx_lt h2
  exact ⟨by rw [hp.1];exact hl.2,⟨i,hl.1,h1,(nextD_nx p i j).2 h2⟩,h3⟩
theorem runN_acc {p:Part} (hp:p.Ok):∀ (w:List Nat) (x:Nat),(∃ i,(runN p x w).testBit i=true∧p.last.testBit i=true)↔∃ i,x.testBit i=true∧p.acc i w
 | [],x=>Iff.rfl
 | b ::w,x=>by
  rw [runN,runN_acc hp w]
  constructor
  ·rintro ⟨j,h1,h2⟩
   obtain ⟨i,g1,g2,g3⟩:=(stepN_bit hp x b j).1 h1
   exact ⟨i,g1,j,g2,g3,h2⟩
  ·rintro ⟨i,h1,j,h2,h3,h4⟩
   exact ⟨j,(stepN_bit hp x b j).2 ⟨i,h1,h2,h3⟩,h4⟩
theorem and_ne_zero (x y:Nat):x &&& y≠0↔∃ i,x.testBit i=true∧y.testBit i=true:=by
 constructor
 ·intro h
  obtain ⟨i,hi⟩:=Nat.exists_testBit_of_ne_zero h
  rw [Nat.testBit_and,Bool.and_eq_true] at hi
  exact ⟨i,hi⟩
 ·rintro ⟨i,h1,h2⟩ h
  have:(x &&& y).testBit i=true:=by rw [Nat.testBit_and,h1,h2];rfl
  rw [h] at this;simp at this
def autN (q:Part):Part:=behindN (oneN fun _=>false) q
theorem autN_ok {q:Part} (h:q.Ok):(autN q).Ok:=behindN_ok (oneN_ok _) h
theorem autN_match {q:Part} (h:q.Ok) (w:List Nat):runN (autN q) 1 w &&& (autN q).last≠0↔q.L w:=by
 rw [and_ne_zero,runN_acc (autN_ok h)]
 constructor
 ·rintro ⟨i,h1,h2⟩
  obtain rfl:i=0:=bit_one.1 h1
  obtain ⟨u,v,rfl,hu,hv⟩:=(behind_acc_l (oneN_ok _) h w 0 (by simp [oneN])).1 h2
  obtain rfl:=(one_acc _ u).1 hu
  exact hv
 ·intro hw
  exact ⟨0,rfl,(behind_acc_l (oneN_ok _) h w 0 (by simp [oneN])).2 ⟨[],w,rfl,(one_acc _ []).2 rfl,hw⟩⟩
theorem reachN_lt {next:List Nat} {N:Nat} (h:∀ x∈next,x < 2 ^ N) (state:Nat):∀ k,reachN next state k < 2 ^ N
 | 0=>Nat.two_pow_pos N
 | k+1=>by
  rw [reachN]
  split
  ·refine Nat.or_lt_two_pow (reachN_lt h state k) ?_
   rw [List.getD_eq_getElem?_getD]
   cases hx:next[k]? with
   | none=>exact Nat.two_pow_pos N
   | some x=>exact h x (List.mem_of_getElem? hx)
  ·exact reachN_lt h state k
end Go.Proofs.YtobfpgoepaeknaaGreat
namespace Go.Proofs.YtobfpgoepaeknaaGreat
def sbV (t:ByteArray) (A:Nat):Int :=
 if byteAt t A=92 then (if mayBeEscapedB (byteAt t (A+1)) then byteAt t (A+1) else 16 * digitI (byteAt t (A+1))+digitI (byteAt t (A+2))) else byteAt t A
theorem digit_val {t:ByteArray} {s:S1} (hb:s.bad=false) (hk:s.k≤t.size) (hg:(readDigitS t 16 s).2.bad=false):(readDigitS t 16 s).1=digitI (byteAt t s.k):=by
 have h:=digit_good hb hk hg
 unfold readDigitS at hg ⊢
 rcases pk_good hb hk with ⟨h1,h2⟩ | ⟨h1,h2⟩
 ·split
  ·rw [h2]
  ·rename_i hc;rw [if_neg hc] at hg;cases hg
 ·omega
theorem escape_val {t:ByteArray} {s:S1} (hb:s.bad=false) (hk:s.k≤t.size) (hp:(s.pk t == 92)=true) (hg:(readEscapeS t s).2.bad=false):(readEscapeS t s).1=sbV t s.k:=by
 have hlt:=(S1.pk_lt (t:=t) (s:=s) (by rw [beq_iff_eq] at hp;omega)).2
 have hby:byteAt t s.k=92:=by
  rcases pk_good hb hk with ⟨_,e⟩ | ⟨e,_⟩
  ·rw [←e];simpa using hp
  ·omega
 unfold sbV
 rw [if_pos hby]
 unfold readEscapeS at hg ⊢
 simp only [expectS_eq hp,hb] at hg ⊢
 rcases pk_good (t:=t) (s:=⟨s.k+1,false⟩) rfl (by simp only;omega) with ⟨h1,h2⟩ | ⟨h1,h2⟩
 ·by_cases hm:mayBeEscapedB (S1.pk t ⟨s.k+1,false⟩)=true
  ·rw [if_pos hm,if_pos (by rw [←h2];exact hm)]
   simp only
   exact h2
  ·rw [if_neg hm] at hg ⊢
   rw [if_neg (by rw [←h2];exact hm)]
   simp only at hg ⊢
   have hg1:=good_before (readDigitS_after t 16 (readDigitS t 16 ⟨s.k+1,false⟩).2) hg
   obtain ⟨a1,a2,a3⟩:=digit_good (t:=t) (s:=⟨s.k+1,false⟩) rfl (by simp only;omega) hg1
   have v1:=digit_val (t:=t) (s:=⟨s.k+1,false⟩) rfl (by simp only;omega) hg1
   rw [a3] at hg ⊢
   simp only at a1
   have v2:=digit_val (t:=t) (s:=⟨s.k+1+1,false⟩) rfl (by simp only;omega) hg
   rw [v1,v2]
 ·exfalso
  have hm:¬mayBeEscapedB (S1.pk t ⟨s.k+1,false⟩)=true:=by rw [h2];decide
  rw [if_neg hm] at hg
  have hg1:=good_before (readDigitS_after t 16 (readDigitS t 16 ⟨s.k+1,false⟩).2) hg
  have:=(digit_good (t:=t) (s:=⟨s.k+1,false⟩) rfl (by simp only;omega) hg1).1
  simp only at this h1
  omega
theorem setByte_val {t:ByteArray} {s:S1} (hb:s.bad=false) (hk:s.k≤t.size) (hg:(readSetByteS t s).2.bad=false):(readSetByteS t s).1=sbV t s.k:=by
 unfold readSetByteS at hg ⊢
 by_cases c92:(s.pk t == 92)=true
 ·rw [if_pos c92] at hg ⊢;exact escape_val hb hk c92 hg
 ·rw [if_neg c92] at hg ⊢
  by_cases hc:isPlainInSetB (s.pk t)=true
  ·rw [if_pos hc]
   rcases pk_good hb hk with ⟨h1,h2⟩ | ⟨_,h2⟩
   ·unfold sbV
    rw [if_neg (by rw [←h2];simpa using c92)]
    exact h2
   ·rw [h2] at hc;exact absurd hc (by decide)
  ·rw [if_neg hc] at hg;cases hg
theorem byte_val {t:ByteArray} {s:S1} (hb:s.bad=false) (hk:s.k≤t.size) (hg:(readByteS t s).2.bad=false):(readByteS t s).1=sbV t s.k:=by
 unfold readByteS at hg ⊢
 by_cases c92:(s.pk t == 92)=true
 ·rw [if_pos c92] at hg ⊢;exact escape_val hb hk c92 hg
 ·rw [if_neg c92] at hg ⊢
  by_cases hc:isPlainB (s.pk t)=true
  ·rw [if_pos hc]
   rcases pk_good hb hk with ⟨h1,h2⟩ | ⟨_,h2⟩
   ·unfold sbV
    rw [if_neg (by rw [←h2];simpa using c92)]
    exact h2
   ·rw [h2] at hc;exact absurd hc (by decide)
  ·rw [if_neg hc] at hg;cases hg
theorem SB.val {t:ByteArray} {A B a b:Nat} (h:SB t A B) (ha:a≤A) (hB:B≤b) (hb:b≤t.size):namedS (t.extract a b) (A - a)=some (sbV t A,B - a):=by
 have hs:=size_ext (a:=a) hb
 rcases h with ⟨h1,h2,h3,h4⟩ | ⟨h1,h3,h2,h5,h6,h4⟩ | ⟨h3,_,h2,h4⟩
 ·unfold namedS sbV
  rw [if_pos (by omega),byteAt_win hb ha (by omega),h1,if_pos (by decide),if_pos (by omega),show A - a+1=(A+1) - a from by omega,byteAt_win hb (by omega) (by omega),if_pos h3,if_pos rfl,if_pos h3,show A - a+2=B - a from by omega]
 ·unfold namedS sbV
  rw [if_pos (by omega),byteAt_win hb ha (by omega),h1,if_pos (by decide),if_pos (by omega),show A - a+1=(A+1) - a from by omega,show A - a+2=(A+2) - a from by omega,byteAt_win hb (by omega) (by omega),byteAt_win hb (by omega) (by omega),if_neg (by simp [h3]),if_pos ⟨by omega,h5,h6⟩,if_pos rfl,if_neg (by simp [h3]),show A - a+3=B - a from by omega]
 ·unfold namedS sbV
  rw [if_pos (by omega),byteAt_win hb ha (by omega),if_neg (by simp [h3]),if_neg h3,show A - a+1=B - a from by omega]
def ItemsV (t:ByteArray) (A E:Nat) (G:(Nat→Bool)→Nat→Bool):Prop :=
 A≤E∧E < t.size∧∀ a b,a≤A→E < b→b≤t.size→∀ n,E - A+1≤n→∀ f0,itemsF (t.extract a b) n (A - a) f0=some (G f0)
theorem ItemsV.none {t:ByteArray} {E:Nat} (h:E < t.size) (hb:byteAt t E=93):ItemsV t E E id:=by
 refine ⟨Nat.le_refl _,h,fun a b ha hE hbs n hn f0=>?_⟩
 have hs:=size_ext (a:=a) hbs
 obtain ⟨n,rfl⟩:∃ n',n=n'+1:=⟨n - 1,by omega⟩
 rw [itemsF,if_pos (by omega),byteAt_win hbs ha hE,if_pos (by simp [hb])]
 rfl
theorem ItemsV.one {t:ByteArray} {A C E:Nat} {G:(Nat→Bool)→Nat→Bool} (h:SB t A C) (h45:byteAt t C≠45) (k:ItemsV t C E G):ItemsV t A E (fun f=>G (addR f (sbV t A) (sbV t A))):=by
 have hl:=h.lt
 refine ⟨by have:=k.1;omega,k.2.1,fun a b ha hE hbs n hn f0=>?_⟩
 have k1:=k.1
 have q2:=k.2.2 a b (by omega) hE hbs
 have hs:=size_ext (a:=a) hbs
 obtain ⟨n,rfl⟩:∃ n',n=n'+1:=⟨n - 1,by omega⟩
 rw [itemsF,if_pos (by omega),byteAt_win hbs ha (by omega),if_neg (by simp [hl.2.2]),h.val ha (show C≤b by omega) hbs]
 simp only [Option.bind_some]
 rw [if_pos (by omega),byteAt_win hbs (by omega) (by omega),if_neg (by simp [h45])]
 exact q2 n (by omega) _
theorem ItemsV.two {t:ByteArray} {A C D E:Nat} {G:(Nat→Bool)→Nat→Bool} (h:SB t A C) (h45:byteAt t C=45) (h2:SB t (C+1) D) (k:ItemsV t D E G):ItemsV t A E (fun f=>G (addR f (sbV t A) (sbV t (C+1)))):=by
 have hl:=h.lt
 have hl2:=h2.lt
 refine ⟨by have:=k.1;omega,k.2.1,fun a b ha hE hbs n hn f0=>?_⟩
 have k1:=k.1
 have q2:=k.2.2 a b (by omega) hE hbs
 have hs:=size_ext (a:=a) hbs
 obtain ⟨n,rfl⟩:∃ n',n=n'+1:=⟨n - 1,by omega⟩
 rw [itemsF,if_pos (by omega),byteAt_win hbs ha (by omega),if_neg (by simp [hl.2.2]),h.val ha (show C≤b by omega) hbs]
 simp only [Option.bind_some]
 rw [if_pos (by omega),byteAt_win hbs (by omega) (by omega),if_pos (by simp [h45]),show C - a+1=(C+1) - a from by omega,h2.val (show a≤C+1 by omega) (show D≤b by omega) hbs]
 simp only [Option.bind_some]
 exact q2 n (by omega) _
theorem item_val {t:ByteArray} {s:S1} {E:Nat} {G:(Nat→Bool)→Nat→Bool} (hb:s.bad=false) (hk:s.k≤t.size) (hg:(readItemS t s).2.bad=false) (k:ItemsV t (readItemS t s).2.k E G) :
  ItemsV t s.k E (fun f=>G (addR f (readItemS t s).1.1 (readItemS t s).1.2)):=by
 have hk1:=readSetByteS_le (t:=t) (s:=s) hk
 unfold readItemS at hg k ⊢
 simp only at hg k ⊢
 by_cases c45:((readSetByteS t s).2.pk t == 45)=true
 ·rw [if_pos c45,takeS_eq c45] at hg k ⊢
  obtain ⟨hb1,hlt⟩:=S1.pk_lt (t:=t) (s:=(readSetByteS t s).2) (by rw [beq_iff_eq] at c45;omega)
  have h1:=setByte_good hb hk hb1
  rw [hb1] at hg k ⊢
  have h2:=setByte_good (t:=t) (s:=⟨(readSetByteS t s).2.k+1,false⟩) rfl (by simp only;omega) hg
  have e:byteAt t (readSetByteS t s).2.k=45:=by
   rcases pk_good hb1 hk1 with ⟨_,e⟩ | ⟨e,_⟩
   ·rw [←e];simpa using c45
   ·omega
  have v1:=setByte_val hb hk hb1
  have v2:=setByte_val (t:=t) (s:=⟨(readSetByteS t s).2.k+1,false⟩) rfl (by simp only;omega) hg
  simp only
  rw [v1,v2]
  exact ItemsV.two h1 e h2 k
 ·rw [if_neg c45] at hg k ⊢
  have h1:=setByte_good hb hk hg
  have v1:=setByte_val hb hk hg
  simp only
  rw [v1]
  refine ItemsV.one h1 ?_ k
  rcases pk_good hg hk1 with ⟨_,e⟩ | ⟨e,_⟩
  ·rw [←e];simpa using c45
  ·have k1:=k.1;have k2:=k.2.1;simp only at k1 e;omega
theorem setLoop_val {t:ByteArray}:∀ (n:Nat) (s:S1),s.k≤t.size→left t s≤n→s.bad=false→∀ f0,(setLoop t n f0 s).2.bad=false→(setLoop t n f0 s).2.pk t=93 →
  ∃ G,(∀ f,(setLoop t n f s).1=G f)∧(∀ f,(setLoop t n f s).2=(setLoop t n f0 s).2)∧ItemsV t s.k (setLoop t n f0 s).2.k G:=by
 intro n
 induction n with
 | zero=>intro s hk hl hb;unfold left at hl;rw [hb] at hl;simp at hl
 | succ n ih =>
  intro s hk hl hb f0 hg hp
  by_cases hgo:(!s.bad && s.pk t != 93)=true
  ·rw [setLoop_go n f0 s hgo] at hg hp ⊢
   have hg1:=good_before (setLoop_after t n _ _) hg
   have hl2:=left_goes (t:=t) hb (readItemS_le hk) (readItemS_goes t s)
   obtain ⟨G,g1,g2,g3⟩:=ih _ (readItemS_le hk) (by omega) hg1 _ hg hp
   refine ⟨_,fun f=>?_,fun f=>?_,item_val hb hk hg1 g3⟩
   ·rw [setLoop_go n f s hgo];exact g1 _
   ·rw [setLoop_go n f s hgo];exact g2 _
  ·have hgo':(!s.bad && s.pk t != 93)=false:=by simpa using hgo
   refine ⟨id,fun f=>by rw [setLoop_stop (n+1) f s hgo'];rfl,fun f=>by rw [setLoop_stop (n+1) f s hgo',setLoop_stop (n+1) f0 s hgo'],?_⟩
   rw [setLoop_stop (n+1) f0 s hgo'] at hp ⊢
   rcases pk_good hb hk with ⟨h1,e⟩ | ⟨_,e⟩
   ·exact ItemsV.none h1 (by rw [←e];exact hp)
   ·simp only at hp;omega
theorem leaf_val {t:ByteArray} {st:St} (hb:st.s.bad=false) (hk:st.s.k≤t.size) (ha:atAtomB (st.s.pk t)=true) (h40:(st.s.pk t == 40)=false) (hg:(readLeafS t st).s.bad=false) (h60:t.size≤60) :
  ∃ f,leafS (t.extract st.s.k (readLeafS t st).s.k)=some ⟨2,0,0,0,0,f⟩∧(readLeafS t st).ns=st.ns++[⟨1,0,0,0,0,(st.fs.length:Int)⟩]∧(readLeafS t st).fs=st.fs++[f]:=by
 obtain ⟨l1,l2,l3,l4,l5⟩:=leaf_good hb hk ha h40 hg
 have hlt:st.s.k < t.size∧st.s.pk t=byteAt t st.s.k:=by
  rcases pk_good hb hk with h1 | ⟨_,h2⟩
  ·exact h1
  ·rw [h2] at ha;exact absurd ha (by decide)
 have hs:=size_ext (t:=t) (a:=st.s.k) l3
 have b0:byteAt (t.extract st.s.k (readLeafS t st).s.k) 0=byteAt t st.s.k:=by rw [byteAt_ext l3 (by omega),Nat.add_zero]
 by_cases c91:(st.s.pk t == 91)=true
 ·have e91:byteAt t st.s.k=91:=by rw [←hlt.2];simpa using c91
  have er:readLeafS t st=(st.at (readSetS t (takeS t 91 st.s)).2).addSet (readSetS t (takeS t 91 st.s)).1:=by unfold readLeafS;rw [if_pos c91]
  rw [er] at hg l2 l3 hs b0 ⊢
  refine ⟨(readSetS t (takeS t 91 st.s)).1,?_,rfl,rfl⟩
  have hg':(readSetS t (takeS t 91 st.s)).2.bad=false:=hg
  have hle':(readSetS t (takeS t 91 st.s)).2.k≤t.size:=l3
  have hs':(t.extract st.s.k (readSetS t (takeS t 91 st.s)).2.k).size=(readSetS t (takeS t 91 st.s)).2.k - st.s.k:=hs
  have b0':byteAt (t.extract st.s.k (readSetS t (takeS t 91 st.s)).2.k) 0=byteAt t st.s.k:=b0
  show leafS (t.extract st.s.k (readSetS t (takeS t 91 st.s)).2.k)=_
  rw [takeS_eq c91,hb] at hg' hle' hs' b0' ⊢
  clear l1 l2 l3 l4 l5 hs b0 hg er
  unfold readSetS at hg' hle' hs' b0' ⊢
  simp only at hg' hle' hs' b0' ⊢
  have hk1:(⟨st.s.k+1,false⟩:S1).k≤t.size:=by simp only;omega
  have hk2:=takeS_le (t:=t) (c:=94) (s:=⟨st.s.k+1,false⟩) (by omega) hk1
  have hk3:=readItemS_le (t:=t) (s:=takeS t 94 ⟨st.s.k+1,false⟩) hk2
  have hl:left t (readItemS t (takeS t 94 ⟨st.s.k+1,false⟩)).2≤t.size+1:=by unfold left;split<;>omega
  generalize hF:addR (fun _=>false) (readItemS t (takeS t 94 ⟨st.s.k+1,false⟩)).1.1 (readItemS t (takeS t 94 ⟨st.s.k+1,false⟩)).1.2=F at *
  have hgl:=good_before (expectS_after t 93 _) hg'
  have hgi:=good_before (setLoop_after t (t.size+1) F _) hgl
  have hgt:=good_before (readItemS_after t _) hgi
  have hp93:((setLoop t (t.size+1) F (readItemS t (takeS t 94 ⟨st.s.k+1,false⟩)).2).2.pk t == 93)=true:=by
   cases hc:((setLoop t (t.size+1) F (readItemS t (takeS t 94 ⟨st.s.k+1,false⟩)).2).2.pk t == 93)
   ·unfold expectS at hg';rw [hc] at hg';cases hg'
   ·rfl
  obtain ⟨G,g1,g2,g3⟩:=setLoop_val (t.size+1) _ hk3 hl hgi F hgl (by simpa using hp93)
  have it2:=item_val hgt hk2 hgi g3
  rw [expectS_eq hp93] at hle' hs' b0' ⊢
  simp only at hle' hs' b0' ⊢
  rw [g1 F]
  generalize (setLoop t (t.size+1) F (readItemS t (takeS t 94 ⟨st.s.k+1,false⟩)).2).2.k=E at *
  rw [←hF]
  generalize (readItemS t (takeS t 94 ⟨st.s.k+1,false⟩)).1=I at *
  have hE:=it2.2.1
  have hlow:st.s.k+1≤E:=by
   have h1:=it2.1
   have h2:=(takeS_after t 94 ⟨st.s.k+1,false⟩).1
   simp only at h2;omega
  have b1:byteAt (t.extract st.s.k (E+1)) 1=byteAt t (st.s.k+1):=byteAt_ext (by omega) (by omega)
  unfold leafS
  rw [if_pos (by omega),b0',e91,if_neg (by decide),if_pos (by decide),if_pos (by omega),b1]
  have hpk:=pk_good (t:=t) (s:=⟨st.s.k+1,false⟩) rfl hk1
  by_cases c94:(S1.pk t ⟨st.s.k+1,false⟩ == 94)=true
  ·rw [takeS_eq c94] at it2
   simp only at it2
   have e94:byteAt t (st.s.k+1)=94:=by
    rcases hpk with ⟨_,e⟩ | ⟨e,_⟩
    ·rw [e] at c94;simpa using c94
    ·simp only at e;omega
   rw [if_pos (by simp [e94]),if_pos c94]
   have hgg:=it2.2.2 st.s.k (E+1) (by omega) (by omega) (by omega) 61 (by omega) noSet
   rw [show st.s.k+1+1 - st.s.k=2 from by omega] at hgg
   rw [hgg]
   rfl
  ·have e:takeS t 94 ⟨st.s.k+1,false⟩=⟨st.s.k+1,false⟩:=by unfold takeS;rw [if_neg c94]
   rw [e] at it2
   simp only at it2
   have e94:byteAt t (st.s.k+1)≠94:=by
    rcases hpk with ⟨_,e⟩ | ⟨e,_⟩
    ·rw [e] at c94;simpa using c94
    ·simp only at e;omega
   rw [if_neg (by simp [e94]),if_neg c94]
   have hgg:=it2.2.2 st.s.k (E+1) (by omega) (by omega) (by omega) 61 (by omega) noSet
   rw [show st.s.k+1 - st.s.k=1 from by omega] at hgg
   rw [hgg]
   rfl
 ·have n91:byteAt t st.s.k≠91:=by rw [←hlt.2];simpa using c91
  by_cases c46:(st.s.pk t == 46)=true
  ·have e46:byteAt t st.s.k=46:=by rw [←hlt.2];simpa using c46
   have er:readLeafS t st=(st.at (takeS t 46 st.s)).addSet (fun _=>true):=by unfold readLeafS;rw [if_neg c91,if_pos c46]
   rw [er] at hs b0 l2 ⊢
   refine ⟨fun _=>true,?_,rfl,rfl⟩
   unfold leafS
   rw [if_pos (by omega),b0,e46,if_pos (by decide)]
  ·have n46:byteAt t st.s.k≠46:=by rw [←hlt.2];simpa using c46
   have er:readLeafS t st=(st.at (readByteS t st.s).2).addSet (addR (fun _=>false) (readByteS t st.s).1 (readByteS t st.s).1):=by unfold readLeafS;rw [if_neg c91,if_neg c46]
   rw [er] at hs b0 l2 l3 hg ⊢
   refine ⟨_,?_,rfl,rfl⟩
   have hg':(readByteS t st.s).2.bad=false:=hg
   have l2':st.s.k < (readByteS t st.s).2.k:=l2
   have l3':(readByteS t st.s).2.k≤t.size:=l3
   have hs':(t.extract st.s.k (readByteS t st.s).2.k).size=(readByteS t st.s).2.k - st.s.k:=hs
   have b0':byteAt (t.extract st.s.k (readByteS t st.s).2.k) 0=byteAt t st.s.k:=b0
   show leafS (t.extract st.s.k (readByteS t st.s).2.k)=_
   have sb:SB t st.s.k (readByteS t st.s).2.k:=by
    unfold readByteS at hg' ⊢
    by_cases c92:(st.s.pk t == 92)=true
    ·rw [if_pos c92] at hg' ⊢
     exact escape_good hb hk c92 hg'
    ·rw [if_neg c92] at hg' ⊢
     by_cases hp:isPlainB (st.s.pk t)=true
     ·rw [if_pos hp]
      have n92:byteAt t st.s.k≠92:=by rw [←hlt.2];simpa using c92
      have n93:byteAt t st.s.k≠93:=by rw [←hlt.2];intro e;rw [e] at hp;exact absurd hp (by decide)
      exact Or.inr (Or.inr ⟨n92,n93,hlt.1,rfl⟩)
     ·rw [if_neg hp] at hg';cases hg'
   have hv:=sb.val (Nat.le_refl _) (Nat.le_refl _) l3'
   rw [Nat.sub_self] at hv
   unfold leafS
   rw [if_pos (by omega),b0',if_neg (by simp [n46]),if_neg (by simp [n91]),hv,byte_val hb hk hg']
   rfl
end Go.Proofs.YtobfpgoepaeknaaGreat
namespace Go.Proofs.YtobfpgoepaeknaaGreat
def Val:Type:=Lang × Int
def Re.val (r:Re):Val:=(r.L,r.wt)
def catV (a b:Val):Val:=(catL a.1 b.1,a.2+b.2)
def altV (a b:Val):Val:=(altL a.1 b.1,a.2+b.2)
def cat0:Val:=(epsL,0)
def alt0:Val:=(voidL,0)
def timesV (m n:Nat) (a:Val):Val:=(timesL m n a.1,max1 (a.2 * (n:Int)))
theorem Val.ext {a b:Val} (h1:a.1=b.1) (h2:a.2=b.2):a=b:=Prod.ext h1 h2
theorem catV_assoc (a b c:Val):catV (catV a b) c=catV a (catV b c):=Val.ext (catL_assoc _ _ _) (by show a.2+b.2+c.2=a.2+(b.2+c.2);omega)
theorem altV_assoc (a b c:Val):altV (altV a b) c=altV a (altV b c):=Val.ext (altL_assoc _ _ _) (by show a.2+b.2+c.2=a.2+(b.2+c.2);omega)
theorem catV_unit (a:Val):catV a cat0=a:=Val.ext (catL_eps _) (by show a.2+0=a.2;omega)
theorem altV_unit (a:Val):altV a alt0=a:=Val.ext (altL_void _) (by show a.2+0=a.2;omega)
def Dr (rs:List Rn):Re→Int→Prop:=Re.fold (X:=Int→Prop) ⟨
 fun k=>∃ r,0≤k∧rs[k.toNat]?=some r∧r.kind=1,
 fun f k=>∃ r,0≤k∧rs[k.toNat]?=some r∧r.kind=2∧r.f=f,
 fun a b k=>∃ r,0≤k∧rs[k.toNat]?=some r∧r.kind=3∧a r.l∧b r.r,
 fun a b k=>∃ r,0≤k∧rs[k.toNat]?=some r∧r.kind=4∧a r.l∧b r.r,
 fun a k=>∃ r,0≤k∧rs[k.toNat]?=some r∧r.kind=5∧a r.l,
 fun a k=>∃ r,0≤k∧rs[k.toNat]?=some r∧r.kind=6∧a r.l,
 fun a k=>∃ r,0≤k∧rs[k.toNat]?=some r∧r.kind=7∧a r.l,
 fun m n a k=>∃ r,0≤k∧rs[k.toNat]?=some r∧r.kind=8∧r.m=(m:Int)∧r.n=(n:Int)∧m≤9∧n≤9∧a r.l⟩
theorem getElem?_app {α:Type} {l:List α} {i:Nat} {a:α} (h:l[i]?=some a) (x:List α):(l++x)[i]?=some a:=by
 rw [List.getElem?_append_left (List.getElem?_eq_some_iff.1 h).1];exact h
theorem Dr.app {rs:List Rn} (x:List Rn) {R:Re}:∀ {k:Int},Dr rs R k→Dr (rs++x) R k:=by
 induction R using Re.ind with
 | blank=>rintro k ⟨r,h0,h1,h2⟩;exact ⟨r,h0,getElem?_app h1 x,h2⟩
 | set f=>rintro k ⟨r,h0,h1,h2⟩;exact ⟨r,h0,getElem?_app h1 x,h2⟩
 | seq a b iha ihb=>rintro k ⟨r,h0,h1,h2,h3,h4⟩;exact ⟨r,h0,getElem?_app h1 x,h2,iha h3,ihb h4⟩
 | alt a b iha ihb=>rintro k ⟨r,h0,h1,h2,h3,h4⟩;exact ⟨r,h0,getElem?_app h1 x,h2,iha h3,ihb h4⟩
 | star a iha=>rintro k ⟨r,h0,h1,h2,h3⟩;exact ⟨r,h0,getElem?_app h1 x,h2,iha h3⟩
 | plus a iha=>rintro k ⟨r,h0,h1,h2,h3⟩;exact ⟨r,h0,getElem?_app h1 x,h2,iha h3⟩
 | opt a iha=>rintro k ⟨r,h0,h1,h2,h3⟩;exact ⟨r,h0,getElem?_app h1 x,h2,iha h3⟩
 | times m n a iha=>rintro k ⟨r,h0,h1,h2,h3,h4,h5,h6,h7⟩;exact ⟨r,h0,getElem?_app h1 x,h2,h3,h4,h5,h6,iha h7⟩
theorem Dr.seqE {rs:List Rn} {a b:Re} {k:Int} (h:Dr rs (.seq a b) k):∃ r,0≤k∧rs[k.toNat]?=some r∧r.kind=3∧Dr rs a r.l∧Dr rs b r.r:=h
theorem Dr.altE {rs:List Rn} {a b:Re} {k:Int} (h:Dr rs (.alt a b) k):∃ r,0≤k∧rs[k.toNat]?=some r∧r.kind=4∧Dr rs a r.l∧Dr rs b r.r:=h
theorem Dr.starE {rs:List Rn} {a:Re} {k:Int} (h:Dr rs (.star a) k):∃ r,0≤k∧rs[k.toNat]?=some r∧r.kind=5∧Dr rs a r.l:=h
theorem Dr.plusE {rs:List Rn} {a:Re} {k:Int} (h:Dr rs (.plus a) k):∃ r,0≤k∧rs[k.toNat]?=some r∧r.kind=6∧Dr rs a r.l:=h
theorem Dr.optE {rs:List Rn} {a:Re} {k:Int} (h:Dr rs (.opt a) k):∃ r,0≤k∧rs[k.toNat]?=some r∧r.kind=7∧Dr rs a r.l:=h
theorem Dr.timesE {rs:List Rn} {m n:Nat} {a:Re} {k:Int} (h:Dr rs (.times m n a) k):∃ r,0≤k∧rs[k.toNat]?=some r∧r.kind=8∧r.m=(m:Int)∧r.n=(n:Int)∧m≤9∧n≤9∧Dr rs a r.l:=h
def DrV (rs:List Rn) (k:Int) (v:Val):Prop:=∃ R,Dr rs R k∧R.val=v
theorem DrV.app {rs:List Rn} {k:Int} {v:Val} (h:DrV rs k v) (x:List Rn):DrV (rs++x) k v:=by
 obtain ⟨R,h1,h2⟩:=h;exact ⟨R,h1.app x,h2⟩
theorem last_get {α:Type} (l:List α) (a:α):(l++[a])[((l.length:Int)).toNat]?=some a:=by simp
theorem DrV.blank (rs:List Rn) (r:Rn) (h:r.kind=1):DrV (rs++[r]) (rs.length:Int) Re.blank.val:=⟨.blank,⟨r,by omega,last_get rs r,h⟩,rfl⟩
theorem DrV.set (rs:List Rn) (f:Nat→Bool):DrV (rs++[⟨2,0,0,0,0,f⟩]) (rs.length:Int) (Re.set f).val:=⟨.set f,⟨_,by omega,last_get rs _,rfl,rfl⟩,rfl⟩
theorem DrV.cat {rs:List Rn} {k l:Int} {v u:Val} (h1:DrV rs k v) (h2:DrV rs l u):DrV (rs++[⟨3,k,l,0,0,noSet⟩]) (rs.length:Int) (catV v u):=by
 obtain ⟨R,a1,rfl⟩:=h1;obtain ⟨S,b1,rfl⟩:=h2
 exact ⟨.seq R S,⟨_,by omega,last_get rs _,rfl,a1.app _,b1.app _⟩,rfl⟩
theorem DrV.alt {rs:List Rn} {k l:Int} {v u:Val} (h1:DrV rs k v) (h2:DrV rs l u):DrV (rs++[⟨4,k,l,0,0,noSet⟩]) (rs.length:Int) (altV v u):=by
 obtain ⟨R,a1,rfl⟩:=h1;obtain ⟨S,b1,rfl⟩:=h2
 exact ⟨.alt R S,⟨_,by omega,last_get rs _,rfl,a1.app _,b1.app _⟩,rfl⟩
def starV (a:Val):Val:=(starL a.1,a.2)
def plusV (a:Val):Val:=(plusL a.1,a.2)
def optV (a:Val):Val:=(optL a.1,a.2)
theorem DrV.star {rs:List Rn} {k:Int} {v:Val} (h1:DrV rs k v):DrV (rs++[⟨5,k,0,0,0,noSet⟩]) (rs.length:Int) (starV v):=by
 obtain ⟨R,a1,rfl⟩:=h1
 exact ⟨.star R,⟨_,by omega,last_get rs _,rfl,a1.app _⟩,rfl⟩
theorem DrV.plus {rs:List Rn} {k:Int} {v:Val} (h1:DrV rs k v):DrV (rs++[⟨6,k,0,0,0,noSet⟩]) (rs.length:Int) (plusV v):=by
 obtain ⟨R,a1,rfl⟩:=h1
 exact ⟨.plus R,⟨_,by omega,last_get rs _,rfl,a1.app _⟩,rfl⟩
theorem DrV.opt {rs:List Rn} {k:Int} {v:Val} (h1:DrV rs k v):DrV (rs++[⟨7,k,0,0,0,noSet⟩]) (rs.length:Int) (optV v):=by
 obtain ⟨R,a1,rfl⟩:=h1
 exact ⟨.opt R,⟨_,by omega,last_get rs _,rfl,a1.app _⟩,rfl⟩
theorem DrV.times {rs:List Rn} {k:Int} {v:Val} (x y:Int) (m n:Nat) (hx:x=(m:Int)) (hy:y=(n:Int)) (hm:m≤9) (hn:n≤9) (h1:DrV rs k v):DrV (rs++[⟨8,k,0,x,y,noSet⟩]) (rs.length:Int) (timesV m n v):=by
 obtain ⟨R,a1,rfl⟩:=h1
 exact ⟨.times m n R,⟨_,by omega,last_get rs _,rfl,hx,hy,hm,hn,a1.app _⟩,rfl⟩
def RefV (tag:Nat) (t:ByteArray) (A B:Nat) (v:Val):Prop :=
 ∀ rs,∃ n rs1 k,rfF n tag (t.extract A B) 0 0 rs=some (rs++rs1,k)∧DrV (rs++rs1) k v
def PatV (t:ByteArray) (A B:Nat) (v:Val):Prop:=A≤B∧B≤t.size∧Seq' t noPar A B∧RefV 0 t A B v
def BraV (t:ByteArray) (A B:Nat) (v:Val):Prop:=A≤B∧B≤t.size∧Seq' t noBar A B∧RefV 2 t A B v
def PieV (t:ByteArray) (A B:Nat) (v:Val):Prop:=A < B∧B≤t.size∧Seq' t noBar A B ∧
 ∀ E,B≤E→E≤t.size→∀ rs,∃ rs1 k,DrV (rs++rs1) k v∧∀ fin,(∃ n,rfF n 3 (t.extract A E) (B - A) k (rs++rs1)=some fin)→∃ n,rfF n 2 (t.extract A E) 0 0 rs=some fin
def AtoV (t:ByteArray) (A B:Nat) (v:Val):Prop:=A < B∧B≤t.size∧StepT t A B∧noBar (byteAt t A)=true∧RefV 4 t A B v
def Res1 (t:ByteArray) (C B:Nat) (v:Val):Prop:=(C=B∧v=alt0)∨(C < B∧byteAt t C=124∧PatV t (C+1) B v)
def Res3 (t:ByteArray) (C B:Nat) (v:Val):Prop:=(C=B∧v=cat0)∨(C < B∧BraV t C B v)
theorem patV_join {t:ByteArray} {A C B:Nat} {v u:Val} (h60:t.size≤60) (h:BraV t A C v) (k:Res1 t C B u):PatV t A B (altV v u):=by
 obtain ⟨b1,b2,b5,b6⟩:=h
 rcases k with ⟨rfl,rfl⟩ | ⟨k1,k2,q1,q2,q5,q6⟩
 ·refine ⟨b1,b2,b5.mono (fun c hc=>by simp [noBar] at hc;simp [noPar,hc.2]),fun rs=>?_⟩
  obtain ⟨n,rs1,k,e1,e3⟩:=b6 rs
  rw [altV_unit]
  obtain ⟨sn,hsn⟩:=b5
  have hs:=size_ext (t:=t) (a:=A) b2
  obtain ⟨m,hm⟩:=read_loop h60 b2 (Nat.le_refl _) rs (rs++rs1,k) sn A (Nat.le_refl _) b1 hsn ⟨n+1,by
   rw [rfF,if_neg (by omega),if_pos (by omega),ext_ext (by omega),Nat.add_zero,show A+(C - A)=C from by omega,e1]
   simp only [Option.bind_some]
   rw [if_pos (by omega)]⟩
  rw [Nat.sub_self] at hm
  exact ⟨m+1,rs1,k,by rw [rfF];exact hm,e3⟩
 ·refine ⟨by omega,q2,?_,fun rs=>?_⟩
  ·refine Seq'.trans (by omega) (b5.mono (fun c hc=>by simp [noBar] at hc;simp [noPar,hc.2])) (Seq'.trans q1 (Seq'.one (by omega) (by rw [k2];decide) (step_one (by omega) (by omega) (by omega) (by omega))) q5)
  ·obtain ⟨n,rs1,k,e1,e3⟩:=b6 rs
   obtain ⟨n2,rs2,kk,g1,g3⟩:=q6 (rs++rs1)
   obtain ⟨sn,hsn⟩:=b5
   have hs:=size_ext (t:=t) (a:=A) q2
   obtain ⟨m,hm⟩:=read_loop h60 q2 (Nat.le_of_lt k1) rs (rs++rs1++rs2++[⟨4,k,kk,0,0,noSet⟩],((rs++rs1++rs2).length:Int)) sn A (Nat.le_refl _) b1 hsn ⟨max n n2+1,by
    rw [rfF,if_neg (by rw [byteAt_win q2 b1 k1,k2];simp),if_pos (by omega),ext_ext (by omega),Nat.add_zero,show A+(C - A)=C from by omega,rfF_mono n (max n n2) _ _ _ _ _ _ (by omega) e1]
    simp only [Option.bind_some]
    rw [if_neg (by omega),hs,ext_ext (by omega),show A+(C - A+1)=C+1 from by omega,show A+(B - A)=B from by omega,rfF_mono n2 (max n n2) _ _ _ _ _ _ (by omega) g1]
    rfl⟩
   rw [Nat.sub_self] at hm
   refine ⟨m+1,rs1++rs2++[⟨4,k,kk,0,0,noSet⟩],((rs++rs1++rs2).length:Int),?_,?_⟩
   ·rw [rfF,hm];simp only [List.append_assoc]
   ·have:=DrV.alt (e3.app rs2) g3
    simp only [List.append_assoc] at this ⊢
    exact this
theorem brV_join {t:ByteArray} {A C B:Nat} {v u:Val} (h:PieV t A C v) (k:Res3 t C B u) (hns:C < B→atSuffixB (byteAt t C)=false):A < B∧BraV t A B (catV v u):=by
 obtain ⟨b1,b2,b5,b6⟩:=h
 rcases k with ⟨rfl,rfl⟩ | ⟨q1,q0,q2,q5,q6⟩
 ·refine ⟨b1,Nat.le_of_lt b1,b2,b5,fun rs=>?_⟩
  obtain ⟨rs1,k,e2,e3⟩:=b6 C (Nat.le_refl _) b2 rs
  have hs:=size_ext (t:=t) (a:=A) b2
  obtain ⟨n,hn⟩:=e3 (rs++rs1,k) ⟨1,by
   rw [rfF,if_neg (by omega),if_neg (by omega),if_neg (by omega),if_neg (by omega),if_pos (by omega)]⟩
  rw [catV_unit]
  exact ⟨n,rs1,k,hn,e2⟩
 ·refine ⟨by omega,by omega,q2,Seq'.trans (by omega) b5 q5,fun rs=>?_⟩
  obtain ⟨rs1,k,e2,e3⟩:=b6 B (by omega) q2 rs
  obtain ⟨n2,rs2,kk,g1,g3⟩:=q6 (rs++rs1)
  have hs:=size_ext (t:=t) (a:=A) q2
  have hsx:=hns q1
  simp only [atSuffixB,Bool.or_eq_false_iff] at hsx
  have hby:=byteAt_win (t:=t) q2 (show A≤C by omega) q1
  obtain ⟨n,hn⟩:=e3 (rs++rs1++rs2++[⟨3,k,kk,0,0,noSet⟩],((rs++rs1++rs2).length:Int)) ⟨n2+1,by
   rw [rfF,hby,if_neg (by simp [hsx.1.1.1]),if_neg (by simp [hsx.1.1.2]),if_neg (by simp [hsx.1.2]),if_neg (by simp [hsx.2]),if_neg (by omega),if_pos (by omega),hs,ext_ext (by omega),show A+(C - A)=C from by omega,show A+(B - A)=B from by omega,g1]
   rfl⟩
  refine ⟨n,rs1++rs2++[⟨3,k,kk,0,0,noSet⟩],((rs++rs1++rs2).length:Int),?_,?_⟩
  ·rw [hn];simp only [List.append_assoc]
  ·have:=DrV.cat (e2.app rs2) g3
   simp only [List.append_assoc] at this ⊢
   exact this
def SufV (t:ByteArray) (A B:Nat) (v0 v:Val):Prop:=A≤B∧B≤t.size∧Seq' t noBar A B ∧
 ∀ a0 E rs l,a0≤A→B≤E→E≤t.size→DrV rs l v0→∃ rs1 k,DrV (rs++rs1) k v∧∀ fin,(∃ n,rfF n 3 (t.extract a0 E) (B - a0) k (rs++rs1)=some fin)→∃ n,rfF n 3 (t.extract a0 E) (A - a0) l rs=some fin
theorem SufV.refl {t:ByteArray} {A:Nat} {v:Val} (hA:A≤t.size):SufV t A A v v :=
 ⟨Nat.le_refl _,hA,Seq'.refl _ _ _,fun _ _ rs l _ _ _ hw=>⟨[],l,by simpa using hw,fun fin hf=>by simpa using hf⟩⟩
theorem SufV.trans {t:ByteArray} {A B C:Nat} {v0 v1 v2:Val} (h:SufV t A B v0 v1) (k:SufV t B C v1 v2):SufV t A C v0 v2:=by
 obtain ⟨a1,a2,a5,a6⟩:=h
 obtain ⟨b1,b2,b5,b6⟩:=k
 refine ⟨by omega,b2,Seq'.trans b1 a5 b5,fun a0 E rs l h1 h2 h3 h5=>?_⟩
 obtain ⟨rs1,k1,c2,c3⟩:=a6 a0 E rs l h1 (by omega) h3 h5
 obtain ⟨rs2,k2,d2,d3⟩:=b6 a0 E (rs++rs1) k1 (by omega) h2 h3 c2
 refine ⟨rs1++rs2,k2,by rw [←List.append_assoc];exact d2,fun fin hf=>?_⟩
 rw [←List.append_assoc] at hf
 exact c3 fin (d3 fin hf)
theorem sufV_star {t:ByteArray} {A:Nat} {v:Val} (hA:A < t.size) (e:byteAt t A=42):SufV t A (A+1) v (starV v):=by
 refine ⟨by omega,hA,Seq'.one (by omega) (by rw [e];decide) (step_one hA (by omega) (by omega) (by omega)),fun a0 E rs l g1 g2 g3 g5=>?_⟩
 have hs:=size_ext (t:=t) (a:=a0) g3
 have hby:=byteAt_win (t:=t) g3 g1 (show A < E by omega)
 refine ⟨[⟨5,l,0,0,0,noSet⟩],(rs.length:Int),g5.star,fun fin ⟨n,hn⟩=>⟨n+1,?_⟩⟩
 rw [rfF,hby,e,if_pos ⟨by omega,by decide⟩,show A - a0+1=A+1 - a0 from by omega];exact hn
theorem sufV_plus {t:ByteArray} {A:Nat} {v:Val} (hA:A < t.size) (e:byteAt t A=43):SufV t A (A+1) v (plusV v):=by
 refine ⟨by omega,hA,Seq'.one (by omega) (by rw [e];decide) (step_one hA (by omega) (by omega) (by omega)),fun a0 E rs l g1 g2 g3 g5=>?_⟩
 have hs:=size_ext (t:=t) (a:=a0) g3
 have hby:=byteAt_win (t:=t) g3 g1 (show A < E by omega)
 refine ⟨[⟨6,l,0,0,0,noSet⟩],(rs.length:Int),g5.plus,fun fin ⟨n,hn⟩=>⟨n+1,?_⟩⟩
 rw [rfF,hby,e,if_neg (by simp),if_pos ⟨by omega,by decide⟩,show A - a0+1=A+1 - a0 from by omega];exact hn
theorem sufV_opt {t:ByteArray} {A:Nat} {v:Val} (hA:A < t.size) (e:byteAt t A=63):SufV t A (A+1) v (optV v):=by
 refine ⟨by omega,hA,Seq'.one (by omega) (by rw [e];decide) (step_one hA (by omega) (by omega) (by omega)),fun a0 E rs l g1 g2 g3 g5=>?_⟩
 have hs:=size_ext (t:=t) (a:=a0) g3
 have hby:=byteAt_win (t:=t) g3 g1 (show A < E by omega)
 refine ⟨[⟨7,l,0,0,0,noSet⟩],(rs.length:Int),g5.opt,fun fin ⟨n,hn⟩=>⟨n+1,?_⟩⟩
 rw [rfF,hby,e,if_neg (by simp),if_neg (by simp),if_pos ⟨by omega,by decide⟩,show A - a0+1=A+1 - a0 from by omega];exact hn
theorem sufV_times {t:ByteArray} {A:Nat} {v:Val} (hA:A+4 < t.size) (c0:byteAt t A=123) (c1:decB (byteAt t (A+1))=true) (c2:byteAt t (A+2)=44) (c3:decB (byteAt t (A+3))=true) (c4:byteAt t (A+4)=125) :
  SufV t A (A+5) v (timesV (byteAt t (A+1) - 48).toNat (byteAt t (A+3) - 48).toNat v):=by
 have d1:48≤byteAt t (A+1)∧byteAt t (A+1)≤57:=by simpa [decB] using c1
 have d3:48≤byteAt t (A+3)∧byteAt t (A+3)≤57:=by simpa [decB] using c3
 refine ⟨by omega,by omega,?_,fun a0 E rs l g1 g2 g3 g5=>?_⟩
 ·have s0:Seq' t noBar A (A+1):=Seq'.one (by omega) (by rw [c0];decide) (step_one (by omega) (by omega) (by omega) (by omega))
  have s1:Seq' t noBar (A+1) (A+2):=Seq'.one (by omega) (by simp only [noBar,Bool.and_eq_true,Bool.not_eq_true',beq_eq_false_iff_ne];omega) (step_one (by omega) (by omega) (by omega) (by omega))
  have s2:Seq' t noBar (A+2) (A+3):=Seq'.one (by omega) (by rw [c2];decide) (step_one (by omega) (by omega) (by omega) (by omega))
  have s3:Seq' t noBar (A+3) (A+4):=Seq'.one (by omega) (by simp only [noBar,Bool.and_eq_true,Bool.not_eq_true',beq_eq_false_iff_ne];omega) (step_one (by omega) (by omega) (by omega) (by omega))
  have s4:Seq' t noBar (A+4) (A+5):=Seq'.one (by omega) (by rw [c4];decide) (step_one (by omega) (by omega) (by omega) (by omega))
  exact Seq'.trans (by omega) s0 (Seq'.trans (by omega) s1 (Seq'.trans (by omega) s2 (Seq'.trans (by omega) s3 s4)))
 ·have hs:=size_ext (t:=t) (a:=a0) g3
  have hby:=byteAt_win (t:=t) g3 g1 (show A < E by omega)
  have hb1:byteAt (t.extract a0 E) (A - a0+1)=byteAt t (A+1):=by rw [show A - a0+1=A+1 - a0 from by omega];exact byteAt_win g3 (by omega) (by omega)
  have hb3:byteAt (t.extract a0 E) (A - a0+3)=byteAt t (A+3):=by rw [show A - a0+3=A+3 - a0 from by omega];exact byteAt_win g3 (by omega) (by omega)
  refine ⟨[⟨8,l,0,byteAt t (A+1) - 48,byteAt t (A+3) - 48,noSet⟩],(rs.length:Int),DrV.times _ _ _ _ (by omega) (by omega) (by omega) (by omega) g5,fun fin ⟨n,hn⟩=>⟨n+1,?_⟩⟩
  rw [rfF,hby,c0,if_neg (by simp),if_neg (by simp),if_neg (by simp),if_pos ⟨by omega,by decide⟩,hb1,hb3,if_pos ⟨by omega,c1,c3⟩,show A - a0+5=A+5 - a0 from by omega]
  exact hn
theorem pieV_of {t:ByteArray} {A C B:Nat} {v v1:Val} (h60:t.size≤60) (h:AtoV t A C v) (k:SufV t C B v v1):PieV t A B v1:=by
 obtain ⟨a1,a2,a5,a6,a7⟩:=h
 obtain ⟨b1,b2,b5,b6⟩:=k
 refine ⟨by omega,b2,Seq'.trans b1 (Seq'.one a1 a6 a5) b5,fun E hE hEs rs=>?_⟩
 obtain ⟨n,rs1,k,e1,e3⟩:=a7 rs
 obtain ⟨rs2,k2,d2,d3⟩:=b6 A E (rs++rs1) k (by omega) hE hEs e3
 refine ⟨rs1++rs2,k2,by rw [←List.append_assoc];exact d2,fun fin hf=>?_⟩
 rw [←List.append_assoc] at hf
 obtain ⟨m,hm⟩:=d3 fin hf
 have hs:=size_ext (t:=t) (a:=A) hEs
 have hov:=a5 A E (Nat.le_refl _) (by omega) hEs 200 (by omega)
 rw [Nat.sub_self] at hov
 refine ⟨max n m+1,?_⟩
 rw [rfF,if_neg (by omega),hov]
 simp only [Option.bind_some]
 rw [if_pos (by omega),ext_ext (by omega),Nat.add_zero,show A+(C - A)=C from by omega,rfF_mono n (max n m) _ _ _ _ _ _ (by omega) e1]
 simp only [Option.bind_some]
 exact rfF_mono m (max n m) _ _ _ _ _ _ (by omega) hm
theorem atoV_par {t:ByteArray} {A C:Nat} {v:Val} (hA:byteAt t A=40) (h:PatV t (A+1) C v) (hC:C < t.size) (hc:byteAt t C=41):AtoV t A (C+1) v:=by
 obtain ⟨b1,b2,b5,b6⟩:=h
 refine ⟨by omega,hC,step_par hA b5 b1 hC hc,by rw [hA];decide,fun rs=>?_⟩
 obtain ⟨n,rs1,k,e1,e3⟩:=b6 rs
 have hs:=size_ext (t:=t) (a:=A) (b:=C+1) (by omega)
 have hb0:byteAt (t.extract A (C+1)) 0=40:=by rw [byteAt_ext (by omega) (by omega),Nat.add_zero];exact hA
 refine ⟨n+1,rs1,k,?_,e3⟩
 rw [rfF]
 ·rw [if_pos ⟨by omega,by rw [hb0];decide⟩,if_pos (by omega),hs,ext_ext (by omega),show A+(C+1 - A - 1)=C from by omega]
  exact e1
 all_goals (intro hh;omega)
theorem atoV_leaf {t:ByteArray} {A B:Nat} {f:Nat→Bool} (hs:StepT t A B) (hAB:A < B) (hB:B≤t.size) (h40:byteAt t A≠40) (hnb:noBar (byteAt t A)=true) (hl:leafS (t.extract A B)=some ⟨2,0,0,0,0,f⟩):AtoV t A B (Re.set f).val:=by
 refine ⟨hAB,hB,hs,hnb,fun rs=>⟨1,[⟨2,0,0,0,0,f⟩],(rs.length:Int),?_,DrV.set rs f⟩⟩
 have hb0:byteAt (t.extract A B) 0=byteAt t A:=by rw [byteAt_ext hB (by omega),Nat.add_zero]
 rw [rfF]
 ·rw [if_neg (by rw [hb0];simp [h40]),hl]
  rfl
 all_goals (intro hh;omega)
theorem braV_nil {t:ByteArray} {A:Nat} (hA:A≤t.size):BraV t A A Re.blank.val:=by
 refine ⟨Nat.le_refl _,hA,Seq'.refl _ _ _,fun rs=>⟨1,[⟨1,0,0,0,0,noSet⟩],(rs.length:Int),?_,DrV.blank _ _ rfl⟩⟩
 have hs:=size_ext (t:=t) (a:=A) hA
 rw [rfF,if_pos (by omega)]
def Dn (ns:List Nd) (fs:List (Nat→Bool)):Re→Int→Prop:=Re.fold (X:=Int→Prop) ⟨
 fun i=>∃ n,0≤i∧ns[i.toNat]?=some n∧n.kind=0,
 fun f i=>∃ n,0≤i∧ns[i.toNat]?=some n∧n.kind=1∧0≤n.set∧fs[n.set.toNat]?=some f,
 fun a b i=>∃ n,0≤i∧ns[i.toNat]?=some n∧n.kind=2∧n.left < i∧n.right < i∧a n.left∧b n.right,
 fun a b i=>∃ n,0≤i∧ns[i.toNat]?=some n∧n.kind=3∧n.left < i∧n.right < i∧a n.left∧b n.right,
 fun a i=>∃ n,0≤i∧ns[i.toNat]?=some n∧n.kind=4∧n.left < i∧a n.left,
 fun a i=>∃ n,0≤i∧ns[i.toNat]?=some n∧n.kind=5∧n.left < i∧a n.left,
 fun a i=>∃ n,0≤i∧ns[i.toNat]?=some n∧n.kind=6∧n.left < i∧a n.left,
 fun x y a i=>∃ n,0≤i∧ns[i.toNat]?=some n∧n.kind=7∧n.low=(x:Int)∧n.high=(y:Int)∧x≤9∧y≤9∧n.left < i∧a n.left⟩
theorem Dn.app {ns:List Nd} {fs:List (Nat→Bool)} (x:List Nd) (y:List (Nat→Bool)) {R:Re}:∀ {i:Int},Dn ns fs R i→Dn (ns++x) (fs++y) R i:=by
 induction R using Re.ind with
 | blank=>rintro i ⟨r,h0,h1,h2⟩;exact ⟨r,h0,getElem?_app h1 x,h2⟩
 | set f=>rintro i ⟨r,h0,h1,h2,h3,h4⟩;exact ⟨r,h0,getElem?_app h1 x,h2,h3,getElem?_app h4 y⟩
 | seq a b iha ihb=>rintro i ⟨r,h0,h1,h2,h3,h4,h5,h6⟩;exact ⟨r,h0,getElem?_app h1 x,h2,h3,h4,iha h5,ihb h6⟩
 | alt a b iha ihb=>rintro i ⟨r,h0,h1,h2,h3,h4,h5,h6⟩;exact ⟨r,h0,getElem?_app h1 x,h2,h3,h4,iha h5,ihb h6⟩
 | star a iha=>rintro i ⟨r,h0,h1,h2,h3,h4⟩;exact ⟨r,h0,getElem?_app h1 x,h2,h3,iha h4⟩
 | plus a iha=>rintro i ⟨r,h0,h1,h2,h3,h4⟩;exact ⟨r,h0,getElem?_app h1 x,h2,h3,iha h4⟩
 | opt a iha=>rintro i ⟨r,h0,h1,h2,h3,h4⟩;exact ⟨r,h0,getElem?_app h1 x,h2,h3,iha h4⟩
 | times m n a iha=>rintro i ⟨r,h0,h1,h2,h3,h4,h5,h6,h7,h8⟩;exact ⟨r,h0,getElem?_app h1 x,h2,h3,h4,h5,h6,h7,iha h8⟩
theorem Dn.lt {ns:List Nd} {fs:List (Nat→Bool)}:∀ {R:Re} {i:Int},Dn ns fs R i→0≤i∧i < (ns.length:Int):=by
 intro R i h
 have key:∃ n,0≤i∧ns[i.toNat]?=some n:=by
  cases R using Re.ind with
  | blank=>obtain ⟨n,h0,h1,_⟩:=h;exact ⟨n,h0,h1⟩
  | set f=>obtain ⟨n,h0,h1,_⟩:=h;exact ⟨n,h0,h1⟩
  | seq a b iha ihb=>obtain ⟨n,h0,h1,_⟩:=h;exact ⟨n,h0,h1⟩
  | alt a b iha ihb=>obtain ⟨n,h0,h1,_⟩:=h;exact ⟨n,h0,h1⟩
  | star a iha=>obtain ⟨n,h0,h1,_⟩:=h;exact ⟨n,h0,h1⟩
  | plus a iha=>obtain ⟨n,h0,h1,_⟩:=h;exact ⟨n,h0,h1⟩
  | opt a iha=>obtain ⟨n,h0,h1,_⟩:=h;exact ⟨n,h0,h1⟩
  | times m n a iha=>obtain ⟨n,h0,h1,_⟩:=h;exact ⟨n,h0,h1⟩
 obtain ⟨n,h0,h1⟩:=key
 have:=(List.getElem?_eq_some_iff.1 h1).1
 omega
end Go.Proofs.YtobfpgoepaeknaaGreat
namespace Go.Proofs.YtobfpgoepaeknaaGreat
theorem suffix_fs (t:ByteArray) (whole:Int) (x:St):(readSuffixS t whole x).fs=x.fs:=by
 unfold readSuffixS
 split
 ·rfl
 ·split
  ·rfl
  ·split<;>rfl
theorem leaf_fs (t:ByteArray) (x:St):∃ f,(readLeafS t x).fs=x.fs++[f]:=by
 unfold readLeafS
 split
 ·exact ⟨_,rfl⟩
 ·split
  ·exact ⟨_,rfl⟩
  ·exact ⟨_,rfl⟩
theorem rdF_fs (t:ByteArray):∀ (f tag:Nat) (whole:Int) (st:St) (r:St × Int),rdF t f tag whole st=some r→∃ e,r.1.fs=st.fs++e:=by
 intro f
 induction f with
 | zero=>intro tag whole st r h;simp [rdF] at h
 | succ f ih =>
  intro tag whole st r h
  match tag with
  | 0 =>
   simp only [rdF,Option.bind_eq_some_iff] at h
   obtain ⟨r1,h1,h2⟩:=h
   obtain ⟨e1,he1⟩:=ih 2 _ _ _ h1
   obtain ⟨e2,he2⟩:=ih 1 _ _ _ h2
   exact ⟨e1++e2,by rw [he2,he1,List.append_assoc]⟩
  | 1 =>
   simp only [rdF] at h
   split at h
   ·simp only [Option.bind_eq_some_iff] at h
    obtain ⟨r1,h1,h2⟩:=h
    obtain ⟨e1,he1⟩:=ih 2 _ _ _ h1
    obtain ⟨e2,he2⟩:=ih 1 _ _ _ h2
    have he1':r1.1.fs=st.fs++e1:=he1
    have he2':r.1.fs=r1.1.fs++e2:=he2
    exact ⟨e1++e2,by rw [he2',he1',List.append_assoc]⟩
   ·simp only [Option.some.injEq] at h;subst h;exact ⟨[],by simp⟩
  | 2 =>
   simp only [rdF] at h
   split at h
   ·simp only [Option.bind_eq_some_iff] at h
    obtain ⟨r1,h1,h2⟩:=h
    obtain ⟨e1,he1⟩:=ih 4 _ _ _ h1
    obtain ⟨e2,he2⟩:=ih 3 _ _ _ h2
    exact ⟨e1++e2,by rw [he2,he1,List.append_assoc]⟩
   ·simp only [Option.some.injEq] at h;subst h;exact ⟨[],by simp [St.add]⟩
  | 3 =>
   simp only [rdF] at h
   split at h
   ·simp only [Option.bind_eq_some_iff] at h
    obtain ⟨r1,h1,h2⟩:=h
    obtain ⟨e1,he1⟩:=ih 4 _ _ _ h1
    obtain ⟨e2,he2⟩:=ih 3 _ _ _ h2
    have he2':r.1.fs=r1.1.fs++e2:=he2
    exact ⟨e1++e2,by rw [he2',he1,List.append_assoc]⟩
   ·simp only [Option.some.injEq] at h;subst h;exact ⟨[],by simp⟩
  | 4 =>
   simp only [rdF,Option.bind_eq_some_iff] at h
   obtain ⟨r1,h1,h2⟩:=h
   obtain ⟨e1,he1⟩:=ih 6 _ _ _ h1
   obtain ⟨e2,he2⟩:=ih 5 _ _ _ h2
   exact ⟨e1++e2,by rw [he2,he1,List.append_assoc]⟩
  | 5 =>
   simp only [rdF] at h
   split at h
   ·obtain ⟨e2,he2⟩:=ih 5 _ _ _ h
    exact ⟨e2,by rw [he2,suffix_fs]⟩
   ·simp only [Option.some.injEq] at h;subst h;exact ⟨[],by simp⟩
  | tag+6 =>
   simp only [rdF] at h
   split at h
   ·simp only [Option.bind_eq_some_iff,Option.some.injEq] at h
    obtain ⟨r1,h1,rfl⟩:=h
    obtain ⟨e1,he1⟩:=ih 0 _ _ _ h1
    exact ⟨e1,he1⟩
   ·simp only [Option.some.injEq] at h;subst h
    obtain ⟨f,hf⟩:=leaf_fs t st
    exact ⟨[f],hf⟩
theorem rdF_dn {t:ByteArray} {f tag:Nat} {whole:Int} {st:St} {r:St × Int} (h:rdF t f tag whole st=some r) {R:Re} {i:Int} (hd:Dn st.ns st.fs R i):Dn r.1.ns r.1.fs R i:=by
 obtain ⟨e,he⟩:=(rdF_last t f tag whole st r h).1
 obtain ⟨e',he'⟩:=rdF_fs t f tag whole st r h
 rw [he,he'];exact hd.app e e'
theorem num_get (l:List Nd) (n:Nd):(l++[n])[((l.length:Int)).toNat]?=some n:=by simp
theorem Dn.cat {ns:List Nd} {fs:List (Nat→Bool)} {a b:Re} {i j:Int} (h1:Dn ns fs a i) (h2:Dn ns fs b j):Dn (ns++[⟨2,i,j,0,0,0⟩]) fs (.seq a b) (ns.length:Int):=by
 have e:fs=fs++[]:=by simp
 rw [e]
 exact ⟨_,by omega,num_get ns _,rfl,h1.lt.2,h2.lt.2,h1.app _ [],h2.app _ []⟩
theorem Dn.alt {ns:List Nd} {fs:List (Nat→Bool)} {a b:Re} {i j:Int} (h1:Dn ns fs a i) (h2:Dn ns fs b j):Dn (ns++[⟨3,i,j,0,0,0⟩]) fs (.alt a b) (ns.length:Int):=by
 have e:fs=fs++[]:=by simp
 rw [e]
 exact ⟨_,by omega,num_get ns _,rfl,h1.lt.2,h2.lt.2,h1.app _ [],h2.app _ []⟩
theorem suffixV_good {t:ByteArray} {st:St} {whole:Int} {R:Re} (hb:st.s.bad=false) (hk:st.s.k≤t.size) (hs:atSuffixB (st.s.pk t)=true) (hg:(readSuffixS t whole st).s.bad=false)
  (hd:Dn st.ns st.fs R whole):∃ R',Dn (readSuffixS t whole st).ns (readSuffixS t whole st).fs R' st.num∧SufV t st.s.k (readSuffixS t whole st).s.k R.val R'.val:=by
 have hlt:st.s.k < t.size∧st.s.pk t=byteAt t st.s.k:=by
  rcases pk_good hb hk with h1 | ⟨_,h2⟩
  ·exact h1
  ·rw [h2] at hs;exact absurd hs (by decide)
 have hl:=hd.lt
 have hd1:∀ n,Dn (st.ns++[n]) st.fs R whole:=fun n=>by have:=hd.app [n] [];simpa using this
 unfold readSuffixS at hg ⊢
 by_cases h1:(st.s.pk t == 42)=true
 ·rw [if_pos h1]
  refine ⟨.star R,⟨_,by simp only [St.num];omega,num_get st.ns _,rfl,hl.2,hd1 _⟩,?_⟩
  show SufV t st.s.k (takeS t 42 st.s).k _ _
  rw [takeS_eq h1]
  exact sufV_star hlt.1 (by rw [←hlt.2];simpa using h1)
 ·rw [if_neg h1] at hg ⊢
  by_cases h2:(st.s.pk t == 43)=true
  ·rw [if_pos h2]
   refine ⟨.plus R,⟨_,by simp only [St.num];omega,num_get st.ns _,rfl,hl.2,hd1 _⟩,?_⟩
   show SufV t st.s.k (takeS t 43 st.s).k _ _
   rw [takeS_eq h2]
   exact sufV_plus hlt.1 (by rw [←hlt.2];simpa using h2)
  ·rw [if_neg h2] at hg ⊢
   by_cases h3:(st.s.pk t == 63)=true
   ·rw [if_pos h3]
    refine ⟨.opt R,⟨_,by simp only [St.num];omega,num_get st.ns _,rfl,hl.2,hd1 _⟩,?_⟩
    show SufV t st.s.k (takeS t 63 st.s).k _ _
    rw [takeS_eq h3]
    exact sufV_opt hlt.1 (by rw [←hlt.2];simpa using h3)
   ·rw [if_neg h3] at hg ⊢
    have h4:(st.s.pk t == 123)=true:=by
     simp only [atSuffixB,Bool.or_eq_true] at hs
     rcases hs with ((hs | hs) | hs) | hs
     ·exact absurd hs h1
     ·exact absurd hs h2
     ·exact absurd hs h3
     ·exact hs
    have e123:byteAt t st.s.k=123:=by rw [←hlt.2];simpa using h4
    simp only [expectS_eq h4,hb] at hg ⊢
    have g5:(expectS t 125 (readDigitS t 10 (expectS t 44 (readDigitS t 10 ⟨st.s.k+1,false⟩).2)).2).bad=false:=hg
    have g4:=good_before (expectS_after t 125 _) g5
    have g3:=good_before (readDigitS_after t 10 _) g4
    have g2:=good_before (expectS_after t 44 _) g3
    obtain ⟨a1,a2,a3⟩:=digit10_good (t:=t) (s:=⟨st.s.k+1,false⟩) rfl (by simp only;omega) g2
    rw [a3] at g3 g4 g5 ⊢
    simp only at a1 a2 g3 g4 g5 ⊢
    obtain ⟨b1,b2,b3⟩:=expect_good (t:=t) (s:=⟨st.s.k+1+1,false⟩) (c:=44) rfl (by simp only;omega) (by omega) g3
    rw [b3] at g4 g5 ⊢
    simp only at b1 b2 g4 g5 ⊢
    obtain ⟨c1,c2,c3⟩:=digit10_good (t:=t) (s:=⟨st.s.k+1+1+1,false⟩) rfl (by simp only;omega) g4
    rw [c3] at g5 ⊢
    simp only at c1 c2 g5 ⊢
    obtain ⟨d1,d2,d3⟩:=expect_good (t:=t) (s:=⟨st.s.k+1+1+1+1,false⟩) (c:=125) rfl (by simp only;omega) (by omega) g5
    rw [d3]
    have v1:48≤byteAt t (st.s.k+1)∧byteAt t (st.s.k+1)≤57:=by simpa [decB] using a2
    have v3:48≤byteAt t (st.s.k+1+1+1)∧byteAt t (st.s.k+1+1+1)≤57:=by simpa [decB] using c2
    refine ⟨.times (byteAt t (st.s.k+1) - 48).toNat (byteAt t (st.s.k+1+1+1) - 48).toNat R,⟨_,by simp only [St.num];omega,num_get st.ns _,rfl,?_,?_,by omega,by omega,hl.2,hd1 _⟩,?_⟩
    ·show byteAt t (st.s.k+1) - 48=_;omega
    ·show byteAt t (st.s.k+1+1+1) - 48=_;omega
    ·exact sufV_times d1 e123 a2 b2 c2 d2
def GoodV (t:ByteArray) (tag:Nat) (whole:Int) (st:St) (r:St × Int):Prop :=
 match tag with
 | 0=>∃ R,Dn r.1.ns r.1.fs R r.2∧PatV t st.s.k r.1.s.k R.val
 | 1=>∀ R0,Dn st.ns st.fs R0 whole→∃ R u,Dn r.1.ns r.1.fs R r.2∧R.val=altV R0.val u∧Res1 t st.s.k r.1.s.k u
 | 2=>∃ R,Dn r.1.ns r.1.fs R r.2∧BraV t st.s.k r.1.s.k R.val
 | 3=>∀ R0,Dn st.ns st.fs R0 whole→∃ R u,Dn r.1.ns r.1.fs R r.2∧R.val=catV R0.val u∧Res3 t st.s.k r.1.s.k u
 | 4=>atAtomB (st.s.pk t)=true→∃ R,Dn r.1.ns r.1.fs R r.2∧PieV t st.s.k r.1.s.k R.val
 | 5=>∀ R0,Dn st.ns st.fs R0 whole→∃ R,Dn r.1.ns r.1.fs R r.2∧SufV t st.s.k r.1.s.k R0.val R.val
 | _=>atAtomB (st.s.pk t)=true→∃ R,Dn r.1.ns r.1.fs R r.2∧AtoV t st.s.k r.1.s.k R.val
theorem rdF_goodV (t:ByteArray) (h60:t.size≤60):∀ (f tag:Nat) (whole:Int) (st:St) (r:St × Int),st.s.k≤t.size→rdF t f tag whole st=some r→r.1.s.bad=false→GoodV t tag whole st r:=by
 intro f
 induction f with
 | zero=>intro tag whole st r _ h;simp [rdF] at h
 | succ f ih =>
  intro tag whole st r hk h hg
  match tag with
  | 0 =>
   simp only [rdF,Option.bind_eq_some_iff] at h
   obtain ⟨r1,h1,h2⟩:=h
   have f1:=facts_after (rdF_facts t f 2 _ _ _ hk h1)
   have f2:=facts_after (rdF_facts t f 1 _ _ _ f1.2 h2)
   have g1:=good_before f2.1 hg
   obtain ⟨R1,d1,q1⟩:=ih 2 _ _ _ hk h1 g1
   obtain ⟨R,u,d2,e,q2⟩:=ih 1 _ _ _ f1.2 h2 hg R1 d1
   exact ⟨R,d2,by rw [e];exact patV_join h60 q1 q2⟩
  | 1 =>
   simp only [rdF] at h
   intro R0 hd
   split at h
   ·rename_i hc
    simp only [Option.bind_eq_some_iff] at h
    obtain ⟨r1,h1,h2⟩:=h
    obtain ⟨hb,hlt⟩:=S1.pk_lt (t:=t) (s:=st.s) (by rw [beq_iff_eq] at hc;omega)
    have e124:byteAt t st.s.k=124:=by
     rcases pk_good hb hk with ⟨_,e⟩ | ⟨e,_⟩
     ·rw [←e];simpa using hc
     ·omega
    rw [takeS_eq hc] at h1
    have hk0:(st.at ⟨st.s.k+1,st.s.bad⟩).s.k≤t.size:=by simp only [St.at];omega
    have f1:=facts_after (rdF_facts t f 2 _ _ _ hk0 h1)
    have f2:=facts_after (rdF_facts t f 1 _ (r1.1.add ⟨3,whole,r1.2,0,0,0⟩) _ f1.2 h2)
    have g1:r1.1.s.bad=false:=good_before f2.1 hg
    obtain ⟨R1,d1,q1⟩:=ih 2 _ _ _ hk0 h1 g1
    have d0:Dn r1.1.ns r1.1.fs R0 whole:=rdF_dn h1 (show Dn (st.at ⟨st.s.k+1,st.s.bad⟩).ns (st.at ⟨st.s.k+1,st.s.bad⟩).fs R0 whole from hd)
    obtain ⟨R,u,d2,e,q2⟩:=ih 1 _ (r1.1.add ⟨3,whole,r1.2,0,0,0⟩) _ f1.2 h2 hg (.alt R0 R1) (Dn.alt d0 d1)
    have hp:=patV_join h60 q1 (show Res1 t r1.1.s.k r.1.s.k u from q2)
    refine ⟨R,altV R1.val u,d2,?_,Or.inr ⟨by have:=hp.1;simp only [St.at] at this;omega,e124,hp⟩⟩
    rw [e]
    show altV (altV R0.val R1.val) u=_
    rw [altV_assoc]
   ·simp only [Option.some.injEq] at h;subst h
    exact ⟨R0,alt0,hd,(altV_unit _).symm,Or.inl ⟨rfl,rfl⟩⟩
  | 2 =>
   simp only [rdF] at h
   split at h
   ·rename_i hc
    simp only [Option.bind_eq_some_iff] at h
    obtain ⟨r1,h1,h2⟩:=h
    have f1:=facts_after (rdF_facts t f 4 _ _ _ hk h1)
    have f2:=facts_after (rdF_facts t f 3 _ _ _ f1.2 h2)
    have g1:=good_before f2.1 hg
    have g0:=good_before f1.1 g1
    obtain ⟨R1,d1,q1⟩:=ih 4 _ _ _ hk h1 g1 hc
    obtain ⟨R,u,d2,e,q2⟩:=ih 3 _ _ _ f1.2 h2 hg R1 d1
    exact ⟨R,d2,by rw [e];exact (brV_join q1 q2 (fun hlt=>no_suffix hk g0 h1 hc g1 (by have:=f2.2;omega))).2⟩
   ·simp only [Option.some.injEq] at h;subst h
    refine ⟨.blank,⟨_,by simp only [St.num];omega,num_get st.ns _,rfl⟩,braV_nil hk⟩
  | 3 =>
   simp only [rdF] at h
   intro R0 hd
   split at h
   ·rename_i hc
    simp only [Option.bind_eq_some_iff] at h
    obtain ⟨r1,h1,h2⟩:=h
    have f1:=facts_after (rdF_facts t f 4 _ _ _ hk h1)
    have f2:=facts_after (rdF_facts t f 3 _ (r1.1.add ⟨2,whole,r1.2,0,0,0⟩) _ f1.2 h2)
    have g1:r1.1.s.bad=false:=good_before f2.1 hg
    have g0:=good_before f1.1 g1
    obtain ⟨R1,d1,q1⟩:=ih 4 _ _ _ hk h1 g1 hc
    have d0:Dn r1.1.ns r1.1.fs R0 whole:=rdF_dn h1 hd
    obtain ⟨R,u,d2,e,q2⟩:=ih 3 _ (r1.1.add ⟨2,whole,r1.2,0,0,0⟩) _ f1.2 h2 hg (.seq R0 R1) (Dn.cat d0 d1)
    have hj:=brV_join q1 (show Res3 t r1.1.s.k r.1.s.k u from q2) (fun hlt=>no_suffix hk g0 h1 hc g1 (by have:=f2.2;omega))
    refine ⟨R,catV R1.val u,d2,?_,Or.inr hj⟩
    rw [e]
    show catV (catV R0.val R1.val) u=_
    rw [catV_assoc]
   ·simp only [Option.some.injEq] at h;subst h
    exact ⟨R0,cat0,hd,(catV_unit _).symm,Or.inl ⟨rfl,rfl⟩⟩
  | 4 =>
   simp only [rdF,Option.bind_eq_some_iff] at h
   obtain ⟨r1,h1,h2⟩:=h
   intro ha
   have f1:=facts_after (rdF_facts t f 6 _ _ _ hk h1)
   have f2:=facts_after (rdF_facts t f 5 _ _ _ f1.2 h2)
   have g1:=good_before f2.1 hg
   obtain ⟨R1,d1,q1⟩:=ih 6 _ _ _ hk h1 g1 ha
   obtain ⟨R,d2,q2⟩:=ih 5 _ _ _ f1.2 h2 hg R1 d1
   exact ⟨R,d2,pieV_of h60 q1 q2⟩
  | 5 =>
   simp only [rdF] at h
   intro R0 hd
   split at h
   ·rename_i hc
    obtain ⟨a1,a2,a3,a4,a5⟩:=readSuffixS_facts (whole:=whole) hk hc
    have f2:=facts_after (rdF_facts t f 5 _ _ _ a2 h)
    have g1:=good_before f2.1 hg
    have g0:=good_before a1 g1
    obtain ⟨R1,d1,q1⟩:=suffixV_good g0 hk hc g1 hd
    obtain ⟨R,d2,q2⟩:=ih 5 _ _ _ a2 h hg R1 d1
    exact ⟨R,d2,q1.trans q2⟩
   ·simp only [Option.some.injEq] at h;subst h
    exact ⟨R0,hd,SufV.refl hk⟩
  | tag+6 =>
   simp only [rdF] at h
   intro ha
   split at h
   ·rename_i hc
    simp only [Option.bind_eq_some_iff,Option.some.injEq] at h
    obtain ⟨r1,h1,rfl⟩:=h
    obtain ⟨hb,hlt⟩:=S1.pk_lt (t:=t) (s:=st.s) (by rw [beq_iff_eq] at hc;omega)
    have e40:byteAt t st.s.k=40:=by
     rcases pk_good hb hk with ⟨_,e⟩ | ⟨e,_⟩
     ·rw [←e];simpa using hc
     ·omega
    rw [takeS_eq hc] at h1
    have hk0:(st.at ⟨st.s.k+1,st.s.bad⟩).s.k≤t.size:=by simp only [St.at];omega
    have f1:=facts_after (rdF_facts t f 0 _ _ _ hk0 h1)
    have hg':(expectS t 41 r1.1.s).bad=false:=hg
    have g1:r1.1.s.bad=false:=good_before (expectS_after t 41 _) hg'
    obtain ⟨x1,x2,x3⟩:=expect_good g1 f1.2 (by omega) hg'
    obtain ⟨R,d1,q1⟩:=ih 0 _ _ _ hk0 h1 g1
    refine ⟨R,d1,?_⟩
    show AtoV t st.s.k (expectS t 41 r1.1.s).k R.val
    rw [x3]
    exact atoV_par e40 q1 x1 x2
   ·rename_i hc
    simp only [Option.some.injEq] at h;subst h
    have hg':(readLeafS t st).s.bad=false:=hg
    have hb:=good_before (readLeafS_facts (t:=t) hk).1 hg'
    obtain ⟨l1,l2,l3,l4,_⟩:=leaf_good hb hk ha (by simpa using hc) hg'
    obtain ⟨ff,hff,hn,hfs⟩:=leaf_val hb hk ha (by simpa using hc) hg' h60
    refine ⟨.set ff,?_,?_⟩
    ·show Dn (readLeafS t st).ns (readLeafS t st).fs (.set ff) st.num
     rw [hn,hfs]
     exact ⟨_,by simp only [St.num];omega,num_get st.ns _,rfl,by simp only;omega,last_get st.fs ff⟩
    ·refine atoV_leaf l1 l2 l3 l4 ?_ hff
     rcases pk_good hb hk with ⟨_,e⟩ | ⟨_,e⟩
     ·rw [←e];exact atom_noBar ha
     ·rw [e] at ha;exact absurd ha (by decide)
theorem trueAll_at (ns:List Nd) (i:Nat) (n:Nd) (h:ns[i]?=some n):(trueAll ns)[i]?=some (max1 (rawW (trueAll (ns.take i)) n)):=by
 have hi:=(List.getElem?_eq_some_iff.1 h).1
 have e1:ns.take (i+1)=ns.take i++[n]:=by
  rw [List.take_add_one,h];rfl
 have e2:ns=ns.take (i+1)++ns.drop (i+1):=(List.take_append_drop _ _).symm
 obtain ⟨e,he⟩:=trueAll_app (ns.take (i+1)) (ns.drop (i+1))
 rw [←e2] at he
 rw [he,e1,trueAll_snoc]
 have hl:(trueAll (ns.take i)).length=i:=by rw [trueAll_len,List.length_take];omega
 rw [List.getElem?_append_left (by simp [hl])]
 rw [List.getElem?_append_right (by omega),hl];simp
theorem wAt_take (ns:List Nd) {i:Nat} {j:Int} (hi:i≤ns.length) (hj:j < (i:Int)):wAt (trueAll (ns.take i)) j=wAt (trueAll ns) j:=by
 obtain ⟨e,he⟩:=trueAll_app (ns.take i) (ns.drop i)
 rw [List.take_append_drop] at he
 have hl:(trueAll (ns.take i)).length=i:=by rw [trueAll_len,List.length_take];omega
 unfold wAt
 rw [hl,trueAll_len]
 by_cases h0:j < 0
 ·rw [if_pos (Or.inl h0),if_pos (Or.inl h0)]
 ·rw [if_neg (by omega),if_neg (by omega),he,List.getD_eq_getElem?_getD,List.getD_eq_getElem?_getD,List.getElem?_append_left (by omega)]
theorem wAt_of {ws:List Int} {i:Int} {w:Int} (h0:0≤i) (h:ws[i.toNat]?=some w):wAt ws i=w:=by
 have:=(List.getElem?_eq_some_iff.1 h).1
 unfold wAt
 rw [if_neg (by omega),List.getD_eq_getElem?_getD,h];rfl
theorem Dn.weighs {ns:List Nd} {fs:List (Nat→Bool)}:∀ {R:Re} {i:Int},Dn ns fs R i→wAt (trueAll ns) i=R.wt:=by
 have key:∀ (i:Int) (n:Nd),0≤i→ns[i.toNat]?=some n→wAt (trueAll ns) i=max1 (rawW (trueAll (ns.take i.toNat)) n):=fun i n h0 h=>wAt_of h0 (trueAll_at ns _ n h)
 have at':∀ (i j:Int) (n:Nd),0≤i→ns[i.toNat]?=some n→j < i→wAt (trueAll (ns.take i.toNat)) j=wAt (trueAll ns) j:=fun i j n h0 h hj=>wAt_take ns (Nat.le_of_lt (List.getElem?_eq_some_iff.1 h).1) (by omega)
 intro R
 induction R using Re.ind with
 | blank =>
  rintro i ⟨n,h0,h1,h2⟩
  rw [key i n h0 h1];unfold rawW;rw [h2];rfl
 | set f =>
  rintro i ⟨n,h0,h1,h2,_⟩
  rw [key i n h0 h1];unfold rawW;rw [h2];rfl
 | seq a b iha ihb =>
  rintro i ⟨n,h0,h1,h2,h3,h4,h5,h6⟩
  rw [key i n h0 h1];unfold rawW;rw [h2,if_pos (by decide),at' i _ n h0 h1 h3,at' i _ n h0 h1 h4,iha h5,ihb h6]
  have:=a.wt_pos;have:=b.wt_pos
  unfold max1;rw [if_neg (by omega)];rfl
 | alt a b iha ihb =>
  rintro i ⟨n,h0,h1,h2,h3,h4,h5,h6⟩
  rw [key i n h0 h1];unfold rawW;rw [h2,if_pos (by decide),at' i _ n h0 h1 h3,at' i _ n h0 h1 h4,iha h5,ihb h6]
  have:=a.wt_pos;have:=b.wt_pos
  unfold max1;rw [if_neg (by omega)];rfl
 | star a iha =>
  rintro i ⟨n,h0,h1,h2,h3,h5⟩
  rw [key i n h0 h1];unfold rawW;rw [h2,if_neg (by decide),if_pos (by decide),at' i _ n h0 h1 h3,iha h5]
  have:=a.wt_pos
  unfold max1;rw [if_neg (by omega)];rfl
 | plus a iha =>
  rintro i ⟨n,h0,h1,h2,h3,h5⟩
  rw [key i n h0 h1];unfold rawW;rw [h2,if_neg (by decide),if_pos (by decide),at' i _ n h0 h1 h3,iha h5]
  have:=a.wt_pos
  unfold max1;rw [if_neg (by omega)];rfl
 | opt a iha =>
  rintro i ⟨n,h0,h1,h2,h3,h5⟩
  rw [key i n h0 h1];unfold rawW;rw [h2,if_neg (by decide),if_pos (by decide),at' i _ n h0 h1 h3,iha h5]
  have:=a.wt_pos
  unfold max1;rw [if_neg (by omega)];rfl
 | times x y a iha =>
  rintro i ⟨n,h0,h1,h2,hx,hy,_,_,h3,h5⟩
  rw [key i n h0 h1];unfold rawW;rw [h2,if_neg (by decide),if_neg (by decide),if_pos (by decide),at' i _ n h0 h1 h3,iha h5,hy]
  rfl
theorem read_meets (t:ByteArray) (y:St) (i:Int) (h60:t.size≤60) (h:Rds t 0 0 x0 (y,i)) (hn:¬(y.s.bad=true∨y.s.k < t.size)) :
  ∃ R n rs k S,Dn y.ns y.fs R i∧i=(y.ns.length:Int) - 1∧lastW (weighAll y.ns)=cl R.wt∧rfF n 0 t 0 0 []=some (rs,k)∧Dr rs S k∧R.val=S.val:=by
 obtain ⟨f,hf⟩:=h
 have hk0:x0.s.k≤t.size:=Nat.zero_le _
 have hky:y.s.k≤t.size:=(rdF_facts t f 0 _ _ _ hk0 hf).2.1
 have hb:y.s.bad=false:=by
  cases hbb:y.s.bad
  ·rfl
  ·exact absurd (Or.inl hbb) hn
 have hk:y.s.k=t.size:=by
  have:¬y.s.k < t.size:=fun hh=>hn (Or.inr hh)
  omega
 obtain ⟨R,d,q⟩:=rdF_goodV t h60 f 0 0 x0 (y,i) hk0 hf hb
 obtain ⟨_,_,_,q6⟩:=q
 obtain ⟨n,rs1,k,e1,S,e3,e4⟩:=q6 []
 have hx:x0.s.k=0:=rfl
 simp only [hx] at e1
 rw [hk,ByteArray.extract_zero_size] at e1
 obtain ⟨hd,hl⟩:=rdF_ok t f 0 0 x0 (y,i) hf (by intro n hn;simp [x0] at hn)
 obtain ⟨_,hne,hi⟩:=rdF_last t f 0 0 x0 (y,i) hf
 have hi':i=(y.ns.length:Int) - 1:=hi
 refine ⟨R,n,[]++rs1,k,S,d,hi',?_,e1,e3,e4.symm⟩
 rw [lastW_cl y.ns hd hne]
 congr 1
 have:=wAt_last y.ns [] hne
 rw [List.append_nil,←hi'] at this
 rw [←this]
 exact d.weighs
end Go.Proofs.YtobfpgoepaeknaaGreat
namespace Go.Proofs.YtobfpgoepaeknaaGreat
open Go.RowKit
def top:Nat:=1152921504606846976
theorem ofInt_i64 (a:Nat) (ha:a < top):(BitVec.ofInt 64 (a:Int)).toNat=a:=by
 unfold top at ha
 rw [BitVec.ofInt_natCast,BitVec.toNat_ofNat];exact Nat.mod_eq_of_lt (by omega)
theorem wrap_i64 (a:Nat) (ha:a < top):IntKind.i64.wrap (a:Int)=(a:Int):=by
 unfold top at ha
 unfold IntKind.wrap
 simp only [IntKind.bits,IntKind.signed]
 have h1:(a:Int) % (2 ^ 64:Int)=a:=Int.emod_eq_of_lt (by omega) (by omega)
 simp only [h1]
 rw [if_neg (by simp;omega)]
theorem i64_and_nat (a b:Nat) (ha:a < top) (hb:b < top):bits .and .i64 (a:Int) (b:Int)=((a &&& b:Nat):Int):=by
 have hx:a &&& b < top:=Nat.lt_of_le_of_lt Nat.and_le_left ha
 show IntKind.i64.wrap ((BitVec.ofInt 64 (a:Int) &&& BitVec.ofInt 64 (b:Int)).toNat:Int)=_
 rw [BitVec.toNat_and,ofInt_i64 a ha,ofInt_i64 b hb,wrap_i64 _ hx]
theorem i64_or_nat (a b:Nat) (ha:a < top) (hb:b < top):bits .or .i64 (a:Int) (b:Int)=((a ||| b:Nat):Int):=by
 have hx:a ||| b < top:=Nat.or_lt_two_pow (n:=60) ha hb
 show IntKind.i64.wrap ((BitVec.ofInt 64 (a:Int) ||| BitVec.ofInt 64 (b:Int)).toNat:Int)=_
 rw [BitVec.toNat_or,ofInt_i64 a ha,ofInt_i64 b hb,wrap_i64 _ hx]
theorem wrap64_nat (a:Nat) (ha:a < top):wrap64 (a:Int)=(a:Int):=by unfold top at ha;unfold wrap64;omega
theorem cast_move (x k:Nat):((x * 2 ^ k:Nat):Int)=(x:Int) * 2 ^ k:=by simp
set_option maxHeartbeats 400000 in
theorem move_any (x k:Nat) (w:World) (hk:k≤60) (hx:x * 2 ^ k < top) :
  Calls Tryz.prog 64 #[.int .i64 (x:Int),.int .i64 (k:Int)] w fun e w'=>e=.returned (.int .i64 ((x * 2 ^ k:Nat):Int))∧w'=w:=by
 have HW:=hide (wrap64_nat _ hx)
 have hk':(k:Int)≤60:=by omega
 clear hx
 go_enter Tryz.func64,Tryz.ntmps64
 go_wp2
 go_ret
 exact ⟨ret_int (by rw [←unhide HW,cast_move]),rfl⟩
theorem pow_top {k:Nat} (hk:k < 60):2 ^ k < top:=Nat.pow_lt_pow_right (a:=2) (m:=k) (n:=60) (by omega) hk
theorem bit_and (x k:Nat):((2 ^ k &&& x:Nat):Int)≠0↔x.testBit k=true:=by
 have h:2 ^ k &&& x≠0↔x.testBit k=true:=by
  rw [and_ne_zero]
  constructor
  ·rintro ⟨i,h1,h2⟩;rw [bit_two] at h1;subst h1;exact h2
  ·intro h;exact ⟨k,(bit_two k k).2 rfl,h⟩
 rw [←h];omega
set_option maxHeartbeats 400000 in
theorem has_any (x k:Nat) (w:World) (hk:k < 60) (hx:x < top) :
  Calls Tryz.prog 112 #[.int .i64 (x:Int),.int .i64 (k:Int)] w fun e w'=>e=.returned (.bool (x.testBit k))∧w'=w:=by
 have hm:=move_any 1 k w (Nat.le_of_lt hk) (by rw [Nat.one_mul];exact pow_top hk)
 rw [Nat.one_mul] at hm
 have HM:=hide hm
 have e1:=i64_and_nat (2 ^ k) x (pow_top hk) hx
 have HB:=hide (bit_and x k)
 clear hm hk hx
 generalize 2 ^ k=b at *
 go_enter Tryz.func112,Tryz.ntmps112
 go_wp2_with (go_at_call 64;refine (unhide HM).mono ?_;rintro e w' ⟨rfl,rfl⟩)
 go_ret
 exact ⟨ret_bool (by rw [Bool.eq_iff_iff,←unhide HB];simp),rfl⟩
def natCells (xs:List Nat):List Value:=xs.map fun n:Nat=>.int .i64 (n:Int)
def NRow (w:World) (B:Nat) (v:Value) (xs:List Nat):Prop:=w.ownsRow B 3 1 v xs.length (natCells xs)
def ZRow (w:World) (B:Nat) (v:Value) (zs:List Int):Prop:=w.ownsRow B 3 1 v zs.length (intCells zs)
def setOf (fs:List (Nat→Bool)) (z:Int):Nat→Bool:=if 0≤z then (fs[z.toNat]?).getD (fun _=>false) else fun _=>false
def PartAt (w:World) (v:Value) (fs:List (Nat→Bool)) (p:Part):Prop :=
 ∃ nv sv zs,v=.agg #[.bool p.empty,.int .i64 (p.first:Int),.int .i64 (p.last:Int),nv,sv]∧NRow w 0 nv p.next∧ZRow w 0 sv zs∧zs.map (setOf fs)=p.sets
theorem own_below {w w':World} {B e z:Nat} {v:Value} {n:Nat} {xs:List Value} (h:w.ownsRow B e z v n xs) (hb:Below w.heap.size w w'):w'.ownsRow B e z v n xs :=
 h.kept (grownBy_of_below hb none) (by cases v.ownBlock<;>simp)
theorem NRow.below {w w':World} {B:Nat} {v:Value} {xs:List Nat} (h:NRow w B v xs) (hb:Below w.heap.size w w'):NRow w' B v xs:=own_below h hb
theorem ZRow.below {w w':World} {B:Nat} {v:Value} {xs:List Int} (h:ZRow w B v xs) (hb:Below w.heap.size w w'):ZRow w' B v xs:=own_below h hb
theorem PartAt.below {w w':World} {v:Value} {fs:List (Nat→Bool)} {p:Part} (h:PartAt w v fs p) (hb:Below w.heap.size w w'):PartAt w' v fs p:=by
 obtain ⟨nv,sv,zs,h1,h2,h3,h4⟩:=h
 exact ⟨nv,sv,zs,h1,h2.below hb,h3.below hb,h4⟩
theorem NRow.zero {w:World} {B:Nat} {v:Value} {xs:List Nat} (h:NRow w B v xs):NRow w 0 v xs:=ownsRow_less h (Nat.zero_le _)
theorem ZRow.zero {w:World} {B:Nat} {v:Value} {xs:List Int} (h:ZRow w B v xs):ZRow w 0 v xs:=ownsRow_less h (Nat.zero_le _)
theorem NRow.form {w:World} {B:Nat} {v:Value} {xs:List Nat} (h:NRow w B v xs):(∃ a c,v=.slice a xs.length c):=by
 rcases h.2 with ⟨rfl,h0⟩ | ⟨g,cap,cur,rfl,_⟩
 ·exact ⟨none,0,by rw [h0]⟩
 ·exact ⟨_,_,rfl⟩
theorem ZRow.form {w:World} {B:Nat} {v:Value} {xs:List Int} (h:ZRow w B v xs):(∃ a c,v=.slice a xs.length c):=by
 rcases h.2 with ⟨rfl,h0⟩ | ⟨g,cap,cur,rfl,_⟩
 ·exact ⟨none,0,by rw [h0]⟩
 ·exact ⟨_,_,rfl⟩
theorem NRow.at {w:World} {B:Nat} {v:Value} {xs:List Nat} (h:NRow w B v xs) {k:Nat} (hk:k < xs.length):∃ g cap,v=.slice (some ⟨g,0,none⟩) xs.length cap∧w.cell? ⟨g,k,none⟩=some (.int .i64 ((xs.getD k 0:Nat):Int)):=by
 obtain ⟨m,hm⟩:∃ m,xs.length=m+1:=⟨xs.length - 1,by omega⟩
 have h':w.ownsRow B 3 1 v xs.length (natCells xs):=h
 obtain ⟨g,cap,rfl⟩:∃ g cap,v=.slice (some ⟨g,0,none⟩) xs.length cap:=by
  rw [hm] at h' ⊢;exact own_form h'
 refine ⟨g,cap,rfl,?_⟩
 have:=h'.cells (g:=g) rfl k (.int .i64 ((xs.getD k 0:Nat):Int)) (by simp [natCells,hk])
 have hadd:(⟨g,0,none⟩:Addr).add k=⟨g,k,none⟩:=by unfold Addr.add;split<;>simp_all
 rwa [hadd] at this
theorem ZRow.at {w:World} {B:Nat} {v:Value} {xs:List Int} (h:ZRow w B v xs) {k:Nat} (hk:k < xs.length):∃ g cap,v=.slice (some ⟨g,0,none⟩) xs.length cap∧w.cell? ⟨g,k,none⟩=some (.int .i64 (xs.getD k 0)):=by
 obtain ⟨m,hm⟩:∃ m,xs.length=m+1:=⟨xs.length - 1,by omega⟩
 have h':w.ownsRow B 3 1 v xs.length (intCells xs):=h
 obtain ⟨g,cap,rfl⟩:∃ g cap,v=.slice (some ⟨g,0,none⟩) xs.length cap:=by
  rw [hm] at h' ⊢;exact own_form h'
 refine ⟨g,cap,rfl,?_⟩
 have:=h'.cells (g:=g) rfl k (.int .i64 (xs.getD k 0)) (by simp [intCells,hk])
 have hadd:(⟨g,0,none⟩:Addr).add k=⟨g,k,none⟩:=by unfold Addr.add;split<;>simp_all
 rwa [hadd] at this
end Go.Proofs.YtobfpgoepaeknaaGreat
namespace Go.Proofs.YtobfpgoepaeknaaGreat
open Go.RowKit
theorem natCells_snoc (xs:List Nat) (x:Nat):natCells (xs++[x])=natCells xs++[.int .i64 (x:Int)]:=by simp [natCells]
theorem linkN_snoc (xs:List Nat) (f t:Nat) {k:Nat} (hk:k < xs.length):linkN (xs.take (k+1)) f t=linkN (xs.take k) f t++[if f.testBit k then xs.getD k 0 ||| t else xs.getD k 0]:=by
 have e:xs.take (k+1)=xs.take k++[xs.getD k 0]:=by
  rw [List.take_add_one,List.getD_eq_getElem?_getD,List.getElem?_eq_getElem hk];rfl
 rw [e]
 unfold linkN
 rw [List.mapIdx_concat,List.length_take,Nat.min_eq_left (Nat.le_of_lt hk)]
set_option maxHeartbeats 1000000 in
theorem link_any (w:World) (v:Value) (xs:List Nat) (f t:Nat) (h:NRow w 0 v xs) (hl:xs.length≤50) (hx:∀ x∈xs,x < top) (hf:f < top) (ht:t < top) :
  Calls Tryz.prog 111 #[v,.int .i64 (f:Int),.int .i64 (t:Int)] w fun e w'=>∃ v',e=.returned v'∧NRow w' w.heap.size v' (linkN xs f t)∧Below w.heap.size w w':=by
 obtain ⟨sa,sc,rfl⟩:=h.form
 obtain ⟨i,i0,i1,i2,i3⟩:=info_of info3
 have HI:=hide (And.intro i0 (And.intro i1 (And.intro i2 i3)))
 have H:=hide h
 have HX:=hide hx
 have HL:=hide hl
 have HF:=hide (And.intro hf ht)
 have hL:(xs.length:Int)≤50:=by omega
 clear i0 i1 i2 i3 h hx hl hf ht
 go_enter Tryz.func111,Tryz.ntmps111
 go_wp2
 go_loopw [7,8] (fun v ix wr=>∃ k g2 cap2:Nat,v=.slice (some ⟨g2,0,none⟩) k cap2∧ix=.int .i64 k∧k≤xs.length ∧
  Hid (wr.ownsRow w.heap.size 3 1 (.slice (some ⟨g2,0,none⟩) k cap2) k (natCells (linkN (xs.take k) f t))∧Below w.heap.size w wr)) (fun _ ix _=>xs.length - (intOf ix).toNat)
 case atStart =>
  refine ⟨0,w.heap.size,0,rfl,rfl,Nat.zero_le _,?_,?_⟩
  ·have:=World.ownsRow_made (base:=w.heap.size) (e:=3) (size:=1) w #[] 0 (by simp) (by simp) rfl
   simpa [natCells,linkN] using this
  ·exact (Below.refl _ _).alloc (Nat.le_refl _) _
 case round =>
  rename_i wr
  obtain ⟨k,g2,cap2,rfl,rfl,hk,HH⟩:=hrel
  by_cases hlt:k < xs.length
  ·obtain ⟨g,cap,he,hc⟩:=((unhide H).below (unhide HH).2).at hlt
   simp only [Value.slice.injEq,true_and] at he
   obtain ⟨rfl,rfl⟩:=he
   have hlt':(k:Int) < (xs.length:Int):=by omega
   have HS:=hide (linkN_snoc xs f t hlt)
   have hk50:k < 50:=by have:=unhide HL;omega
   have HK:=hide hk50
   have hxk:xs.getD k 0 < top:=by
    rw [List.getD_eq_getElem?_getD,List.getElem?_eq_getElem hlt];exact unhide HX _ (List.getElem_mem _)
   have HH2:=hide (fun w=>has_any f k w (by omega) (unhide HF).1)
   have e1:=i64_or_nat (xs.getD k 0) t hxk (unhide HF).2
   clear hlt hk50 hxk
   generalize xs.getD k 0=x at *
   by_cases hb:f.testBit k=true
   ·rw [hb] at HH2 HS
    rw [if_pos rfl] at HS
    clear hb
    generalize x ||| t=y at *
    have HO2:=hide ((unhide HH).1.alloc (Obj.cells #[.int .i64 (y:Int)] 3))
    have HB2:=hide ((unhide HH).2.alloc (unhide HH).2.size (Obj.cells #[.int .i64 (y:Int)] 3))
    go_wp2_with (first
     | (go_at_call 112;refine (unhide HH2 _).mono ?_;rintro e w' ⟨rfl,hw'⟩;obtain rfl:wr=w':=hw'.symm)
     | (at_builtin;refine wpList_append_own _ rfl (.tmp 27) (.tmp 29) 37 rfl w.heap.size 3 i (.int .i64 0) 1 8 Tryz.underlying37 (unhide HI).1 (unhide HI).2.1 (unhide HI).2.2.1 (unhide HI).2.2.2 rfl (by decide) _ k _ rfl (unhide HO2) ⟨wr.heap.size,0,none⟩ 1 1 [.int .i64 (y:Int)] rfl rfl ?c1 ?c2 ?b1 ?b2 ?b3 ?next))
    case c1=>exact cell_one_new _ _ _
    case c2=>intro u hu;simp at hu;subst hu;rfl
    case b1=>have:=unhide HK;unfold maxLen;omega
    case b2=>have:=unhide HK;omega
    case b3=>have:=(unhide HB2).size;simp at this ⊢;omega
    case next =>
     intro v' w3 ho3 hg3 _
     obtain ⟨g3,cap3,rfl⟩:=own_form ho3
     have HO3:=hide ho3
     have HG3:=hide hg3
     clear ho3 hg3
     go_wp2
     go_roundw
     case rel =>
      refine ⟨k+1,g3,cap3,rfl,by go_num,by omega,?_,?_⟩
      ·rw [unhide HS,natCells_snoc];exact unhide HO3
      ·exact (unhide HB2).grown (unhide HG3) (unhide HB2).size (fun k' hk'=>((unhide HO2).lt k' hk').1)
     case measure=>simp [intOf];omega
   ·have hb':f.testBit k=false:=by simpa using hb
    rw [hb'] at HH2 HS
    rw [if_neg (by simp)] at HS
    clear hb hb'
    have HO2:=hide ((unhide HH).1.alloc (Obj.cells #[.int .i64 (x:Int)] 3))
    have HB2:=hide ((unhide HH).2.alloc (unhide HH).2.size (Obj.cells #[.int .i64 (x:Int)] 3))
    go_wp2_with (first
     | (go_at_call 112;refine (unhide HH2 _).mono ?_;rintro e w' ⟨rfl,hw'⟩;obtain rfl:wr=w':=hw'.symm)
     | (at_builtin;refine wpList_append_own _ rfl (.tmp 27) (.tmp 29) 37 rfl w.heap.size 3 i (.int .i64 0) 1 8 Tryz.underlying37 (unhide HI).1 (unhide HI).2.1 (unhide HI).2.2.1 (unhide HI).2.2.2 rfl (by decide) _ k _ rfl (unhide HO2) ⟨wr.heap.size,0,none⟩ 1 1 [.int .i64 (x:Int)] rfl rfl ?c1 ?c2 ?b1 ?b2 ?b3 ?next))
    case c1=>exact cell_one_new _ _ _
    case c2=>intro u hu;simp at hu;subst hu;rfl
    case b1=>have:=unhide HK;unfold maxLen;omega
    case b2=>have:=unhide HK;omega
    case b3=>have:=(unhide HB2).size;simp at this ⊢;omega
    case next =>
     intro v' w3 ho3 hg3 _
     obtain ⟨g3,cap3,rfl⟩:=own_form ho3
     have HO3:=hide ho3
     have HG3:=hide hg3
     clear ho3 hg3
     go_wp2
     go_roundw
     case rel =>
      refine ⟨k+1,g3,cap3,rfl,by go_num,by omega,?_,?_⟩
      ·rw [unhide HS,natCells_snoc];exact unhide HO3
      ·exact (unhide HB2).grown (unhide HG3) (unhide HB2).size (fun k' hk'=>((unhide HO2).lt k' hk').1)
     case measure=>simp [intOf];omega
  ·have hk2:k=xs.length:=by omega
   subst hk2
   have e1:xs.take xs.length=xs:=List.take_of_length_le (Nat.le_refl _)
   have HE:=hide e1
   clear e1
   go_wp2
   go_ret
   refine ⟨_,rfl,?_,(unhide HH).2⟩
   have:=(unhide HH).1
   rw [unhide HE] at this
   unfold NRow
   rw [linkN_length]
   exact this
end Go.Proofs.YtobfpgoepaeknaaGreat
namespace Go.Proofs.YtobfpgoepaeknaaGreat
open Go.RowKit
theorem cells_made {w:World} {B g:Nat} (x:Int) (hB:B≤g) (hg:w.heap.size=g):(w.alloc (Obj.cells #[.int .i64 x] 3)).ownsRow B 3 1 (.slice (some ⟨g,0,none⟩) 1 1) 1 [.int .i64 x]:=by
 subst hg
 exact ⟨rfl,.inr ⟨w.heap.size,1,#[.int .i64 x],rfl,hB,heap_alloc_new w _,Nat.le_refl _,by unfold maxLen;omega,rfl,rfl⟩⟩
set_option maxHeartbeats 400000 in
theorem onePart_any (w:World) (z:Int) (fs:List (Nat→Bool)) (f:Nat→Bool) (hf:setOf fs z=f) :
  Calls Tryz.prog 62 #[.int .i64 z] w fun e w'=>∃ v,e=.returned v∧PartAt w' v fs (oneN f)∧Below w.heap.size w w':=by
 have HF:=hide hf
 clear hf
 go_enter Tryz.func62,Tryz.ntmps62
 go_wp2
 refine bodyPost_ret (v:=.agg #[.bool false,.int .i64 1,.int .i64 1,.slice (some ⟨w.heap.size+1,0,none⟩) 1 1,.slice (some ⟨w.heap.size+2,0,none⟩) 1 1]) (by simp [results,Tryz.results62,go_sem]) rfl ?_
 refine ⟨_,rfl,⟨_,_,[z],rfl,?_,?_,?_⟩,?_⟩
 ·exact (cells_made 0 (Nat.zero_le _) (by simp)).alloc _
 ·exact cells_made z (Nat.zero_le _) (by simp)
 ·simp [oneN,unhide HF]
 ·exact ((((Below.refl _ _).alloc (Nat.le_refl _) _).alloc (by simp) _).alloc (by simp;omega) _)
set_option maxHeartbeats 400000 in
theorem orEmpty_any (w:World) (v:Value) (fs:List (Nat→Bool)) (p:Part) (h:PartAt w v fs p) :
  Calls Tryz.prog 109 #[v] w fun e w'=>∃ v,e=.returned v∧PartAt w' v fs (orEmptyN p)∧Below w.heap.size w w':=by
 obtain ⟨nv,sv,zs,rfl,h2,h3,h4⟩:=h
 obtain ⟨na,nc,rfl⟩:=h2.form
 obtain ⟨sa,sc,rfl⟩:=h3.form
 have H2:=hide h2
 have H3:=hide h3
 clear h2 h3
 go_enter Tryz.func109,Tryz.ntmps109
 go_wp2
 refine bodyPost_ret (v:=.agg #[.bool true,.int .i64 (p.first:Int),.int .i64 (p.last:Int),.slice na p.next.length nc,.slice sa zs.length sc]) (by simp [results,Tryz.results109,go_sem]) rfl ?_
 refine ⟨_,rfl,⟨_,_,zs,rfl,?_,?_,h4⟩,?_⟩
 ·exact NRow.below (unhide H2) (((Below.refl _ _).alloc (Nat.le_refl _) _).alloc (by simp) _)
 ·exact ZRow.below (unhide H3) (((Below.refl _ _).alloc (Nat.le_refl _) _).alloc (by simp) _)
 ·exact (((Below.refl _ _).alloc (Nat.le_refl _) _).alloc (by simp) _)
def Part.Small (p:Part):Prop:=p.next.length≤50∧p.first < top∧p.last < top∧∀ x∈p.next,x < top
theorem Part.Ok.small {p:Part} (h:p.Ok) (hl:p.next.length≤50):p.Small:=by
 have e:2 ^ p.next.length≤top:=Nat.pow_le_pow_right (n:=2) (by omega) (show p.next.length≤60 by omega)
 exact ⟨hl,Nat.lt_of_lt_of_le h.2.1 e,Nat.lt_of_lt_of_le h.2.2.1 e,fun x hx=>Nat.lt_of_lt_of_le (h.2.2.2 x hx) e⟩
theorem NRow.set {w:World} {B b:Nat} {v:Value} {xs:List Nat} (h:NRow w B v xs) (hb:b < B) (o:Nat) (u:Value):NRow (w.setCell ⟨b,o,none⟩ u) B v xs:=ownsRow_setCell_below h hb u
theorem ZRow.set {w:World} {B b:Nat} {v:Value} {xs:List Int} (h:ZRow w B v xs) (hb:b < B) (o:Nat) (u:Value):ZRow (w.setCell ⟨b,o,none⟩ u) B v xs:=ownsRow_setCell_below h hb u
theorem part_cells {w:World} {b:Nat} {v0 v1 v2 v3 v4:Value} {e:TypeId} (h:w.heap[b]?=some (.cells #[v0,v1,v2,v3,v4] e (0,0))) :
  w.cell? ⟨b,0,none⟩=some v0∧w.cell? ⟨b,1,none⟩=some v1∧w.cell? ⟨b,2,none⟩=some v2∧w.cell? ⟨b,3,none⟩=some v3∧w.cell? ⟨b,4,none⟩=some v4 :=
 ⟨by rw [cell_of_row _ _ _ _ _ _ h];rfl,by rw [cell_of_row _ _ _ _ _ _ h];rfl,by rw [cell_of_row _ _ _ _ _ _ h];rfl,by rw [cell_of_row _ _ _ _ _ _ h];rfl,by rw [cell_of_row _ _ _ _ _ _ h];rfl⟩
theorem part_free {w:World} {b:Nat} {cs:Array Value} {e:TypeId} (h:w.heap[b]?=some (.cells cs e (0,0))) :
  w.frozen? ⟨b,0,none⟩=false∧w.frozen? ⟨b,1,none⟩=false∧w.frozen? ⟨b,2,none⟩=false∧w.frozen? ⟨b,3,none⟩=false∧w.frozen? ⟨b,4,none⟩=false :=
 ⟨frozen_of_row _ _ _ _ _ h,frozen_of_row _ _ _ _ _ h,frozen_of_row _ _ _ _ _ h,frozen_of_row _ _ _ _ _ h,frozen_of_row _ _ _ _ _ h⟩
set_option maxHeartbeats 400000 in
theorem again_any (w:World) (v:Value) (fs:List (Nat→Bool)) (p:Part) (h:PartAt w v fs p) (hs:p.Small) :
  Calls Tryz.prog 110 #[v] w fun e w'=>∃ v,e=.returned v∧PartAt w' v fs (againN p)∧Below w.heap.size w w':=by
 obtain ⟨nv,sv,zs,rfl,h2,h3,h4⟩:=h
 obtain ⟨na,nc,rfl⟩:=h2.form
 obtain ⟨sa,sc,rfl⟩:=h3.form
 have hb:Below w.heap.size w ((w.alloc (Obj.cells #[.bool p.empty,.int .i64 (p.first:Int),.int .i64 (p.last:Int),.slice na p.next.length nc,.slice sa zs.length sc] 127)).alloc (Obj.cells #[.bool false,.int .i64 0,.int .i64 0,.slice none 0 0,.slice none 0 0] 127)) :=
  ((Below.refl _ _).alloc (Nat.le_refl _) _).alloc (by simp) _
 have HL:=hide (link_any _ _ _ p.last p.first (h2.below hb) hs.1 hs.2.2.2 hs.2.2.1 hs.2.1)
 have hbx:=heap_alloc2_old w (Obj.cells #[.bool p.empty,.int .i64 (p.first:Int),.int .i64 (p.last:Int),.slice na p.next.length nc,.slice sa zs.length sc] 127) (Obj.cells #[.bool false,.int .i64 0,.int .i64 0,.slice none 0 0,.slice none 0 0] 127)
 have hby:=heap_alloc_new (w.alloc (Obj.cells #[.bool p.empty,.int .i64 (p.first:Int),.int .i64 (p.last:Int),.slice na p.next.length nc,.slice sa zs.length sc] 127)) (Obj.cells #[.bool false,.int .i64 0,.int .i64 0,.slice none 0 0,.slice none 0 0] 127)
 have hsz:(w.alloc (Obj.cells #[.bool p.empty,.int .i64 (p.first:Int),.int .i64 (p.last:Int),.slice na p.next.length nc,.slice sa zs.length sc] 127)).heap.size=w.heap.size+1:=by simp
 rw [hsz] at hby
 have HX:=hide hbx
 have HY:=hide hby
 have HB:=hide hb
 have H3:=hide h3
 clear h2 h3 hb hs hbx hby hsz
 go_enter Tryz.func110,Tryz.ntmps110
 go_wp2_with fail
 refine (unhide HL).mono ?_
 rintro e w1 ⟨v',rfl,hv,hw1⟩
 have hx:=(hw1.block w.heap.size (by simp;omega)).trans (unhide HX)
 have hy:=(hw1.block (w.heap.size+1) (by simp)).trans (unhide HY)
 obtain ⟨x0,x1,x2,x3,x4⟩:=part_cells hx
 obtain ⟨u0,u1,u2,u3,u4⟩:=part_free hx
 obtain ⟨y0,y1,y2,y3,y4⟩:=part_cells hy
 obtain ⟨z0,z1,z2,z3,z4⟩:=part_free hy
 obtain ⟨va,vc,rfl⟩:=hv.form
 have hv2:NRow w1 (w.heap.size+2) _ _:=ownsRow_less hv (by simp)
 have HV:=hide hv2
 have HW:=hide ((unhide HB).trans (hw1.mono (unhide HB).size))
 clear hx hy hv hv2 hw1 HX HY
 go_wp2
 refine bodyPost_ret (v:=.agg #[.bool p.empty,.int .i64 (p.first:Int),.int .i64 (p.last:Int),.slice va (linkN p.next p.last p.first).length vc,.slice sa zs.length sc]) (by simp [results,Tryz.results110,go_sem, *]) rfl ?_
 have HF:∀ u0 u1 u2 u3 u4 u5,Below w.heap.size w ((((((w1.setCell ⟨w.heap.size,3,none⟩ u0).setCell ⟨w.heap.size+1,0,none⟩ u1).setCell ⟨w.heap.size+1,1,none⟩ u2).setCell ⟨w.heap.size+1,2,none⟩ u3).setCell ⟨w.heap.size+1,3,none⟩ u4).setCell ⟨w.heap.size+1,4,none⟩ u5) :=
  fun _ _ _ _ _ _=>((((((unhide HW).setCell (by simp) _).setCell (by simp) _).setCell (by simp) _).setCell (by simp) _).setCell (by simp) _).setCell (by simp) _
 refine ⟨_,rfl,⟨_,_,zs,rfl,?_,ZRow.below (unhide H3) (HF _ _ _ _ _ _),h4⟩,HF _ _ _ _ _ _⟩
 exact ((((((((unhide HV).set (by omega) _ _).set (by omega) _ _).set (by omega) _ _).set (by omega) _ _).set (by omega) _ _).set (by omega) _ _)).zero
end Go.Proofs.YtobfpgoepaeknaaGreat
