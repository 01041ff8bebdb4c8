/-
  Rows of operations, a row's copy.
  Runs of code, piece by piece: single operations, and looking a word up among all the words of an area.
  The code that judges a secret: reading a byte, a secret, by a table.
  The code that judges a secret: a secret is read by tables, the marks are added, the verdict is looked up.
-/
import Derived.Test.YtobfpgoepaeknaaGreatM00
import Derived.Laws.CopyRow
namespace Go.Proofs.YtobfpgoepaeknaaGreat
namespace Mc
open Go.RowKit
def oCells (os:List OpI):List Value:=os.flatMap ocs
theorem oCells_get (os:List OpI):∀ i j,i < os.length→j < 4→(oCells os)[i * 4+j]?=(ocs (os.getD i op0))[j]?:=by
 induction os with
 | nil=>intro i j hi;simp at hi
 | cons o os ih =>
  intro i j hi hj
  simp only [oCells,List.flatMap_cons] at *
  cases i with
  | zero=>rw [List.getElem?_append_left (by simp [ocs];omega)];simp
  | succ i =>
   rw [List.getElem?_append_right (by simp [ocs];omega),show (i+1) * 4+j - (ocs o).length=i * 4+j by simp [ocs];omega,ih i j (by simpa using hi) hj]
   simp
theorem infoO:(Tryz.prog.info? 209).map (fun i=>(i.zero,i.size,i.bytes))=some (some (.agg #[.int .i64 0,.int .i64 0,.int .i64 0,.int .i64 0]),4,32):=by kernel_rfl
end Mc
end Go.Proofs.YtobfpgoepaeknaaGreat
namespace Go.Proofs.YtobfpgoepaeknaaGreat
namespace Mc
def stepsN (cs:List OpI):Nat→MS→Option MS
 | 0,s=>some s
 | n+1,s=>if s.p < cs.length then (stepN (cs.getD s.p op0) s).bind (stepsN cs n) else none
theorem stepsN_add {cs:List OpI}:∀ (n m:Nat) (s:MS),stepsN cs (n+m) s=(stepsN cs n s).bind (stepsN cs m)
 | 0,m,s=>by rw [Nat.zero_add];rfl
 | n+1,m,s=>by
  rw [show n+1+m=(n+m)+1 by omega]
  unfold stepsN
  split
  ·cases h:stepN (cs.getD s.p op0) s with
   | none=>rfl
   | some s'=>simp only [Option.bind_some];exact stepsN_add n m s'
  ·rfl
theorem runN_of_steps {cs:List OpI}:∀ (n k:Nat) (s s':MS),stepsN cs n s=some s'→cs.length≤s'.p→n≤k→runN cs k s=.ok s'
 | 0,k,s,s',h,hp,_=>by
  simp only [stepsN,Option.some.injEq] at h
  subst h
  exact runN_ends hp
 | n+1,0,_,_,_,_,hk=>by omega
 | n+1,k+1,s,s',h,hp,hk=>by
  unfold stepsN at h
  split at h
  ·next hlt =>
   cases hs:stepN (cs.getD s.p op0) s with
   | none=>rw [hs] at h;cases h
   | some s1 =>
    rw [hs] at h
    rw [runN_step hlt hs]
    exact runN_of_steps n k s1 s' h hp (by omega)
  ·cases h
structure St (s:MS) (g:Nat→Nat) (M:List Nat) (p:Nat) (T:List Nat):Prop where
 len:s.R.length=16
 reg:∀ j,j < 16→s.R.getD j 0=g j
 mem:s.M=M
 pos:s.p=p
 tr:s.T=T
def upd (g:Nat→Nat) (a v:Nat):Nat→Nat:=fun j=>if j=a then v else g j
theorem upd_same (g:Nat→Nat) (a v:Nat):upd g a v a=v:=if_pos rfl
theorem upd_ne (g:Nat→Nat) {a j:Nat} (v:Nat) (h:j≠a):upd g a v j=g j:=if_neg h
def Goes (cs:List OpI) (n:Nat) (g:Nat→Nat) (M:List Nat) (p:Nat) (T:List Nat) (post:(Nat→Nat)→Prop) (M':List Nat) (p':Nat) (T':List Nat):Prop :=
 ∀ s,St s g M p T→∃ s' g',stepsN cs n s=some s'∧St s' g' M' p' T'∧post g'
section
variable {cs : List OpI} {n m : Nat} {g : Nat → Nat} {M M' M2 : List Nat} {p p' p2 : Nat} {T T' T2 : List Nat} {post post2 : (Nat → Nat) → Prop}
theorem Goes.zero (h:post g):Goes cs 0 g M p T post M p T:=fun s hs=>⟨s,g,rfl,hs,h⟩
theorem Goes.next (h:Goes cs n g M p T post M' p' T') (k:∀ g',post g'→Goes cs m g' M' p' T' post2 M2 p2 T2):Goes cs (n+m) g M p T post2 M2 p2 T2:=fun s hs=>by
 obtain ⟨s1,g1,h1,h2,h3⟩:=h s hs
 obtain ⟨s2,g2,k1,k2,k3⟩:=k g1 h3 s1 h2
 exact ⟨s2,g2,by rw [stepsN_add,h1];exact k1,k2,k3⟩
theorem Goes.mono (h:Goes cs n g M p T post M' p' T') (k:∀ g',post g'→post2 g'):Goes cs n g M p T post2 M' p' T':=fun s hs=>by
 obtain ⟨s1,g1,h1,h2,h3⟩:=h s hs
 exact ⟨s1,g1,h1,h2,k g1 h3⟩
theorem goes_one {o:OpI} (ho:cs[p]?=some o) (h:∀ s,St s g M p T→∃ s',stepN o s=some s'∧∃ g',St s' g' M' p' T'∧post g'):Goes cs 1 g M p T post M' p' T':=fun s hs=>by
 obtain ⟨s',h1,g',h2,h3⟩:=h s hs
 refine ⟨s',g',?_,h2,h3⟩
 have hlt:=(List.getElem?_eq_some_iff.1 ho).1
 unfold stepsN
 rw [hs.pos,if_pos hlt,List.getD_eq_getElem?_getD,ho]
 simp only [Option.getD_some,h1]
 rfl
theorem St.upd {s:MS} (hs:St s g M p T) {a v:Nat}:St ⟨s.R.set a v,s.M,s.p+1,s.T⟩ (upd g a v) M (p+1) T:=by
 refine ⟨by rw [List.length_set];exact hs.len,fun j hj=>?_,hs.mem,by rw [←hs.pos],hs.tr⟩
 show (s.R.set a v).getD j 0=_
 rw [List.getD_eq_getElem?_getD,List.getElem?_set]
 unfold Mc.upd
 by_cases e:a=j
 ·subst e;rw [if_pos rfl,if_pos (by rw [hs.len];exact hj),if_pos rfl];rfl
 ·rw [if_neg e,if_neg (fun q=>e q.symm),←List.getD_eq_getElem?_getD];exact hs.reg j hj
def opN (k a b c:Nat):OpI:=⟨(k:Int),(a:Int),(b:Int),(c:Int)⟩
theorem goes_set {a v c:Nat} (ho:cs[p]?=some (opN 0 a v c)) (h:post (upd g a v)):Goes cs 1 g M p T post M (p+1) T :=
 goes_one ho fun s hs=>⟨_,by simp [stepN,opN],_,hs.upd,h⟩
theorem goes_join {k a x y:Nat} (hk:1≤k∧k≤5) (hx:x < 16) (hy:y < 16) (ho:cs[p]?=some (opN k a x y)) (h:post (upd g a (joinN (k:Int) (g x) (g y)))):Goes cs 1 g M p T post M (p+1) T :=
 goes_one ho fun s hs=>by
  refine ⟨⟨s.R.set a (joinN (k:Int) (g x) (g y)),s.M,s.p+1,s.T⟩,?_,_,hs.upd,h⟩
  rw [stepN,if_neg (by simp [opN];omega),if_neg (by simp [opN];omega),if_neg (by simp [opN];omega),if_neg (by simp [opN];omega)]
  simp only [opN,MS.r,Int.toNat_natCast]
  rw [hs.reg x hx,hs.reg y hy]
theorem St.r {s:MS} (hs:St s g M p T) {x:Nat} (hx:x < 16):s.r (x:Int)=g x:=by
 unfold MS.r;rw [Int.toNat_natCast];exact hs.reg x hx
theorem goes_load {a x c:Nat} (hx:x < 16) (hg:g x < 4096) (ho:cs[p]?=some (opN 6 a x c)) (h:post (upd g a (M.getD (g x) 0))):Goes cs 1 g M p T post M (p+1) (T++[g x]) :=
 goes_one ho fun s hs=>by
  have hu:=hs.upd (a:=a) (v:=M.getD (g x) 0)
  refine ⟨⟨s.R.set a (M.getD (g x) 0),s.M,s.p+1,s.T++[g x]⟩,?_,_,⟨hu.len,hu.reg,hu.mem,hu.pos,by show s.T++[g x]=_;rw [hs.tr]⟩,h⟩
  have hr:=hs.r hx
  rw [stepN,if_neg (by simp [opN]),if_pos (by simp [opN]),if_pos (by show s.r (x:Int) < 4096;rw [hr];exact hg)]
  simp only [opN,hr,hs.mem,Int.toNat_natCast]
theorem goes_store {a x c:Nat} (ha:a < 16) (hx:x < 16) (hg:g x < 4096) (ho:cs[p]?=some (opN 7 a x c)) (h:post g):Goes cs 1 g M p T post (M.set (g x) (g a)) (p+1) (T++[10000+g x]) :=
 goes_one ho fun s hs=>by
  refine ⟨⟨s.R,s.M.set (g x) (g a),s.p+1,s.T++[10000+g x]⟩,?_,g,⟨hs.len,hs.reg,by show s.M.set _ _=_;rw [hs.mem],by show s.p+1=_;rw [hs.pos],by show s.T++_=_;rw [hs.tr]⟩,h⟩
  have hr:=hs.r hx
  have hr2:=hs.r ha
  rw [stepN,if_neg (by simp [opN]),if_neg (by simp [opN]),if_pos (by simp [opN]),if_pos (by show s.r (x:Int) < 4096;rw [hr];exact hg)]
  simp only [opN,hr,hr2]
theorem goes_no {a b c:Nat} (ha:a < 16) (hg:g a=0) (ho:cs[p]?=some (opN 8 a b c)) (h:post g):Goes cs 1 g M p T post M (p+1) (T++[20000]) :=
 goes_one ho fun s hs=>by
  refine ⟨⟨s.R,s.M,s.p+1,s.T++[20000]⟩,?_,g,⟨hs.len,hs.reg,hs.mem,by show s.p+1=_;rw [hs.pos],by show s.T++_=_;rw [hs.tr]⟩,h⟩
  rw [stepN,if_neg (by simp [opN]),if_neg (by simp [opN]),if_neg (by simp [opN]),if_pos (by simp [opN])]
  rw [if_pos (by show s.r (a:Int)=0;rw [hs.r ha];exact hg)]
theorem goes_yes {a b c:Nat} (ha:a < 16) (hg:g a≠0) (ho:cs[p]?=some (opN 8 a b c)) (h:post g):Goes cs 1 g M p T post M b (T++[20001]) :=
 goes_one ho fun s hs=>by
  refine ⟨⟨s.R,s.M,b,s.T++[20001]⟩,?_,g,⟨hs.len,hs.reg,hs.mem,rfl,by show s.T++_=_;rw [hs.tr]⟩,h⟩
  rw [stepN,if_neg (by simp [opN]),if_neg (by simp [opN]),if_neg (by simp [opN]),if_pos (by simp [opN])]
  rw [if_neg (by show ¬s.r (a:Int)=0;rw [hs.r ha];exact hg)]
  simp only [opN,Int.toNat_natCast]
end
def lookOps (b e p:Nat):List OpI:=[opN 0 7 b 0,opN 0 8 e 0,opN 0 6 0 0,opN 6 9 7 0,opN 5 10 7 5,opN 2 9 9 10,opN 3 6 6 9,opN 1 7 7 0,opN 4 10 7 8,opN 8 10 (p+3) 0]
def lookT:Nat→Nat→List Nat
 | _,0=>[]
 | b,1=>[b,20000]
 | b,n+2=>[b,20001]++lookT (b+1) (n+1)
def At (cs:List OpI) (p:Nat) (l:List OpI):Prop:=∀ i,i < l.length→cs[p+i]?=l[i]?
theorem At.app {cs:List OpI} {p:Nat} {l l2:List OpI} (h:At cs p (l++l2)):At cs p l∧At cs (p+l.length) l2:=by
 refine ⟨fun i hi=>?_,fun i hi=>?_⟩
 ·rw [h i (by rw [List.length_append];omega),List.getElem?_append_left hi]
 ·rw [Nat.add_assoc,h (l.length+i) (by rw [List.length_append];omega),List.getElem?_append_right (by omega),Nat.add_sub_cancel_left]
def found (M:List Nat) (b e w:Nat):Nat:=if b≤w∧w < e then M.getD w 0 else 0
def Keeps (g g':Nat→Nat):Prop:=∀ j,j≠6→j≠7→j≠8→j≠9→j≠10→g' j=g j
theorem and_full {x:Nat} (h:x≤65535):x &&& 65535=x:=by
 have:(65535:Nat)=2 ^ 16 - 1:=by decide
 rw [this,Nat.and_two_pow_sub_one_eq_mod]
 exact Nat.mod_eq_of_lt (by omega)
theorem look_round {cs:List OpI} {M:List Nat} {b e p x:Nat} (hc:At cs p (lookOps b e p)) (hM:∀ i,M.getD i 0≤65535) (he:e≤4096) (hx:x < e) (hb:b≤x) (g0 g:Nat→Nat) (h0:g0 0=1) (T:List Nat)
  (hk:Keeps g0 g) (h7:g 7=x) (h8:g 8=e) (h6:g 6=found M b x (g0 5)) :
  Goes cs 6 g M (p+3) T (fun g'=>Keeps g0 g'∧g' 7=x+1∧g' 8=e∧g' 6=found M b (x+1) (g0 5)∧g' 10=(x+1) ^^^ e) M (p+9) (T++[x]):=by
 have c3:=hc 3 (by simp [lookOps])
 have c4:=hc 4 (by simp [lookOps])
 have c5:=hc 5 (by simp [lookOps])
 have c6:=hc 6 (by simp [lookOps])
 have c7:=hc 7 (by simp [lookOps])
 have c8:=hc 8 (by simp [lookOps])
 have g0':g 0=1:=by rw [hk 0 (by decide) (by decide) (by decide) (by decide) (by decide)];exact h0
 have g5:g 5=g0 5:=hk 5 (by decide) (by decide) (by decide) (by decide) (by decide)
 have hl:=goes_load (g:=g) (M:=M) (p:=p+3) (T:=T) (a:=9) (x:=7) (c:=0) (post:=fun q=>q=upd g 9 (M.getD x 0)) (by decide) (by rw [h7];omega) c3 (by rw [h7])
 rw [h7] at hl
 refine (hl.next (m:=5) fun q hq=>?_)
 subst hq
 refine Goes.next (n:=1) (m:=4) (goes_join (k:=5) (post:=fun q=>q=upd (upd g 9 (M.getD x 0)) 10 (if x=g0 5 then 65535 else 0)) (by decide) (by decide) (by decide) c4 ?_) fun q hq=>?_
 ·rw [upd_ne _ _ (by decide),upd_ne _ _ (by decide),h7,g5]
  congr 1
 subst hq
 refine Goes.next (n:=1) (m:=3) (goes_join (k:=2) (post:=fun q=>Keeps g0 q∧q 7=x∧q 8=e∧q 6=found M b x (g0 5)∧q 9=(if x=g0 5 then M.getD x 0 else 0)) (by decide) (by decide) (by decide) c5 ?_) fun q hq=>?_
 ·refine ⟨fun j a6 a7 a8 a9 a10=>?_,?_,?_,?_,?_⟩
  ·rw [upd_ne _ _ a9,upd_ne _ _ a10,upd_ne _ _ a9];exact hk j a6 a7 a8 a9 a10
  ·rw [upd_ne _ _ (by decide),upd_ne _ _ (by decide),upd_ne _ _ (by decide)];exact h7
  ·rw [upd_ne _ _ (by decide),upd_ne _ _ (by decide),upd_ne _ _ (by decide)];exact h8
  ·rw [upd_ne _ _ (by decide),upd_ne _ _ (by decide),upd_ne _ _ (by decide)];exact h6
  ·rw [upd_same,upd_ne _ _ (by decide),upd_same,upd_same]
   show joinN 2 _ _=_
   unfold joinN
   rw [if_neg (by decide),if_pos rfl]
   split
   ·exact and_full (hM x)
   ·exact Nat.and_zero _
 obtain ⟨hk2,q7,q8,q6,q9⟩:=hq
 refine Goes.next (n:=1) (m:=2) (goes_join (k:=3) (post:=fun r=>Keeps g0 r∧r 7=x∧r 8=e∧r 6=found M b (x+1) (g0 5)) (by decide) (by decide) (by decide) c6 ?_) fun r hr=>?_
 ·refine ⟨fun j a6 a7 a8 a9 a10=>?_,?_,?_,?_⟩
  ·rw [upd_ne _ _ a6];exact hk2 j a6 a7 a8 a9 a10
  ·rw [upd_ne _ _ (by decide)];exact q7
  ·rw [upd_ne _ _ (by decide)];exact q8
  ·rw [upd_same,q6,q9]
   show joinN 3 _ _=_
   unfold joinN found
   rw [if_neg (by decide),if_neg (by decide),if_pos rfl]
   by_cases e1:x=g0 5
   ·rw [if_pos e1,if_neg (by omega),if_pos (by omega),e1];exact Nat.zero_or _
   ·rw [if_neg e1,Nat.or_zero]
    by_cases e2:b≤g0 5∧g0 5 < x
    ·rw [if_pos e2,if_pos (by omega)]
    ·rw [if_neg e2,if_neg (by omega)]
 obtain ⟨hk3,r7,r8,r6⟩:=hr
 have r0:r 0=1:=by rw [hk3 0 (by decide) (by decide) (by decide) (by decide) (by decide)];exact h0
 refine Goes.next (n:=1) (m:=1) (goes_join (k:=1) (post:=fun q=>Keeps g0 q∧q 7=x+1∧q 8=e∧q 6=found M b (x+1) (g0 5)) (by decide) (by decide) (by decide) c7 ?_) fun q hq=>?_
 ·refine ⟨fun j a6 a7 a8 a9 a10=>?_,?_,?_,?_⟩
  ·rw [upd_ne _ _ a7];exact hk3 j a6 a7 a8 a9 a10
  ·rw [upd_same,r7,r0]
   show joinN 1 _ _=_
   unfold joinN
   rw [if_pos rfl];omega
  ·rw [upd_ne _ _ (by decide)];exact r8
  ·rw [upd_ne _ _ (by decide)];exact r6
 obtain ⟨hk4,q7,q8,q6⟩:=hq
 refine goes_join (k:=4) (by decide) (by decide) (by decide) c8 ⟨fun j a6 a7 a8 a9 a10=>?_,?_,?_,?_,?_⟩
 ·rw [upd_ne _ _ a10];exact hk4 j a6 a7 a8 a9 a10
 ·rw [upd_ne _ _ (by decide)];exact q7
 ·rw [upd_ne _ _ (by decide)];exact q8
 ·rw [upd_ne _ _ (by decide)];exact q6
 ·rw [upd_same,q7,q8]
  show joinN 4 _ _=_
  unfold joinN
  rw [if_neg (by decide),if_neg (by decide),if_neg (by decide),if_pos rfl]
theorem xor_zero_iff {x y:Nat}:x ^^^ y=0↔x=y:=by
 constructor
 ·intro h
  have:=congrArg (· ^^^ y) h
  simpa [Nat.xor_assoc] using this
 ·rintro rfl;exact Nat.xor_self _
theorem look_loop {cs:List OpI} {M:List Nat} {b e p:Nat} (hc:At cs p (lookOps b e p)) (hM:∀ i,M.getD i 0≤65535) (he:e≤4096) (g0:Nat→Nat) (h0:g0 0=1) :
  ∀ (n x:Nat) (g:Nat→Nat) (T:List Nat),x+(n+1)=e→b≤x→Keeps g0 g→g 7=x→g 8=e→g 6=found M b x (g0 5) →
   Goes cs (7 * (n+1)) g M (p+3) T (fun g'=>Keeps g0 g'∧g' 6=found M b e (g0 5)) M (p+10) (T++lookT x (n+1)):=by
 have c9:=hc 9 (by simp [lookOps])
 intro n
 induction n with
 | zero =>
  intro x g T hx hb hk h7 h8 h6
  refine Goes.next (n:=6) (m:=1) (look_round hc hM he (by omega) hb g0 g h0 T hk h7 h8 h6) fun q hq=>?_
  obtain ⟨hk2,q7,q8,q6,q10⟩:=hq
  have:=goes_no (M:=M) (T:=T++[x]) (post:=fun g'=>Keeps g0 g'∧g' 6=found M b e (g0 5)) (by decide) (by rw [q10];exact xor_zero_iff.2 (by omega)) c9 ⟨hk2,by rw [q6,show x+1=e by omega]⟩
  simpa [lookT,List.append_assoc] using this
 | succ n ih =>
  intro x g T hx hb hk h7 h8 h6
  rw [show 7 * (n+1+1)=6+(1+7 * (n+1)) by omega]
  refine Goes.next (look_round hc hM he (by omega) hb g0 g h0 T hk h7 h8 h6) fun q hq=>?_
  obtain ⟨hk2,q7,q8,q6,q10⟩:=hq
  refine Goes.next (goes_yes (M:=M) (T:=T++[x]) (post:=fun g'=>g'=q) (by decide) (by rw [q10];intro hz;have:=xor_zero_iff.1 hz;omega) c9 rfl) fun r hr=>?_
  subst hr
  have:=ih (x+1) r (T++[x]++[20001]) (by omega) (by omega) hk2 q7 q8 q6
  simpa [lookT,List.append_assoc] using this
theorem look_any {cs:List OpI} {M:List Nat} {b e p:Nat} (hc:At cs p (lookOps b e p)) (hM:∀ i,M.getD i 0≤65535) (hb:b < e) (he:e≤4096) (g:Nat→Nat) (h0:g 0=1) (T:List Nat) :
  Goes cs (3+7 * (e - b)) g M p T (fun g'=>Keeps g g'∧g' 6=found M b e (g 5)) M (p+10) (T++lookT b (e - b)):=by
 have c0:=hc 0 (by simp [lookOps])
 have c1:=hc 1 (by simp [lookOps])
 have c2:=hc 2 (by simp [lookOps])
 obtain ⟨n,hn⟩:∃ n,e - b=n+1:=⟨e - b - 1,by omega⟩
 rw [hn,show 3+7 * (n+1)=1+(1+(1+7 * (n+1))) by omega]
 refine Goes.next (goes_set (post:=fun q=>q=upd g 7 b) c0 rfl) fun q hq=>?_
 subst hq
 refine Goes.next (goes_set (post:=fun q=>q=upd (upd g 7 b) 8 e) c1 rfl) fun q hq=>?_
 subst hq
 refine Goes.next (goes_set (post:=fun q=>q=upd (upd (upd g 7 b) 8 e) 6 0) c2 rfl) fun q hq=>?_
 subst hq
 refine look_loop hc hM he g h0 n b _ T (by omega) (Nat.le_refl _) (fun j a6 a7 a8 _ _=>?_) ?_ ?_ ?_
 ·rw [upd_ne _ _ a6,upd_ne _ _ a8,upd_ne _ _ a7]
 ·rw [upd_ne _ _ (by decide),upd_ne _ _ (by decide),upd_same]
 ·rw [upd_ne _ _ (by decide),upd_same]
 ·rw [upd_same,found,if_neg (by omega)]
end Mc
end Go.Proofs.YtobfpgoepaeknaaGreat
namespace Go.Proofs.YtobfpgoepaeknaaGreat
namespace Mc
def readByteOps (i cb ce rb re p:Nat):List OpI :=
 [opN 0 10 i 0,opN 5 10 10 1,opN 3 4 4 10,opN 0 10 (1+i) 0,opN 6 5 10 0,opN 0 10 cb 0,opN 1 5 5 10]++(lookOps cb ce (p+7)++([opN 1 5 3 6]++(lookOps rb re (p+18)++[opN 4 10 3 6,opN 2 10 10 4,opN 4 3 6 10])))
def readByteT (i cb ce rb re:Nat):List Nat:=[1+i]++(lookT cb (ce - cb)++lookT rb (re - rb))
def readByteN (cb ce rb re:Nat):Nat:=7+((3+7 * (ce - cb))+(1+((3+7 * (re - rb))+3)))
theorem found_le {M:List Nat} (hM:∀ i,M.getD i 0≤65535) (b e w:Nat):found M b e w≤65535:=by unfold found;split;exact hM _;omega
def endW (b:Bool):Nat:=if b then 65535 else 0
theorem pick_row {r r2:Nat} (h1:r≤65535) (h2:r2≤65535) (b:Bool):r2 ^^^ ((r ^^^ r2) &&& endW b)=if b then r else r2:=by
 cases b
 ·simp [endW]
 ·have hx:r ^^^ r2≤65535:=by
   have:r ^^^ r2 < 2 ^ 16:=Nat.xor_lt_two_pow (by omega) (by omega)
   omega
  show r2 ^^^ ((r ^^^ r2) &&& 65535)=r
  rw [and_full hx,Nat.xor_comm r r2,←Nat.xor_assoc,Nat.xor_self,Nat.zero_xor]
theorem or_end (b c:Bool):endW b ||| endW c=endW (b || c):=by cases b<;>cases c<;>decide
theorem j1 {x y:Nat} (h:x+y≤65535):joinN ((1:Nat):Int) x y=x+y:=by show joinN 1 x y=_;unfold joinN;rw [if_pos rfl];omega
theorem j2 (x y:Nat):joinN ((2:Nat):Int) x y=x &&& y:=by show joinN 2 x y=_;unfold joinN;rw [if_neg (by decide),if_pos rfl]
theorem j3 (x y:Nat):joinN ((3:Nat):Int) x y=x ||| y:=by show joinN 3 x y=_;unfold joinN;rw [if_neg (by decide),if_neg (by decide),if_pos rfl]
theorem j4 (x y:Nat):joinN ((4:Nat):Int) x y=x ^^^ y:=by show joinN 4 x y=_;unfold joinN;rw [if_neg (by decide),if_neg (by decide),if_neg (by decide),if_pos rfl]
theorem j5 (x y:Nat):joinN ((5:Nat):Int) x y=endW (decide (x=y)):=by show joinN 5 x y=_;unfold joinN endW;rw [if_neg (by decide),if_neg (by decide),if_neg (by decide),if_neg (by decide)];simp
theorem At.get {cs:List OpI} {p:Nat} {l:List OpI} (h:At cs p l) (i:Nat) {o:OpI} (ho:l[i]?=some o):cs[p+i]?=some o:=(h i (List.getElem?_eq_some_iff.1 ho).1).trans ho
structure Rg (g:Nat→Nat) (L v r:Nat) (en:Bool):Prop where
 one:g 0=1
 len:g 1=L
 ver:g 2=v
 row:g 3=r
 en:g 4=endW en
theorem readByte_any {cs:List OpI} {M:List Nat} {i cb ce rb re p L v r:Nat} {en:Bool} {g:Nat→Nat} {T:List Nat} (hc:At cs p (readByteOps i cb ce rb re p)) (hM:∀ i,M.getD i 0≤65535) (hcb:cb < ce) (hce:ce≤4096) (hrb:rb < re) (hre:re≤4096) (hi:1+i < 4096)
  (hw:M.getD (1+i) 0+cb≤65535) (hr:r+found M cb ce (M.getD (1+i) 0+cb)≤65535) (hg:Rg g L v r en) :
  Goes cs (readByteN cb ce rb re) g M p T (fun g'=>Rg g' L v (if en || decide (i=L) then r else found M rb re (r+found M cb ce (M.getD (1+i) 0+cb))) (en || decide (i=L))) M (p+31) (T++readByteT i cb ce rb re):=by
 obtain ⟨a1,hc2⟩:=hc.app
 obtain ⟨a2,hc3⟩:=hc2.app
 obtain ⟨a3,hc4⟩:=hc3.app
 obtain ⟨a4,a5⟩:=hc4.app
 simp only [List.length_cons,List.length_nil,Nat.zero_add,lookOps] at a2 a3 a4 a5
 have e0:=a1.get 0 rfl
 have e1:=a1.get 1 rfl
 have e2:=a1.get 2 rfl
 have e3:=a1.get 3 rfl
 have e4:=a1.get 4 rfl
 have e5:=a1.get 5 rfl
 have e6:=a1.get 6 rfl
 have e17:=a3.get 0 rfl
 have e28:=a5.get 0 rfl
 have e29:=a5.get 1 rfl
 have e30:=a5.get 2 rfl
 generalize hen:(en || decide (i=L))=en'
 generalize hw0:M.getD (1+i) 0=w at *
 unfold readByteN readByteT
 -- the first seven
 have p1:Goes cs 7 g M p T (fun q=>Rg q L v r en'∧q 5=w+cb) M (p+7) (T++[1+i]):=by
  refine Goes.next (n:=1) (m:=6) (goes_set (post:=fun q=>Rg q L v r en∧q 10=i) e0 ⟨⟨?_,?_,?_,?_,?_⟩,upd_same _ _ _⟩) fun q hq=>?_
  ·rw [upd_ne _ _ (by decide)];exact hg.one
  ·rw [upd_ne _ _ (by decide)];exact hg.len
  ·rw [upd_ne _ _ (by decide)];exact hg.ver
  ·rw [upd_ne _ _ (by decide)];exact hg.row
  ·rw [upd_ne _ _ (by decide)];exact hg.en
  obtain ⟨hq,h10⟩:=hq
  refine Goes.next (n:=1) (m:=5) (goes_join (k:=5) (post:=fun q=>Rg q L v r en∧q 10=endW (decide (i=L))) (by decide) (by decide) (by decide) e1 ⟨⟨?_,?_,?_,?_,?_⟩,?_⟩) fun q hq=>?_
  ·rw [upd_ne _ _ (by decide)];exact hq.one
  ·rw [upd_ne _ _ (by decide)];exact hq.len
  ·rw [upd_ne _ _ (by decide)];exact hq.ver
  ·rw [upd_ne _ _ (by decide)];exact hq.row
  ·rw [upd_ne _ _ (by decide)];exact hq.en
  ·rw [upd_same,j5,h10,hq.len]
  obtain ⟨hq,h10⟩:=hq
  refine Goes.next (n:=1) (m:=4) (goes_join (k:=3) (post:=fun q=>Rg q L v r en') (by decide) (by decide) (by decide) e2 ⟨?_,?_,?_,?_,?_⟩) fun q hq=>?_
  ·rw [upd_ne _ _ (by decide)];exact hq.one
  ·rw [upd_ne _ _ (by decide)];exact hq.len
  ·rw [upd_ne _ _ (by decide)];exact hq.ver
  ·rw [upd_ne _ _ (by decide)];exact hq.row
  ·rw [upd_same,j3,hq.en,h10,or_end,hen]
  refine Goes.next (n:=1) (m:=3) (goes_set (post:=fun q=>Rg q L v r en'∧q 10=1+i) e3 ⟨⟨?_,?_,?_,?_,?_⟩,upd_same _ _ _⟩) fun q hq=>?_
  ·rw [upd_ne _ _ (by decide)];exact hq.one
  ·rw [upd_ne _ _ (by decide)];exact hq.len
  ·rw [upd_ne _ _ (by decide)];exact hq.ver
  ·rw [upd_ne _ _ (by decide)];exact hq.row
  ·rw [upd_ne _ _ (by decide)];exact hq.en
  obtain ⟨hq,h10⟩:=hq
  have hl:=goes_load (g:=q) (M:=M) (p:=p+4) (T:=T) (a:=5) (x:=10) (c:=0) (post:=fun q=>Rg q L v r en'∧q 5=w) (by decide) (by rw [h10];exact hi) e4 ⟨⟨by rw [upd_ne _ _ (by decide)];exact hq.one,by rw [upd_ne _ _ (by decide)];exact hq.len,by rw [upd_ne _ _ (by decide)];exact hq.ver,by rw [upd_ne _ _ (by decide)];exact hq.row,by rw [upd_ne _ _ (by decide)];exact hq.en⟩,by rw [upd_same,h10,hw0]⟩
  rw [h10] at hl
  refine Goes.next (n:=1) (m:=2) hl fun q hq=>?_
  obtain ⟨hq,h5⟩:=hq
  refine Goes.next (n:=1) (m:=1) (goes_set (post:=fun q=>Rg q L v r en'∧q 5=w∧q 10=cb) e5 ⟨⟨?_,?_,?_,?_,?_⟩,?_,upd_same _ _ _⟩) fun q hq=>?_
  ·rw [upd_ne _ _ (by decide)];exact hq.one
  ·rw [upd_ne _ _ (by decide)];exact hq.len
  ·rw [upd_ne _ _ (by decide)];exact hq.ver
  ·rw [upd_ne _ _ (by decide)];exact hq.row
  ·rw [upd_ne _ _ (by decide)];exact hq.en
  ·rw [upd_ne _ _ (by decide)];exact h5
  obtain ⟨hq,h5,h10⟩:=hq
  refine goes_join (k:=1) (by decide) (by decide) (by decide) e6 ⟨⟨?_,?_,?_,?_,?_⟩,?_⟩
  ·rw [upd_ne _ _ (by decide)];exact hq.one
  ·rw [upd_ne _ _ (by decide)];exact hq.len
  ·rw [upd_ne _ _ (by decide)];exact hq.ver
  ·rw [upd_ne _ _ (by decide)];exact hq.row
  ·rw [upd_ne _ _ (by decide)];exact hq.en
  ·rw [upd_same,h5,h10,j1 hw]
 refine Goes.next p1 fun q hq=>?_
 obtain ⟨hq,h5⟩:=hq
 refine Goes.next ((look_any (p:=p+7) (by simpa [lookOps] using a2) hM hcb hce q hq.one (T++[1+i])).mono (post2:=fun q'=>Rg q' L v r en'∧q' 6=found M cb ce (w+cb)) fun q' hq'=>⟨⟨?_,?_,?_,?_,?_⟩,by rw [hq'.2,h5]⟩) fun q hq=>?_
 ·rw [hq'.1 0 (by decide) (by decide) (by decide) (by decide) (by decide)];exact hq.one
 ·rw [hq'.1 1 (by decide) (by decide) (by decide) (by decide) (by decide)];exact hq.len
 ·rw [hq'.1 2 (by decide) (by decide) (by decide) (by decide) (by decide)];exact hq.ver
 ·rw [hq'.1 3 (by decide) (by decide) (by decide) (by decide) (by decide)];exact hq.row
 ·rw [hq'.1 4 (by decide) (by decide) (by decide) (by decide) (by decide)];exact hq.en
 obtain ⟨hq,h6⟩:=hq
 refine Goes.next (n:=1) (goes_join (k:=1) (post:=fun q=>Rg q L v r en'∧q 5=r+found M cb ce (w+cb)) (by decide) (by decide) (by decide) e17 ⟨⟨?_,?_,?_,?_,?_⟩,?_⟩) fun q hq=>?_
 ·rw [upd_ne _ _ (by decide)];exact hq.one
 ·rw [upd_ne _ _ (by decide)];exact hq.len
 ·rw [upd_ne _ _ (by decide)];exact hq.ver
 ·rw [upd_ne _ _ (by decide)];exact hq.row
 ·rw [upd_ne _ _ (by decide)];exact hq.en
 ·rw [upd_same,hq.row,h6,j1 hr]
 obtain ⟨hq,h5⟩:=hq
 have hlk:=look_any (p:=p+18) (by simpa [lookOps] using a4) hM hrb hre q hq.one (T++[1+i]++lookT cb (ce - cb))
 refine Goes.next (hlk.mono (post2:=fun q'=>Rg q' L v r en'∧q' 6=found M rb re (r+found M cb ce (w+cb))) fun q' hq'=>⟨⟨?_,?_,?_,?_,?_⟩,by rw [hq'.2,h5]⟩) fun q hq=>?_
 ·rw [hq'.1 0 (by decide) (by decide) (by decide) (by decide) (by decide)];exact hq.one
 ·rw [hq'.1 1 (by decide) (by decide) (by decide) (by decide) (by decide)];exact hq.len
 ·rw [hq'.1 2 (by decide) (by decide) (by decide) (by decide) (by decide)];exact hq.ver
 ·rw [hq'.1 3 (by decide) (by decide) (by decide) (by decide) (by decide)];exact hq.row
 ·rw [hq'.1 4 (by decide) (by decide) (by decide) (by decide) (by decide)];exact hq.en
 obtain ⟨hq,h6⟩:=hq
 have hr2:found M rb re (r+found M cb ce (w+cb))≤65535:=found_le hM _ _ _
 have hr1:r≤65535:=by omega
 generalize found M rb re (r+found M cb ce (w+cb))=r2 at *
 rw [show T++([1+i]++(lookT cb (ce - cb)++lookT rb (re - rb)))=T++[1+i]++lookT cb (ce - cb)++lookT rb (re - rb) by simp [List.append_assoc]]
 generalize T++[1+i]++lookT cb (ce - cb)++lookT rb (re - rb)=T9
 refine Goes.next (n:=1) (m:=2) (goes_join (k:=4) (post:=fun q=>Rg q L v r en'∧q 6=r2∧q 10=r ^^^ r2) (by decide) (by decide) (by decide) e28 ⟨⟨?_,?_,?_,?_,?_⟩,?_,?_⟩) fun q hq=>?_
 ·rw [upd_ne _ _ (by decide)];exact hq.one
 ·rw [upd_ne _ _ (by decide)];exact hq.len
 ·rw [upd_ne _ _ (by decide)];exact hq.ver
 ·rw [upd_ne _ _ (by decide)];exact hq.row
 ·rw [upd_ne _ _ (by decide)];exact hq.en
 ·rw [upd_ne _ _ (by decide)];exact h6
 ·rw [upd_same,j4,hq.row,h6]
 obtain ⟨hq,h6,h10⟩:=hq
 refine Goes.next (n:=1) (m:=1) (goes_join (k:=2) (post:=fun q=>Rg q L v r en'∧q 6=r2∧q 10=(r ^^^ r2) &&& endW en') (by decide) (by decide) (by decide) e29 ⟨⟨?_,?_,?_,?_,?_⟩,?_,?_⟩) fun q hq=>?_
 ·rw [upd_ne _ _ (by decide)];exact hq.one
 ·rw [upd_ne _ _ (by decide)];exact hq.len
 ·rw [upd_ne _ _ (by decide)];exact hq.ver
 ·rw [upd_ne _ _ (by decide)];exact hq.row
 ·rw [upd_ne _ _ (by decide)];exact hq.en
 ·rw [upd_ne _ _ (by decide)];exact h6
 ·rw [upd_same,j2,h10,hq.en]
 obtain ⟨hq,h6,h10⟩:=hq
 refine goes_join (k:=4) (by decide) (by decide) (by decide) e30 ⟨?_,?_,?_,?_,?_⟩
 ·rw [upd_ne _ _ (by decide)];exact hq.one
 ·rw [upd_ne _ _ (by decide)];exact hq.len
 ·rw [upd_ne _ _ (by decide)];exact hq.ver
 ·rw [upd_same,j4,h6,h10,pick_row hr1 hr2]
 ·rw [upd_ne _ _ (by decide)];exact hq.en
end Mc
end Go.Proofs.YtobfpgoepaeknaaGreat
namespace Go.Proofs.YtobfpgoepaeknaaGreat
namespace Mc
structure TabN where
 S:Nat
 C:Nat
 cl:Nat→Nat
 gr:Nat→Bool
 nx:Nat→Nat→Nat
structure TabN.Ok (t:TabN):Prop where
 s1:0 < t.S
 c1:0 < t.C
 s2:t.S≤24
 c2:t.C≤24
 cl:∀ b,b < 256→t.cl b < t.C
 nx:∀ q c,q < t.S→c < t.C→t.nx q c < t.S
def TabN.run (t:TabN) (bs:List Nat):Nat:=bs.foldl (fun q b=>t.nx q (t.cl b)) 0
theorem TabN.run_snoc (t:TabN) (bs:List Nat) (b:Nat):t.run (bs++[b])=t.nx (t.run bs) (t.cl b):=by unfold TabN.run;rw [List.foldl_append];rfl
theorem TabN.run_take_lt {t:TabN} (h:t.Ok) {bs:List Nat} (hb:∀ b∈bs,b < 256):∀ n,t.run (bs.take n) < t.S:=by
 intro n
 induction n with
 | zero=>exact h.s1
 | succ n ih =>
  by_cases hn:n < bs.length
  ·rw [List.take_add_one,List.getElem?_eq_getElem hn]
   show t.run (bs.take n++[bs[n]]) < t.S
   rw [t.run_snoc]
   exact h.nx _ _ ih (h.cl _ (hb _ (List.getElem_mem _)))
  ·rw [List.take_of_length_le (by omega)]
   rw [List.take_of_length_le (by omega)] at ih
   exact ih
structure AreaOk (M:List Nat) (cb rb mark:Nat) (t:TabN):Prop where
 ok:t.Ok
 ce:cb+256≤4096
 re:rb+t.S * (t.C+1)≤4096
 cls:∀ b,b < 256→M.getD (cb+b) 0=1+t.cl b
 grs:∀ q,q < t.S→M.getD (rb+q * (t.C+1)) 0=if t.gr q then mark else 0
 nxs:∀ q c,q < t.S→c < t.C→M.getD (rb+q * (t.C+1)+(1+c)) 0=rb+t.nx q c * (t.C+1)
structure SecOk (M:List Nat) (bs:List Nat):Prop where
 b:∀ b∈bs,b < 256
 w:∀ i,i < 16→M.getD (1+i) 0=bs.getD i 0
theorem row_in {t:TabN} {q c:Nat} (hq:q < t.S) (hc:c≤t.C):q * (t.C+1)+c < t.S * (t.C+1):=by
 have h:(q+1) * (t.C+1)≤t.S * (t.C+1):=Nat.mul_le_mul_right _ hq
 rw [Nat.add_mul,Nat.one_mul] at h
 omega
def readsOps (cb ce rb re p:Nat):Nat→List OpI
 | 0=>[]
 | n+1=>readsOps cb ce rb re p n++readByteOps n cb ce rb re (p+31 * n)
def readsT (cb ce rb re:Nat):Nat→List Nat
 | 0=>[]
 | n+1=>readsT cb ce rb re n++readByteT n cb ce rb re
theorem readByteOps_len (i cb ce rb re p:Nat):(readByteOps i cb ce rb re p).length=31:=by simp [readByteOps,lookOps]
theorem readsOps_len (cb ce rb re p:Nat):∀ n,(readsOps cb ce rb re p n).length=31 * n
 | 0=>rfl
 | n+1=>by rw [readsOps,List.length_append,readsOps_len cb ce rb re p n,readByteOps_len];omega
theorem reads_any {cs:List OpI} {M:List Nat} {cb rb mark p L v:Nat} {t:TabN} {bs:List Nat} (hM:∀ i,M.getD i 0≤65535) (ha:AreaOk M cb rb mark t) (hs:SecOk M bs) (hL:bs.length=L) {g:Nat→Nat} {T:List Nat} (hg:Rg g L v rb false) :
  ∀ n,n≤16→At cs p (readsOps cb (cb+256) rb (rb+t.S * (t.C+1)) p n) →
   Goes cs (n * readByteN cb (cb+256) rb (rb+t.S * (t.C+1))) g M p T (fun g'=>Rg g' L v (rb+t.run (bs.take n) * (t.C+1)) (decide (L < n))) M (p+31 * n) (T++readsT cb (cb+256) rb (rb+t.S * (t.C+1)) n):=by
 intro n
 induction n with
 | zero =>
  intro _ _
  rw [Nat.zero_mul,Nat.mul_zero]
  have:T++readsT cb (cb+256) rb (rb+t.S * (t.C+1)) 0=T:=by simp [readsT]
  rw [this]
  refine Goes.zero ?_
  have e:t.run (bs.take 0)=0:=rfl
  rw [e,Nat.zero_mul,Nat.add_zero]
  simpa using hg
 | succ n ih =>
  intro hn hc
  obtain ⟨hc1,hc2⟩:=At.app (show At cs p (readsOps cb (cb+256) rb (rb+t.S * (t.C+1)) p n++readByteOps n cb (cb+256) rb (rb+t.S * (t.C+1)) (p+31 * n)) from hc)
  rw [readsOps_len] at hc2
  rw [Nat.add_mul,Nat.one_mul]
  refine Goes.next (ih (by omega) hc1) fun q hq=>?_
  have hlt:=TabN.run_take_lt ha.ok hs.b n
  have hw:M.getD (1+n) 0=bs.getD n 0:=hs.w n (by omega)
  have hwb:bs.getD n 0 < 256:=by
   by_cases h:n < bs.length
   ·rw [List.getD_eq_getElem?_getD,List.getElem?_eq_getElem h];exact hs.b _ (List.getElem_mem _)
   ·rw [List.getD_eq_getElem?_getD,List.getElem?_eq_none (by omega)];exact Nat.zero_lt_succ _
  have hce:=ha.ce
  have hre:=ha.re
  have hcl:=ha.ok.cl _ hwb
  have hf1:found M cb (cb+256) (M.getD (1+n) 0+cb)=1+t.cl (bs.getD n 0):=by
   rw [hw];unfold found;rw [if_pos (by omega),Nat.add_comm,ha.cls _ hwb]
  have hin:=row_in (t:=t) (q:=t.run (bs.take n)) (c:=1+t.cl (bs.getD n 0)) hlt (by omega)
  have hf2:found M rb (rb+t.S * (t.C+1)) (rb+t.run (bs.take n) * (t.C+1)+(1+t.cl (bs.getD n 0)))=rb+t.nx (t.run (bs.take n)) (t.cl (bs.getD n 0)) * (t.C+1):=by
   unfold found;rw [if_pos (by omega),ha.nxs _ _ hlt hcl]
  have hb:=readByte_any (T:=T++readsT cb (cb+256) rb (rb+t.S * (t.C+1)) n) hc2 hM (by omega) hce (by have:=ha.ok.s1;have:=row_in (t:=t) (q:=0) (c:=0) this (by omega);omega) hre (by omega) (by rw [hw];omega) (by rw [hf1];omega) hq
  rw [hf1,hf2] at hb
  rw [show p+31 * (n+1)=p+31 * n+31 by omega,show T++readsT cb (cb+256) rb (rb+t.S * (t.C+1)) (n+1)=T++readsT cb (cb+256) rb (rb+t.S * (t.C+1)) n++readByteT n cb (cb+256) rb (rb+t.S * (t.C+1)) by rw [readsT,List.append_assoc]]
  refine hb.mono fun q' hq'=>?_
  have een:(decide (L < n) || decide (n=L))=decide (L < n+1):=by
   by_cases h1:L < n
   ·simp [h1];omega
   ·by_cases h2:n=L
    ·subst h2;simp
    ·simp [h1,h2];omega
  rw [een] at hq'
  have er:(if decide (L < n+1)=true then rb+t.run (bs.take n) * (t.C+1) else rb+t.nx (t.run (bs.take n)) (t.cl (bs.getD n 0)) * (t.C+1))=rb+t.run (bs.take (n+1)) * (t.C+1):=by
   by_cases h1:L < n+1
   ·rw [if_pos (by simpa using h1),List.take_of_length_le (show bs.length≤n by omega),List.take_of_length_le (show bs.length≤n+1 by omega)]
   ·rw [if_neg (by simpa using h1),List.take_add_one,List.getElem?_eq_getElem (by omega)]
    show _=rb+t.run (bs.take n++[bs[n]]) * _
    rw [t.run_snoc,List.getD_eq_getElem?_getD,List.getElem?_eq_getElem (by omega)];rfl
  rw [er] at hq'
  exact hq'
def addMarkOps (rb re p:Nat):List OpI:=[opN 3 5 3 3]++(lookOps rb re (p+1)++[opN 1 2 2 6])
theorem addMark_any {cs:List OpI} {M:List Nat} {cb rb mark p L v q:Nat} {t:TabN} {en:Bool} (hM:∀ i,M.getD i 0≤65535) (ha:AreaOk M cb rb mark t) (hq:q < t.S) (hv:v+mark≤65535) {g:Nat→Nat} {T:List Nat} (hg:Rg g L v (rb+q * (t.C+1)) en)
  (hc:At cs p (addMarkOps rb (rb+t.S * (t.C+1)) p)) :
  Goes cs (1+((3+7 * (rb+t.S * (t.C+1) - rb))+1)) g M p T (fun g'=>g' 0=1∧g' 1=L∧g' 2=v+(if t.gr q then mark else 0)) M (p+12) (T++lookT rb (rb+t.S * (t.C+1) - rb)):=by
 obtain ⟨a1,hc2⟩:=hc.app
 obtain ⟨a2,a3⟩:=hc2.app
 simp only [List.length_cons,List.length_nil,Nat.zero_add,lookOps] at a2 a3
 have e0:=a1.get 0 rfl
 have e11:=a3.get 0 rfl
 have hin:=row_in (t:=t) (q:=q) (c:=0) hq (by omega)
 have hre:=ha.re
 refine Goes.next (n:=1) (goes_join (k:=3) (post:=fun r=>r 0=1∧r 1=L∧r 2=v∧r 5=rb+q * (t.C+1)) (by decide) (by decide) (by decide) e0 ⟨?_,?_,?_,?_⟩) fun r hr=>?_
 ·rw [upd_ne _ _ (by decide)];exact hg.one
 ·rw [upd_ne _ _ (by decide)];exact hg.len
 ·rw [upd_ne _ _ (by decide)];exact hg.ver
 ·rw [upd_same,j3,Nat.or_self];exact hg.row
 obtain ⟨r0,r1,r2,r5⟩:=hr
 refine Goes.next ((look_any (p:=p+1) (by simpa [lookOps] using a2) hM (by omega) hre r r0 T).mono (post2:=fun s=>s 0=1∧s 1=L∧s 2=v∧s 6=if t.gr q then mark else 0) fun s hs=>⟨?_,?_,?_,?_⟩) fun s hs=>?_
 ·rw [hs.1 0 (by decide) (by decide) (by decide) (by decide) (by decide)];exact r0
 ·rw [hs.1 1 (by decide) (by decide) (by decide) (by decide) (by decide)];exact r1
 ·rw [hs.1 2 (by decide) (by decide) (by decide) (by decide) (by decide)];exact r2
 ·rw [hs.2,r5,found,if_pos (by omega),ha.grs q hq]
 obtain ⟨s0,s1,s2,s6⟩:=hs
 refine goes_join (k:=1) (by decide) (by decide) (by decide) e11 ⟨?_,?_,?_⟩
 ·rw [upd_ne _ _ (by decide)];exact s0
 ·rw [upd_ne _ _ (by decide)];exact s1
 ·rw [upd_same,s2,s6,j1 (by split<;>omega)]
def tableOps (cb rb:Nat) (t:TabN) (N p:Nat):List OpI:=[opN 0 3 rb 0,opN 0 4 0 0]++(readsOps cb (cb+256) rb (rb+t.S * (t.C+1)) (p+2) N++addMarkOps rb (rb+t.S * (t.C+1)) (p+2+31 * N))
def tableT (cb rb:Nat) (t:TabN) (N:Nat):List Nat:=readsT cb (cb+256) rb (rb+t.S * (t.C+1)) N++lookT rb (rb+t.S * (t.C+1) - rb)
def tableN (cb rb:Nat) (t:TabN) (N:Nat):Nat:=2+(N * readByteN cb (cb+256) rb (rb+t.S * (t.C+1))+(1+((3+7 * (rb+t.S * (t.C+1) - rb))+1)))
theorem tableOps_len (cb rb:Nat) (t:TabN) (N p:Nat):(tableOps cb rb t N p).length=14+31 * N:=by simp [tableOps,readsOps_len,addMarkOps,lookOps];omega
theorem table_any {cs:List OpI} {M:List Nat} {cb rb mark p L v N:Nat} {t:TabN} {bs:List Nat} (hM:∀ i,M.getD i 0≤65535) (ha:AreaOk M cb rb mark t) (hs:SecOk M bs) (hL:bs.length=L) (hN:L≤N) (hN2:N≤16) (hv:v+mark≤65535) {g:Nat→Nat} {T:List Nat} (h0:g 0=1) (h1:g 1=L) (h2:g 2=v)
  (hc:At cs p (tableOps cb rb t N p)) :
  Goes cs (tableN cb rb t N) g M p T (fun g'=>g' 0=1∧g' 1=L∧g' 2=v+(if t.gr (t.run bs) then mark else 0)) M (p+(14+31 * N)) (T++tableT cb rb t N):=by
 obtain ⟨a1,hc2⟩:=hc.app
 obtain ⟨a2,a3⟩:=hc2.app
 simp only [List.length_cons,List.length_nil,Nat.zero_add,readsOps_len] at a2 a3
 have e0:=a1.get 0 rfl
 have e1:=a1.get 1 rfl
 unfold tableN tableT
 rw [show 2+(N * readByteN cb (cb+256) rb (rb+t.S * (t.C+1))+(1+((3+7 * (rb+t.S * (t.C+1) - rb))+1)))=1+(1+(N * readByteN cb (cb+256) rb (rb+t.S * (t.C+1))+(1+((3+7 * (rb+t.S * (t.C+1) - rb))+1)))) by omega]
 refine Goes.next (goes_set (post:=fun q=>q=upd g 3 rb) e0 rfl) fun q hq=>?_
 subst hq
 refine Goes.next (goes_set (post:=fun q=>Rg q L v rb false) e1 ⟨?_,?_,?_,?_,upd_same _ _ _⟩) fun q hq=>?_
 ·rw [upd_ne _ _ (by decide),upd_ne _ _ (by decide)];exact h0
 ·rw [upd_ne _ _ (by decide),upd_ne _ _ (by decide)];exact h1
 ·rw [upd_ne _ _ (by decide),upd_ne _ _ (by decide)];exact h2
 ·rw [upd_ne _ _ (by decide),upd_same]
 refine Goes.next (reads_any hM ha hs hL (T:=T) hq N hN2 a2) fun q hq=>?_
 rw [List.take_of_length_le (by omega)] at hq
 have hlt:=TabN.run_take_lt ha.ok hs.b bs.length
 rw [List.take_length] at hlt
 have:=addMark_any (T:=T++readsT cb (cb+256) rb (rb+t.S * (t.C+1)) N) hM ha hlt hv hq a3
 rw [show p+2+31 * N+12=p+(14+31 * N) by omega,List.append_assoc] at this
 exact this
end Mc
end Go.Proofs.YtobfpgoepaeknaaGreat
