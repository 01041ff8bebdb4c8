/-
  The document's machine as plain mathematics: operations, states, steps, runs.
  What lies in memory: rows of numbers, rows of operations; what a call leaves as it was.
  The two machines in memory: the program's and the document's.
  machine.isRegister, isWord, isOperation; veilref.register, right: what operations may stand in code.
-/
import Derived.WalkKit
import Derived.Test.YtobfpgoepaeknaaGreatRows
import Derived.WalkSpells
import Derived.WalkLawsBesides
import Derived.Laws.BitsAllLaws
import Derived.Deep.DrawnRows
import Derived.Deep.AppendLies
import Derived.Deep.OwnRows
import Derived.Deep.RegionWith
import Derived.Deep.RegionLaw
import Derived.Deep.RegionHeld3
import Derived.Deep.LoopGhost
import Derived.Deep.DeepCutAuto
import Derived.BigQuiet
import Derived.Deep.QuietTactic
namespace Go.Proofs.YtobfpgoepaeknaaGreat
namespace Mc
structure OpI where
 k:Int
 a:Int
 b:Int
 c:Int
def op0:OpI:=⟨0,0,0,0⟩
def regOk (x:Int):Bool:=decide (0≤x) && decide (x < 16)
def wordOk (x:Int):Bool:=decide (0≤x) && decide (x≤65535)
def opOk (o:OpI) (n:Int):Bool :=
 if o.k=0 then regOk o.a && wordOk o.b
 else if 1≤o.k∧o.k≤5 then regOk o.a && regOk o.b && regOk o.c
 else if o.k=6∨o.k=7 then regOk o.a && regOk o.b
 else if o.k=8 then regOk o.a && (decide (0≤o.b) && decide (o.b≤n))
 else false
def codeOk (cs:List OpI):Prop:=cs.length≤4096∧∀ i,i < cs.length→opOk (cs.getD i op0) (cs.length:Int)=true
def memOk (zs:List Int):Prop:=zs.length≤4096∧∀ i,i < zs.length→wordOk (zs.getD i 0)=true
structure MS where
 R:List Nat
 M:List Nat
 p:Nat
 T:List Nat
structure MS.Ok (s:MS) (n:Nat):Prop where
 lr:s.R.length=16
 lm:s.M.length=4096
 r:∀ i,s.R.getD i 0≤65535
 m:∀ i,s.M.getD i 0≤65535
 p:s.p≤n
def joinN (k:Int) (x y:Nat):Nat :=
 if k=1 then (x+y) % 65536 else if k=2 then x &&& y else if k=3 then x ||| y else if k=4 then x ^^^ y else if x=y then 65535 else 0
theorem joinN_le (k:Int) {x y:Nat} (hx:x≤65535) (hy:y≤65535):joinN k x y≤65535:=by
 unfold joinN
 have h1:x &&& y < 2 ^ 16:=Nat.and_lt_two_pow _ (by omega)
 have h2:x ||| y < 2 ^ 16:=Nat.or_lt_two_pow (by omega) (by omega)
 have h3:x ^^^ y < 2 ^ 16:=Nat.xor_lt_two_pow (by omega) (by omega)
 split
 ·omega
 split
 ·omega
 split
 ·omega
 split
 ·omega
 split<;>omega
def MS.r (s:MS) (x:Int):Nat:=s.R.getD x.toNat 0
def stepN (o:OpI) (s:MS):Option MS :=
 if o.k=0 then some { s with R:=s.R.set o.a.toNat o.b.toNat,p:=s.p+1 }
 else if o.k=6 then (if s.r o.b < 4096 then some { s with R:=s.R.set o.a.toNat (s.M.getD (s.r o.b) 0),p:=s.p+1,T:=s.T++[s.r o.b] } else none)
 else if o.k=7 then (if s.r o.b < 4096 then some { s with M:=s.M.set (s.r o.b) (s.r o.a),p:=s.p+1,T:=s.T++[10000+s.r o.b] } else none)
 else if o.k=8 then (if s.r o.a=0 then some { s with p:=s.p+1,T:=s.T++[20000] } else some { s with p:=o.b.toNat,T:=s.T++[20001] })
 else some { s with R:=s.R.set o.a.toNat (joinN o.k (s.r o.b) (s.r o.c)),p:=s.p+1 }
theorem getD_set_le {l:List Nat} {B:Nat} (h:∀ i,l.getD i 0≤B) {x:Nat} (hx:x≤B) (j:Nat):∀ i,(l.set j x).getD i 0≤B:=by
 intro i
 rw [List.getD_eq_getElem?_getD,List.getElem?_set]
 split
 ·split
  ·exact hx
  ·exact Nat.zero_le _
 ·rw [←List.getD_eq_getElem?_getD];exact h i
theorem stepN_ok {o:OpI} {s s':MS} {n:Nat} (hs:s.Ok n) (hp:s.p < n) (ho:opOk o n=true) (h:stepN o s=some s'):s'.Ok n:=by
 unfold stepN at h
 split at h
 ·next hk =>
  rw [opOk,if_pos hk] at ho
  simp [regOk,wordOk] at ho
  simp only [Option.some.injEq] at h;subst h
  exact ⟨by simp [hs.lr],hs.lm,getD_set_le hs.r (by omega) _,hs.m,hp⟩
 ·next h0 =>
  split at h
  ·split at h
   ·simp only [Option.some.injEq] at h;subst h
    exact ⟨by simp [hs.lr],hs.lm,getD_set_le hs.r (hs.m _) _,hs.m,hp⟩
   ·cases h
  ·split at h
   ·split at h
    ·simp only [Option.some.injEq] at h;subst h
     exact ⟨hs.lr,by simp [hs.lm],hs.r,getD_set_le hs.m (hs.r _) _,hp⟩
    ·cases h
   ·next h6 h7 =>
    split at h
    ·next h8 =>
     rw [opOk,if_neg h0,if_neg (by omega),if_neg (by omega),if_pos h8] at ho
     simp [regOk] at ho
     split at h
     ·simp only [Option.some.injEq] at h;subst h
      exact ⟨hs.lr,hs.lm,hs.r,hs.m,hp⟩
     ·simp only [Option.some.injEq] at h;subst h
      exact ⟨hs.lr,hs.lm,hs.r,hs.m,by simp only;omega⟩
    ·simp only [Option.some.injEq] at h;subst h
     exact ⟨by simp [hs.lr],hs.lm,getD_set_le hs.r (joinN_le _ (hs.r _) (hs.r _)) _,hs.m,hp⟩
theorem stepN_T {o:OpI} {s s':MS} (h:stepN o s=some s'):s'.T.length≤s.T.length+1:=by
 unfold stepN at h
 split at h
 ·simp only [Option.some.injEq] at h;subst h;simp
 split at h
 ·split at h
  ·simp only [Option.some.injEq] at h;subst h;simp
  ·cases h
 split at h
 ·split at h
  ·simp only [Option.some.injEq] at h;subst h;simp
  ·cases h
 split at h
 ·split at h<;>(simp only [Option.some.injEq] at h;subst h;simp)
 ·simp only [Option.some.injEq] at h;subst h;simp
abbrev RunEnd:=Except Int MS
def runN (cs:List OpI):Nat→MS→RunEnd
 | n,s=>if cs.length≤s.p then .ok s else
  match n with
  | 0=>.error 11
  | k+1=>match stepN (cs.getD s.p op0) s with
   | none=>.error 10
   | some s'=>runN cs k s'
theorem runN_ends {cs:List OpI} {n:Nat} {s:MS} (h:cs.length≤s.p):runN cs n s=.ok s:=by
 unfold runN;rw [if_pos h]
theorem runN_zero {cs:List OpI} {s:MS} (h:s.p < cs.length):runN cs 0 s=.error 11:=by
 unfold runN;rw [if_neg (by omega)]
theorem runN_addr {cs:List OpI} {n:Nat} {s:MS} (h:s.p < cs.length) (hs:stepN (cs.getD s.p op0) s=none):runN cs (n+1) s=.error 10:=by
 unfold runN;rw [if_neg (by omega)];simp only [hs]
theorem runN_step {cs:List OpI} {n:Nat} {s s':MS} (h:s.p < cs.length) (hs:stepN (cs.getD s.p op0) s=some s'):runN cs (n+1) s=runN cs n s':=by
 rw [runN.eq_def];simp only [hs,if_neg (show ¬cs.length≤s.p by omega)]
def mem0 (zs:List Int):List Nat:=zs.map Int.toNat++List.replicate (4096 - zs.length) 0
def ms0 (zs:List Int):MS:=⟨List.replicate 16 0,mem0 zs,0,[]⟩
theorem mem0_len {zs:List Int} (h:zs.length≤4096):(mem0 zs).length=4096:=by simp [mem0];omega
theorem ms0_ok {zs:List Int} (h:memOk zs) (n:Nat):(ms0 zs).Ok n:=by
 refine ⟨by simp [ms0],mem0_len h.1,fun i=>?_,fun i=>?_,Nat.zero_le _⟩
 ·simp only [ms0]
  rw [List.getD_eq_getElem?_getD,List.getElem?_replicate]
  split<;>simp
 ·simp only [ms0,mem0]
  rw [List.getD_eq_getElem?_getD]
  by_cases hi:i < zs.length
  ·rw [List.getElem?_append_left (by simpa using hi),List.getElem?_map,List.getElem?_eq_getElem hi]
   have:=h.2 i hi
   rw [List.getD_eq_getElem?_getD,List.getElem?_eq_getElem hi] at this
   simp [wordOk] at this ⊢
   omega
  ·rw [List.getElem?_append_right (by simpa using hi),List.getElem?_replicate]
   split<;>simp
structure RunAns where
 e:Int
 M:List Nat
 T:List Nat
def codeB (cs:List OpI):Bool:=decide (cs.length≤4096) && cs.all fun o=>opOk o (cs.length:Int)
def memB (zs:List Int):Bool:=decide (zs.length≤4096) && zs.all wordOk
def stepsB (k:Int):Bool:=decide (0≤k) && decide (k≤2097152)
theorem all_getD {α:Type} (l:List α) (d:α) (f:α→Bool):l.all f=true↔∀ i,i < l.length→f (l.getD i d)=true:=by
 rw [List.all_eq_true]
 constructor
 ·intro h i hi
  rw [List.getD_eq_getElem?_getD,List.getElem?_eq_getElem hi]
  exact h _ (List.getElem_mem _)
 ·intro h x hx
  obtain ⟨i,hi,rfl⟩:=List.getElem_of_mem hx
  have:=h i hi
  rw [List.getD_eq_getElem?_getD,List.getElem?_eq_getElem hi] at this
  exact this
theorem codeB_iff (cs:List OpI):codeB cs=true↔codeOk cs:=by
 unfold codeB codeOk
 rw [Bool.and_eq_true,decide_eq_true_iff,all_getD cs op0]
theorem memB_iff (zs:List Int):memB zs=true↔memOk zs:=by
 unfold memB memOk
 rw [Bool.and_eq_true,decide_eq_true_iff,all_getD zs 0]
def takesE (cs:List OpI) (zs:List Int) (k:Int):Int:=if codeB cs=false then 8 else if memB zs=false then 9 else if stepsB k=false then 4 else 0
def endAns:RunEnd→RunAns
 | .ok s=>⟨0,s.M,s.T⟩
 | .error e=>⟨e,[],[]⟩
def runAns (cs:List OpI) (zs:List Int) (k:Int):RunAns :=
 if takesE cs zs k≠0 then ⟨takesE cs zs k,[],[]⟩ else endAns (runN cs k.toNat (ms0 zs))
end Mc
end Go.Proofs.YtobfpgoepaeknaaGreat
namespace Go.Proofs.YtobfpgoepaeknaaGreat
namespace Mc
open Go.RowKit
theorem hide {p:Prop} (h:p):Hid p:=h
theorem unhide {p:Prop} (h:Hid p):p:=h
theorem ret_bool {a b:Bool} (h:a=b):Ending.returned (.bool a)=.returned (.bool b):=by rw [h]
theorem ret_int {k:IntKind} {a b:Int} (h:a=b):Ending.returned (.int k a)=.returned (.int k b):=by rw [h]
theorem info_of {P:Program} {t:TypeId} {z:Value} {n m:Nat} (h:(P.info? t).map (fun i=>(i.zero,i.size,i.bytes))=some (some z,n,m)) :
  ∃ i,P.info? t=some i∧i.zero=some z∧i.size=n∧i.bytes=m:=by
 cases hi:P.info? t with
 | none=>rw [hi] at h;cases h
 | some i =>
  rw [hi] at h
  simp only [Option.map_some,Option.some.injEq,Prod.mk.injEq] at h
  exact ⟨i,rfl,h.1,h.2.1,h.2.2⟩
theorem infoI:(Tryz.prog.info? 3).map (fun i=>(i.zero,i.size,i.bytes))=some (some (.int .i64 0),1,8):=by kernel_rfl
theorem add0 (g k:Nat):(⟨g,0,none⟩:Addr).add k=⟨g,k,none⟩:=by unfold Addr.add;split<;>simp_all
structure Fr (S:List Nat) (w w':World):Prop where
 os:w'.os=w.os
 tape:w'.tape=w.tape
 output:w'.output=w.output
 size:w.heap.size≤w'.heap.size
 block:∀ k,k < w.heap.size→k∉S→w'.heap[k]?=w.heap[k]?
theorem Fr.refl (S:List Nat) (w:World):Fr S w w:=⟨rfl,rfl,rfl,Nat.le_refl _,fun _ _ _=>rfl⟩
theorem Fr.and {S S':List Nat} {a b c:World} (h:Fr S a b) (k:Fr S' b c) (hs:∀ x∈S',x∈S∨a.heap.size≤x):Fr S a c :=
 ⟨k.os.trans h.os,k.tape.trans h.tape,k.output.trans h.output,Nat.le_trans h.size k.size,fun i hi hn=>(k.block i (Nat.lt_of_lt_of_le hi h.size) (fun hm=>(hs i hm).elim hn (by omega))).trans (h.block i hi hn)⟩
theorem Fr.drew {S:List Nat} {w w':World} (h:Fr S w w'):Fr S w w'.drew:=⟨h.os,h.tape,h.output,h.size,h.block⟩
theorem Fr.ofBelow {w w':World} (h:Below w.heap.size w w'):Fr [] w w':=⟨h.os,h.tape,h.output,h.size,fun k hk _=>h.block k hk⟩
theorem Fr.ofGrown {w w':World} {row:Option Nat} (h:w.grownBy w' row):Fr row.toList w w':=⟨h.os,h.tape,h.output,h.size,fun k hk hn=>h.block k hk (fun e=>hn (by rw [←e];simp))⟩
theorem Fr.ofAlloc (w:World) (o:Obj):Fr [] w (w.alloc o):=Fr.ofBelow ((Below.refl _ _).alloc (Nat.le_refl _) _)
theorem Fr.ofSet (w:World) (b o:Nat) (u:Value):Fr [b] w (w.setCell ⟨b,o,none⟩ u):=⟨rfl,rfl,rfl,by simp [World.setCell],fun k _ hn=>Below.heap_setCell _ _ _ _ (by simpa using hn)⟩
theorem Fr.ofRow (w:World) (b:Nat) (cs:Array Value):Fr [b] w (w.setRow b cs):=⟨rfl,rfl,rfl,by simp,fun k _ hn=>setRow_other _ _ _ _ (by simpa using hn)⟩
theorem Fr.next {S:List Nat} {w w1 w2:World} (h:Fr S w w1) (hb:Below w1.heap.size w1 w2):Fr S w w2:=h.and (Fr.ofBelow hb) (fun x hx=>by cases hx)
theorem Fr.set {S:List Nat} {w w1:World} (h:Fr S w w1) {b:Nat} (hb:b∈S∨w.heap.size≤b) (o:Nat) (u:Value):Fr S w (w1.setCell ⟨b,o,none⟩ u):=h.and (Fr.ofSet w1 b o u) (fun x hx=>by simp at hx;subst hx;exact hb)
theorem Fr.row {S:List Nat} {w w1:World} (h:Fr S w w1) {b:Nat} (hb:b∈S∨w.heap.size≤b) (cs:Array Value):Fr S w (w1.setRow b cs):=h.and (Fr.ofRow w1 b cs) (fun x hx=>by simp at hx;subst hx;exact hb)
theorem Fr.grown {S:List Nat} {w w1 w2:World} {row:Option Nat} (h:Fr S w w1) (hg:w1.grownBy w2 row) (hr:∀ k,row=some k→k∈S∨w.heap.size≤k):Fr S w w2:=h.and (Fr.ofGrown hg) (fun x hx=>hr x (by simpa using hx))
theorem Fr.below {S:List Nat} {w w':World} (h:Fr S w w') (hs:∀ x∈S,w.heap.size≤x):Below w.heap.size w w':=⟨h.os,h.tape,h.output,h.size,fun k hk=>h.block k hk (fun hm=>by have:=hs k hm;omega)⟩
theorem Fr.at {S:List Nat} {w w':World} (h:Fr S w w') {b:Nat} {o:Obj} (hb:w.heap[b]?=some o) (hn:b∉S):w'.heap[b]?=some o:=by
 rw [h.block b (Array.getElem?_eq_some_iff.1 hb).1 hn];exact hb
theorem Fr.cell {S:List Nat} {w w':World} (h:Fr S w w') {a:Addr} {v:Value} (hb:w.cell? a=some v) (hn:a.block∉S):w'.cell? a=some v :=
 (World.cell?_of_block (h.block a.block (World.block_lt_of_cell? w a hb) hn)).trans hb
theorem Fr.own {S:List Nat} {w w':World} (h:Fr S w w') {B e z:Nat} {v:Value} {n:Nat} {xs:List Value} (ho:w.ownsRow B e z v n xs) (hn:∀ q,v.ownBlock=some q→q∉S):w'.ownsRow B e z v n xs:=by
 refine ⟨ho.1,?_⟩
 rcases ho.2 with hl | ⟨g,cap,cur,rfl,h1,hg,rest⟩
 ·exact .inl hl
 ·exact .inr ⟨g,cap,cur,rfl,h1,h.at hg (hn g rfl),rest⟩
def ncs (xs:List Nat):List Value:=xs.map fun (n:Nat)=>.int .i64 (n:Int)
def NR (w:World) (B:Nat) (v:Value) (xs:List Nat):Prop:=w.ownsRow B 3 1 v xs.length (ncs xs)
theorem ncs_set (xs:List Nat) (k x:Nat):(ncs xs).set k (.int .i64 ((x:Nat):Int))=ncs (xs.set k x):=by
 unfold ncs;rw [List.map_set]
theorem NR.form {w:World} {B:Nat} {v:Value} {xs:List Nat} (h:NR w B v xs):(∃ a c,v=.slice a xs.length c):=by
 rcases h.2 with ⟨rfl,h0⟩ | ⟨g,cap,cur,rfl,_⟩
 ·exact ⟨none,0,by rw [h0]⟩
 ·exact ⟨_,_,rfl⟩
theorem NR.nil (w:World) (B:Nat):NR w B (.slice none 0 0) []:=World.ownsRow_nil w B _ _
theorem own_form {w:World} {B e z:Nat} {v:Value} {n:Nat} {xs:List Value} (h:w.ownsRow B e z v n xs) (hn:0 < n):∃ g cap,v=.slice (some ⟨g,0,none⟩) n cap:=by
 rcases h.2 with ⟨_,h0⟩ | ⟨g,cap,cur,hv,_⟩
 ·omega
 ·exact ⟨g,cap,hv⟩
theorem NR.at {w:World} {B:Nat} {v:Value} {xs:List Nat} (h:NR w B v xs) {k:Nat} (hk:k < xs.length):∃ g cap,v=.slice (some ⟨g,0,none⟩) xs.length cap∧w.cell? ⟨g,k,none⟩=some (.int .i64 ((xs.getD k 0:Nat):Int)):=by
 have h':w.ownsRow B 3 1 v xs.length (ncs xs):=h
 obtain ⟨g,cap,rfl⟩:=own_form h' (by omega)
 refine ⟨g,cap,rfl,?_⟩
 have:=h'.cells (g:=g) rfl k (.int .i64 ((xs.getD k 0:Nat):Int)) (by simp [ncs,hk])
 rwa [add0] at this
theorem own_free {w:World} {B g cap:Nat} {e z n:Nat} {xs:List Value} (h:w.ownsRow B e z (.slice (some ⟨g,0,none⟩) n cap) n xs) (k:Nat):w.frozen? ⟨g,k,none⟩=false:=by
 rcases h.2 with ⟨he,_⟩ | ⟨g',cap',cur,he,h1,hg,rest⟩
 ·cases he
 ·simp only [Value.slice.injEq,Option.some.injEq,Addr.mk.injEq,and_true,true_and] at he
  obtain ⟨rfl,rfl⟩:=he
  exact frozen_of_row w g k _ _ hg
theorem NR.put {w:World} {B g cap:Nat} {xs:List Nat} (h:NR w B (.slice (some ⟨g,0,none⟩) xs.length cap) xs) (k x:Nat):NR (w.setCell ⟨g,k,none⟩ (.int .i64 ((x:Nat):Int))) B (.slice (some ⟨g,0,none⟩) xs.length cap) (xs.set k x):=by
 rcases h.2 with ⟨he,_⟩ | ⟨g',cap',cur,he,h1,hg,h2,h3,h4,h5⟩
 ·cases he
 ·simp only [Value.slice.injEq,Option.some.injEq,Addr.mk.injEq,and_true,true_and] at he
  obtain ⟨rfl,rfl⟩:=he
  have hl:(xs.set k x).length=xs.length:=List.length_set
  show World.ownsRow _ _ _ _ _ _ _
  rw [hl]
  refine ⟨by rw [←ncs_set,List.length_set];exact h.1,.inr ⟨g,cap,_,rfl,h1,heap_setCell_same _ _ _ _ _ _ hg,h2,h3,by simpa using h4,?_⟩⟩
  rw [Array.toList_setIfInBounds,List.take_set,h5,ncs_set]
theorem NR.new {w:World} {B n:Nat} (hB:B≤w.heap.size) (hn:n≤maxLen):NR (w.alloc (.cells (madeCells #[.int .i64 0] n) 3)) B (.slice (some ⟨w.heap.size,0,none⟩) n n) (List.replicate n 0):=by
 unfold NR
 rw [List.length_replicate]
 refine ⟨by simp [ncs],.inr ⟨_,n,_,rfl,hB,heap_alloc_new _ _,Nat.le_refl _,hn,by rw [size_madeCells,Nat.mul_one],?_⟩⟩
 rw [Nat.mul_one,List.take_of_length_le (by rw [Array.length_toList,size_madeCells];exact Nat.le_refl _)]
 apply List.ext_getElem
 ·rw [Array.length_toList,size_madeCells];simp [ncs]
 ·intro i h1 h2
  simp [madeCells,ncs,Nat.mod_one]
theorem NR.of {w:World} {B:Nat} {v:Value} {xs:List Nat} {y:Nat} (h:w.ownsRow B 3 1 v (xs.length+1) (ncs xs++[.int .i64 (y:Int)])):NR w B v (xs++[y]):=by
 unfold NR ncs
 rw [List.length_append,List.map_append];exact h
theorem NR.less {w:World} {B B':Nat} {v:Value} {xs:List Nat} (h:NR w B v xs) (hB:B'≤B):NR w B' v xs:=by
 refine ⟨h.1,?_⟩
 rcases h.2 with h2 | ⟨g,cap,cur,hv,hg,r⟩
 ·exact Or.inl h2
 ·exact Or.inr ⟨g,cap,cur,hv,Nat.le_trans hB hg,r⟩
theorem one_cells {W:World} {g:Nat} {x:Value} (h:W.cell? ⟨g,0,none⟩=some x):∀ j u,[x][j]?=some u→W.cell? ((⟨g,0,none⟩:Addr).add j)=some u:=by
 intro j u hj
 match j,hj with
 | 0,hj =>
  simp at hj
  subst hj
  rw [add0];exact h
 | j+1,hj=>simp at hj
theorem cell_drew (w:World) (a:Addr):w.drew.cell? a=w.cell? a:=rfl
theorem new_cell {W:World} {g:Nat} {x:Value} {t:TypeId} (h:W.heap.size=g):(W.alloc (.cells #[x] t)).cell? ⟨g,0,none⟩=some x:=by
 subst h;rw [cell_of_row _ _ _ _ _ _ (heap_alloc_new W _)];rfl
theorem app1 {ops:Array Oper} {rest:List Oper} {o:Oper} {a:Act} {W:World} {Q:Exit→Act→World→Prop} (hgd:o.guard=none) (s x:Operand)
  (ho:o.op=.call { callee:=.builtin .append,args:=#[s,x],argTypes:=#[37,37] }) (B:Nat) (v:Value) (xs:List Nat) (hs:a.eval s=v) (hown:NR W B v xs) (g0 y:Nat)
  (hx:a.eval x=.slice (some ⟨g0,0,none⟩) 1 1) (hc:W.cell? ⟨g0,0,none⟩=some (.int .i64 (y:Int))) (hlen:xs.length≤3000000) (hB:B≤W.heap.size) (H:Nat) (hH:W.heap.size=H)
  (h:∀ g cap w',w'.ownsRow B 3 1 (.slice (some ⟨g,0,none⟩) (xs.length+1) cap) (xs.length+1) (ncs xs++[.int .i64 (y:Int)])→W.grownBy w' v.ownBlock→(v.ownBlock=some g∨g=H)→g < w'.heap.size→wpList Tryz.prog ops Q rest (a.put o.dst (.slice (some ⟨g,0,none⟩) (xs.length+1) cap)) w'):wpList Tryz.prog ops Q (o ::rest) a W:=by
 obtain ⟨i,i0,i1,i2,i3⟩:=info_of infoI
 exact wpList_append_lies W hgd s x 37 ho B 3 i (.int .i64 0) 1 8 Tryz.underlying37 i0 i1 i2 i3 rfl (by decide) v xs.length (ncs xs) hs hown ⟨g0,0,none⟩ 1 1 [.int .i64 (y:Int)] hx rfl (one_cells hc) (by intro u hu;simp at hu;subst hu;rfl) (by decide) (by unfold maxLen;omega) (by omega) hB H hH h
theorem own_off {w:World} {B e z:Nat} {v:Value} {n:Nat} {xs:List Value} (h:w.ownsRow B e z v n xs) {b:Nat} {cs:Array Value} {ty:TypeId} {fr:Nat × Nat} (hb:w.heap[b]?=some (.cells cs ty fr)) (hne:e≠ty):∀ q,v.ownBlock=some q→q≠b:=fun q hq e=>by
 subst e
 rcases h.2 with ⟨rfl,_⟩ | ⟨g,cap,cur,rfl,_,hg,_⟩
 ·cases hq
 ·have:g=q:=by simpa [Value.ownBlock] using hq
  subst this
  rw [hg] at hb
  simp at hb
  exact hne hb.2.1
def ICells (w:World) (b off:Nat) (zs:List Int):Prop:=∀ j,j < zs.length→w.cell? ⟨b,off+j,none⟩=some (.int .i64 (zs.getD j 0))
def IAt (w:World) (v:Value) (zs:List Int):Prop:=∃ a cap,v=.slice a zs.length cap∧(0 < zs.length→∃ b off,a=some ⟨b,off,none⟩∧ICells w b off zs)
def ocs (o:OpI):List Value:=[.int .i64 o.k,.int .i64 o.a,.int .i64 o.b,.int .i64 o.c]
def OpAt (w:World) (b off:Nat) (o:OpI):Prop:=w.cell? ⟨b,off,none⟩=some (.int .i64 o.k)∧w.cell? ⟨b,off+1,none⟩=some (.int .i64 o.a)∧w.cell? ⟨b,off+2,none⟩=some (.int .i64 o.b)∧w.cell? ⟨b,off+3,none⟩=some (.int .i64 o.c)
def OCells (w:World) (b off:Nat) (os:List OpI):Prop:=∀ j,j < os.length→OpAt w b (off+j * 4) (os.getD j op0)
def OAt (w:World) (v:Value) (os:List OpI):Prop:=∃ a cap,v=.slice a os.length cap∧(0 < os.length→∃ b off,a=some ⟨b,off,none⟩∧OCells w b off os)
theorem below_cell {w w':World} (h:Below w.heap.size w w') {a:Addr} {v:Value} (hb:w.cell? a=some v):w'.cell? a=some v :=
 (World.cell?_of_block (h.block a.block (World.block_lt_of_cell? w a hb))).trans hb
theorem ICells.below {w w':World} {b off:Nat} {zs:List Int} (h:ICells w b off zs) (hb:Below w.heap.size w w'):ICells w' b off zs:=fun j hj=>below_cell hb (h j hj)
theorem IAt.below {w w':World} {v:Value} {zs:List Int} (h:IAt w v zs) (hb:Below w.heap.size w w'):IAt w' v zs:=by
 obtain ⟨a,cap,hv,hh⟩:=h
 exact ⟨a,cap,hv,fun h0=>by obtain ⟨b,off,ha,hc⟩:=hh h0;exact ⟨b,off,ha,hc.below hb⟩⟩
theorem OpAt.below {w w':World} {b off:Nat} {o:OpI} (h:OpAt w b off o) (hb:Below w.heap.size w w'):OpAt w' b off o:=⟨below_cell hb h.1,below_cell hb h.2.1,below_cell hb h.2.2.1,below_cell hb h.2.2.2⟩
theorem OAt.below {w w':World} {v:Value} {zs:List OpI} (h:OAt w v zs) (hb:Below w.heap.size w w'):OAt w' v zs:=by
 obtain ⟨a,cap,hv,hh⟩:=h
 exact ⟨a,cap,hv,fun h0=>by obtain ⟨b,off,ha,hc⟩:=hh h0;exact ⟨b,off,ha,fun j hj=>(hc j hj).below hb⟩⟩
theorem NR.iat {w:World} {B:Nat} {v:Value} {xs:List Nat} (h:NR w B v xs):IAt w v (xs.map Int.ofNat):=by
 obtain ⟨a,c,rfl⟩:=h.form
 refine ⟨a,c,by rw [List.length_map],fun h0=>?_⟩
 rw [List.length_map] at h0
 obtain ⟨g,cap,he,-⟩:=h.at h0
 simp only [Value.slice.injEq,true_and] at he
 obtain ⟨rfl,rfl⟩:=he
 refine ⟨g,0,rfl,fun j hj=>?_⟩
 rw [List.length_map] at hj
 obtain ⟨g',cap',he,hc⟩:=h.at hj
 simp only [Value.slice.injEq,Option.some.injEq,Addr.mk.injEq,true_and,and_true] at he
 obtain ⟨rfl,rfl⟩:=he
 rw [Nat.zero_add,hc]
 simp [List.getD_eq_getElem?_getD,hj]
theorem top_i64 (a:Nat) (ha:a < 1152921504606846976):(BitVec.ofInt 64 (a:Int)).toNat=a:=by
 rw [BitVec.ofInt_natCast,BitVec.toNat_ofNat];exact Nat.mod_eq_of_lt (by omega)
theorem wrap_i64 (a:Nat) (ha:a < 1152921504606846976):IntKind.i64.wrap (a:Int)=(a:Int):=by
 unfold IntKind.wrap
 simp only [IntKind.bits,IntKind.signed]
 have h1:(a:Int) % (2 ^ 64:Int)=a:=Int.emod_eq_of_lt (by omega) (by omega)
 simp only [h1]
 rw [if_neg (by simp;omega)]
theorem and_nat (a b:Nat) (ha:a≤65535) (hb:b≤65535):bits .and .i64 (a:Int) (b:Int)=((a &&& b:Nat):Int):=by
 have hx:a &&& b < 2 ^ 16:=Nat.and_lt_two_pow _ (by omega)
 show IntKind.i64.wrap ((BitVec.ofInt 64 (a:Int) &&& BitVec.ofInt 64 (b:Int)).toNat:Int)=_
 rw [BitVec.toNat_and,top_i64 a (by omega),top_i64 b (by omega),wrap_i64 _ (by omega)]
theorem or_nat (a b:Nat) (ha:a≤65535) (hb:b≤65535):bits .or .i64 (a:Int) (b:Int)=((a ||| b:Nat):Int):=by
 have hx:a ||| b < 2 ^ 16:=Nat.or_lt_two_pow (by omega) (by omega)
 show IntKind.i64.wrap ((BitVec.ofInt 64 (a:Int) ||| BitVec.ofInt 64 (b:Int)).toNat:Int)=_
 rw [BitVec.toNat_or,top_i64 a (by omega),top_i64 b (by omega),wrap_i64 _ (by omega)]
theorem xor_nat (a b:Nat) (ha:a≤65535) (hb:b≤65535):bits .xor .i64 (a:Int) (b:Int)=((a ^^^ b:Nat):Int):=by
 have hx:a ^^^ b < 2 ^ 16:=Nat.xor_lt_two_pow (by omega) (by omega)
 show IntKind.i64.wrap ((BitVec.ofInt 64 (a:Int) ^^^ BitVec.ofInt 64 (b:Int)).toNat:Int)=_
 rw [BitVec.toNat_xor,top_i64 a (by omega),top_i64 b (by omega),wrap_i64 _ (by omega)]
end Mc
end Go.Proofs.YtobfpgoepaeknaaGreat
namespace Go.Proofs.YtobfpgoepaeknaaGreat
namespace Mc
open Go.RowKit
def pmC (R:List Nat) (mv tv:Value) (p:Nat):Array Value:=(ncs R++[mv,tv,.int .i64 (p:Int)]).toArray
theorem ncs_len (l:List Nat):(ncs l).length=l.length:=by unfold ncs;rw [List.length_map]
theorem ncs_get (l:List Nat) {k:Nat} (hk:k < l.length):(ncs l)[k]?=some (.int .i64 ((l.getD k 0:Nat):Int)):=by
 unfold ncs;rw [List.getElem?_map,List.getElem?_eq_getElem hk,List.getD_eq_getElem?_getD,List.getElem?_eq_getElem hk];rfl
section
variable {R M : List Nat} {mv tv : Value} {p : Nat}
theorem pmC_r (h:R.length=16) {k:Nat} (hk:k < 16):(pmC R mv tv p)[k]?=some (.int .i64 ((R.getD k 0:Nat):Int)):=by
 unfold pmC
 rw [List.getElem?_toArray,List.getElem?_append_left (by rw [ncs_len];omega),ncs_get _ (by omega)]
theorem pmC_tail (h:R.length=16) (j:Nat):(pmC R mv tv p)[16+j]?=[mv,tv,.int .i64 (p:Int)][j]?:=by
 unfold pmC
 rw [List.getElem?_toArray,List.getElem?_append_right (by rw [ncs_len];omega),ncs_len,h,Nat.add_sub_cancel_left]
theorem pmC_set (h:R.length=16) {k:Nat} (hk:k < 16) (x:Nat):(pmC R mv tv p).setIfInBounds k (.int .i64 ((x:Nat):Int))=pmC (R.set k x) mv tv p:=by
 unfold pmC
 rw [List.setIfInBounds_toArray,List.set_append_left _ _ (by rw [ncs_len];omega),ncs_set]
theorem pmC_setT (h:R.length=16) (v:Value):(pmC R mv tv p).setIfInBounds 17 v=pmC R mv v p:=by
 unfold pmC
 rw [List.setIfInBounds_toArray,List.set_append_right _ _ (by rw [ncs_len];omega),ncs_len,h];rfl
theorem pmC_setP (h:R.length=16) (x:Nat):(pmC R mv tv p).setIfInBounds 18 (.int .i64 (x:Int))=pmC R mv tv x:=by
 unfold pmC
 rw [List.setIfInBounds_toArray,List.set_append_right _ _ (by rw [ncs_len];omega),ncs_len,h];rfl
theorem pmC_size (h:R.length=16):(pmC R mv tv p).size=19:=by unfold pmC;simp [ncs_len,h]
end
structure PMx (w:World) (B gm gmem:Nat) (tv:Value) (s:MS):Prop where
 hB:B≤gm
 heap:w.heap[gm]?=some (.cells (pmC s.R (.slice (some ⟨gmem,0,none⟩) 4096 4096) tv s.p) 181 (0,0))
 mem:NR w B (.slice (some ⟨gmem,0,none⟩) 4096 4096) s.M
 tr:NR w B tv s.T
 ne:tv.ownBlock≠some gmem
def PM (w:World) (B gm:Nat) (s:MS):Prop:=∃ gmem tv,PMx w B gm gmem tv s
section
variable {w w' : World} {B gm gmem : Nat} {tv : Value} {s : MS}
theorem PMx.lt (h:PMx w B gm gmem tv s):gm < w.heap.size:=(Array.getElem?_eq_some_iff.1 h.heap).1
theorem PMx.ltm (h:PMx w B gm gmem tv s):gmem < w.heap.size:=(h.mem.lt gmem rfl).2
theorem PMx.neM (h:PMx w B gm gmem tv s):gmem≠gm:=own_off h.mem h.heap (by decide) gmem rfl
theorem PMx.neT (h:PMx w B gm gmem tv s):∀ q,tv.ownBlock=some q→q≠gm:=own_off h.tr h.heap (by decide)
theorem PMx.fr (h:PMx w B gm gmem tv s) {S:List Nat} (f:Fr S w w') (h1:gm∉S) (h2:gmem∉S) (h3:∀ q,tv.ownBlock=some q→q∉S):PMx w' B gm gmem tv s :=
 ⟨h.hB,f.at h.heap h1,f.own h.mem (fun q hq=>by
  have:gmem=q:=by simpa [Value.ownBlock] using hq
  rw [←this];exact h2),f.own h.tr h3,h.ne⟩
theorem PMx.drew (h:PMx w B gm gmem tv s):PMx w.drew B gm gmem tv s:=⟨h.hB,h.heap,h.mem,h.tr,h.ne⟩
theorem PMx.alloc (h:PMx w B gm gmem tv s) (o:Obj):PMx (w.alloc o) B gm gmem tv s:=h.fr (Fr.ofAlloc w o) (by simp) (by simp) (by simp)
theorem PMx.cellset (h:PMx w B gm gmem tv s) {o:Nat} {u:Value} {R:List Nat} {p:Nat} (he:(pmC s.R (.slice (some ⟨gmem,0,none⟩) 4096 4096) tv s.p).setIfInBounds o u=pmC R (.slice (some ⟨gmem,0,none⟩) 4096 4096) tv p) :
  PMx (w.setCell ⟨gm,o,none⟩ u) B gm gmem tv ⟨R,s.M,p,s.T⟩:=by
 have f:=Fr.ofSet w gm o u
 refine ⟨h.hB,?_,f.own h.mem (fun q hq=>?_),f.own h.tr (fun q hq=>by simpa using h.neT q hq),h.ne⟩
 ·rw [heap_setCell_same _ _ _ _ _ _ h.heap,he]
 ·have:gmem=q:=by simpa [Value.ownBlock] using hq
  rw [←this];simpa using h.neM
theorem PMx.setP (h:PMx w B gm gmem tv s) (hr:s.R.length=16) (x:Nat):PMx (w.setCell ⟨gm,18,none⟩ (.int .i64 (x:Int))) B gm gmem tv ⟨s.R,s.M,x,s.T⟩:=h.cellset (pmC_setP hr x)
theorem PMx.setR (h:PMx w B gm gmem tv s) (hr:s.R.length=16) {k:Nat} (hk:k < 16) (x:Nat):PMx (w.setCell ⟨gm,k,none⟩ (.int .i64 (x:Int))) B gm gmem tv ⟨s.R.set k x,s.M,s.p,s.T⟩:=h.cellset (pmC_set hr hk x)
theorem PMx.setM (h:PMx w B gm gmem tv s) (hm:s.M.length=4096) (k x:Nat):PMx (w.setCell ⟨gmem,k,none⟩ (.int .i64 (x:Int))) B gm gmem tv ⟨s.R,s.M.set k x,s.p,s.T⟩:=by
 have f:=Fr.ofSet w gmem k (.int .i64 (x:Int))
 have hme:=h.mem
 rw [←hm] at hme
 refine ⟨h.hB,f.at h.heap (by simpa using fun e=>h.neM e.symm),?_,f.own h.tr (fun q hq=>by simp;intro e;subst e;exact h.ne hq),h.ne⟩
 have:=hme.put k x
 rw [hm] at this
 exact this
theorem PMx.push (h:PMx w B gm gmem tv s) (hr:s.R.length=16) {g cap y:Nat} (hgrow:w.grownBy w' tv.ownBlock) (ho:w'.ownsRow B 3 1 (.slice (some ⟨g,0,none⟩) (s.T.length+1) cap) (s.T.length+1) (ncs s.T++[.int .i64 (y:Int)])) (hl:tv.ownBlock=some g∨g=w.heap.size) :
  PMx (w'.setCell ⟨gm,17,none⟩ (.slice (some ⟨g,0,none⟩) (s.T.length+1) cap)) B gm gmem (.slice (some ⟨g,0,none⟩) (s.T.length+1) cap) ⟨s.R,s.M,s.p,s.T++[y]⟩:=by
 have hgm:=h.lt
 have hm:=h.ltm
 have hgne:g≠gm:=by
  rcases hl with hl | hl
  ·exact h.neT g hl
  ·omega
 have hgnm:g≠gmem:=by
  rcases hl with hl | hl
  ·intro e;subst e;exact h.ne hl
  ·omega
 have f1:Fr tv.ownBlock.toList w w':=Fr.ofGrown hgrow
 have a1:w'.heap[gm]?=_:=f1.at h.heap (fun hm=>by rw [Option.mem_toList] at hm;exact h.neT _ hm rfl)
 have a2:NR w' B _ s.M:=f1.own h.mem (fun q hq hm=>by
  have:gmem=q:=by simpa [Value.ownBlock] using hq
  rw [Option.mem_toList,←this] at hm;exact h.ne hm)
 have f:=Fr.ofSet w' gm 17 (.slice (some ⟨g,0,none⟩) (s.T.length+1) cap)
 refine ⟨h.hB,?_,f.own a2 (fun q hq=>?_),?_,?_⟩
 ·rw [heap_setCell_same _ _ _ _ _ _ a1,pmC_setT hr]
 ·have:gmem=q:=by simpa [Value.ownBlock] using hq
  rw [←this];simpa using h.neM
 ·exact f.own (NR.of ho) (fun q hq=>by
   have:g=q:=by simpa [Value.ownBlock] using hq
   rw [←this];simpa using hgne)
 ·simpa [Value.ownBlock] using hgnm
end
theorem below_set {B:Nat} {w w1:World} (h:Below B w w1) {g o:Nat} {u:Value} (hg:B≤g):Below B w (w1.setCell ⟨g,o,none⟩ u):=h.setCell (p:=⟨g,o,none⟩) hg u
theorem below_grown {B:Nat} {w w1 w2:World} {row:Option Nat} (h:Below B w w1) (hg:w1.grownBy w2 row) (hB:B≤w1.heap.size) (hr:∀ k,row=some k→B≤k):Below B w w2:=h.grown hg hB hr
end Mc
end Go.Proofs.YtobfpgoepaeknaaGreat
namespace Go.Proofs.YtobfpgoepaeknaaGreat
namespace Mc
open Go.RowKit
attribute [local go_sem ↓] Go.wp_at_zero Go.wp_at_succ
def opV (o:OpI):Value:=.agg #[.int .i64 o.k,.int .i64 o.a,.int .i64 o.b,.int .i64 o.c]
set_option maxHeartbeats 400000 in
theorem isRegister_any (n:Int) (w:World):Calls Tryz.prog 154 #[.int .i64 n] w fun e w'=>e=.returned (.bool (regOk n))∧w'=w:=by
 go_enter Tryz.func154,Tryz.ntmps154
 go_wp2
 all_goals
  go_ret
  exact ⟨ret_bool (by simp [regOk];try omega),rfl⟩
set_option maxHeartbeats 400000 in
theorem isWord_any (n:Int) (w:World):Calls Tryz.prog 141 #[.int .i64 n] w fun e w'=>e=.returned (.bool (wordOk n))∧w'=w:=by
 go_enter Tryz.func141,Tryz.ntmps141
 go_wp2
 all_goals
  go_ret
  exact ⟨ret_bool (by simp [wordOk];try omega),rfl⟩
theorem opOk0 {o:OpI} {n:Int} (h:o.k=0):opOk o n=(regOk o.a && wordOk o.b):=by unfold opOk;rw [if_pos h]
theorem opOk1 {o:OpI} {n:Int} (h:1≤o.k∧o.k≤5):opOk o n=(regOk o.a && regOk o.b && regOk o.c):=by unfold opOk;rw [if_neg (by omega),if_pos h]
theorem opOk6 {o:OpI} {n:Int} (h:o.k=6∨o.k=7):opOk o n=(regOk o.a && regOk o.b):=by unfold opOk;rw [if_neg (by omega),if_neg (by omega),if_pos h]
theorem opOk8 {o:OpI} {n:Int} (h:o.k=8):opOk o n=(regOk o.a && (decide (0≤o.b) && decide (o.b≤n))):=by unfold opOk;rw [if_neg (by omega),if_neg (by omega),if_neg (by omega),if_pos h]
theorem opOk9 {o:OpI} {n:Int} (h:o.k < 0∨8 < o.k):opOk o n=false:=by unfold opOk;rw [if_neg (by omega),if_neg (by omega),if_neg (by omega),if_neg (by omega)]
set_option maxRecDepth 20000 in
set_option maxHeartbeats 2000000 in
theorem isOperation_any (o:OpI) (n:Int) (w:World):Calls Tryz.prog 140 #[opV o,.int .i64 n] w fun e w'=>e=.returned (.bool (opOk o n))∧Below w.heap.size w w':=by
 have h0:=hide (@opOk0 o n)
 have h1:=hide (@opOk1 o n)
 have h6:=hide (@opOk6 o n)
 have h8:=hide (@opOk8 o n)
 have h9:=hide (@opOk9 o n)
 obtain ⟨k,a,b,c⟩:=o
 unfold opV
 simp only at h0 h1 h6 h8 h9
 generalize opOk ⟨k,a,b,c⟩ n=r at *
 go_enter Tryz.func140,Tryz.ntmps140
 cases ha:regOk a
 ·go_wp2_with (go_at_call 154;refine (isRegister_any _ _).mono ?_;rintro e w' ⟨rfl,rfl⟩)
  go_ret
  refine ⟨ret_bool ?_,(Below.refl _ _).alloc (Nat.le_refl _) _⟩
  by_cases g0:k=0
  ·rw [unhide h0 g0,ha];rfl
  by_cases g1:1≤k∧k≤5
  ·rw [unhide h1 g1,ha];rfl
  by_cases g6:k=6∨k=7
  ·rw [unhide h6 g6,ha];rfl
  by_cases g8:k=8
  ·rw [unhide h8 g8,ha];rfl
  ·rw [unhide h9 (by omega)]
 ·go_wp2_with (first
   | (go_at_call 141;refine (isWord_any _ _).mono ?_;rintro e w' ⟨rfl,rfl⟩)
   | (go_at_call 154;refine (isRegister_any _ _).mono ?_;rintro e w' ⟨rfl,rfl⟩))
  all_goals
   go_ret
   refine ⟨ret_bool ?_,(Below.refl _ _).alloc (Nat.le_refl _) _⟩
   try simp only [beq_iff_eq,beq_eq_false_iff_ne,ne_eq] at *
   first
    | (rw [unhide h0 (by omega),ha];simp;done)
    | (rw [unhide h1 (by omega),ha];simp;assumption)
    | (rw [unhide h1 (by omega),ha];simp;(try intros);simp_all;done)
    | (rw [unhide h6 (by omega),ha];simp;done)
    | (rw [unhide h8 (by omega),ha];simp;omega)
    | (rw [unhide h9 (by omega)];done)
end Mc
end Go.Proofs.YtobfpgoepaeknaaGreat
