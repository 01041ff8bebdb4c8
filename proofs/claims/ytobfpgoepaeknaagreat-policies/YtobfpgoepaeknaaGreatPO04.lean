/-
  Plain definitions: bytes that are marks, plain, digits; what the reader of patterns does to its place and its mark 'bad'. No text of the program is imported.
  Plain definitions, more: the reading of a set; that what is read goes on.
  Plain definitions: the nodes of a pattern's tree.
  Plain definitions: the reading of a pattern, with fuel.
  Plain facts on the reading of a pattern: it goes on, it stays in the text, it lays no more than so many nodes.
  Plain definitions: the weights of nodes.
  Plain facts on the reading of a pattern: how often a part may come is a digit; there is a node.
  Plain definitions: the look over a pattern's text, byte by byte.
  Plain definitions: how the document's answer takes a right pattern apart; its nodes.
  Plain facts: the nodes of the document's answer only grow.
  Plain definitions: the weight of the document's answer's nodes.
  Plain mathematics: the reader of patterns stops where the look byte by byte does (bytes, escapes, sets, suffixes).
  Plain mathematics: the reader of patterns stops where the look byte by byte does (sets).
  Plain mathematics: the reader of patterns stops where the look byte by byte does (whole patterns).
  Plain mathematics: windows of a text; how the document's answer goes over bytes, escapes and sets that the reader has read.
  Plain mathematics: steps over a text; the document's answer with more fuel, its weights with more nodes.
  Plain mathematics: more fuel and more nodes do no harm; steps in a row.
  Plain mathematics: the true weights of the reader's nodes; the node that is handed back is the last one.
  Plain mathematics: what the document's answer makes of a text that the reader has read, and its weight: how parts are joined.
  Plain mathematics: the document's answer agrees with every reading.
  What the leaf functions of package pattern answer: isMark, isPlain, isPlainInSet, mayBeEscaped, digit.
  The reader of patterns: what its methods that look and take do to its block of memory.
  The reader of patterns: escapes and single bytes.
-/
import Derived.Test.YtobfpgoepaeknaaGreatRows
import Derived.WalkKit
import Derived.WalkSpells
import Derived.WalkLawsBesides
import Derived.Deep.QuietTactic
import Derived.BigQuiet
namespace Go.Proofs.YtobfpgoepaeknaaGreat
def isMarkB (b:Int):Bool :=
 b == 124 || b == 42 || b == 43 || b == 63 || b == 123 || b == 125 || b == 40 || b == 41 || b == 91 || b == 93 || b == 46 || b == 92
def isPlainB (b:Int):Bool:=decide (32≤b) && decide (b≤126) && !isMarkB b
def isPlainInSetB (b:Int):Bool :=
 !(b == 91 || b == 93 || b == 92 || b == 45 || b == 94) && decide (32≤b) && decide (b≤126)
def mayBeEscapedB (b:Int):Bool:=b == 45 || b == 94 || isMarkB b
def digitI (b:Int):Int :=
 if 48≤b∧b≤57 then b - 48 else if 97≤b∧b≤102 then b - 97+10 else -1
theorem digitI_bd (b:Int):-1≤digitI b∧digitI b≤15:=by
 unfold digitI
 split
 ·omega
 ·split<;>omega
def pk (t:ByteArray) (k:Nat) (bad:Bool):Int :=
 if bad then -1 else if h:k < t.size then (t[k].toNat:Int) else -1
theorem pk_bd (t:ByteArray) (k:Nat) (bad:Bool):-1≤pk t k bad∧pk t k bad≤255:=by
 unfold pk
 split
 ·omega
 ·split
  ·have:=t[k].toNat_lt;omega
  ·omega
theorem pk_lt {t:ByteArray} {k:Nat} {bad:Bool} (h:0≤pk t k bad):bad=false∧k < t.size:=by
 unfold pk at h
 split at h
 ·omega
 ·rename_i hb
  split at h
  ·exact ⟨by simpa using hb,by assumption⟩
  ·omega
structure S1 where
 k:Nat
 bad:Bool
def S1.pk (t:ByteArray) (s:S1):Int:=Go.Proofs.YtobfpgoepaeknaaGreat.pk t s.k s.bad
def takeS (t:ByteArray) (c:Int) (s:S1):S1:=if s.pk t == c then ⟨s.k+1,s.bad⟩ else s
def expectS (t:ByteArray) (c:Int) (s:S1):S1:=if s.pk t == c then ⟨s.k+1,s.bad⟩ else ⟨s.k,true⟩
def digitOk (t:ByteArray) (base:Int) (s:S1):Bool:=!(decide (digitI (s.pk t) < 0) || decide (base≤digitI (s.pk t)))
def readDigitS (t:ByteArray) (base:Int) (s:S1):Int × S1 :=
 if digitOk t base s then (digitI (s.pk t),⟨s.k+1,s.bad⟩) else (0,⟨s.k,true⟩)
def readEscapeS (t:ByteArray) (s:S1):Int × S1 :=
 let s1:=expectS t 92 s
 if mayBeEscapedB (s1.pk t) then (s1.pk t,⟨s1.k+1,s1.bad⟩)
 else
  let h:=readDigitS t 16 s1
  let l:=readDigitS t 16 h.2
  (16 * h.1+l.1,l.2)
def readByteS (t:ByteArray) (s:S1):Int × S1 :=
 if s.pk t == 92 then readEscapeS t s
 else if isPlainB (s.pk t) then (s.pk t,⟨s.k+1,s.bad⟩) else (0,⟨s.k,true⟩)
def readSetByteS (t:ByteArray) (s:S1):Int × S1 :=
 if s.pk t == 92 then readEscapeS t s
 else if isPlainInSetB (s.pk t) then (s.pk t,⟨s.k+1,s.bad⟩) else (0,⟨s.k,true⟩)
theorem S1.pk_bd (t:ByteArray) (s:S1):-1≤s.pk t∧s.pk t≤255:=Go.Proofs.YtobfpgoepaeknaaGreat.pk_bd t s.k s.bad
theorem S1.pk_lt {t:ByteArray} {s:S1} (h:0≤s.pk t):s.bad=false∧s.k < t.size:=Go.Proofs.YtobfpgoepaeknaaGreat.pk_lt h
theorem isMarkB_pos {b:Int} (h:isMarkB b=true):0≤b:=by simp [isMarkB] at h;omega
theorem isPlainB_pos {b:Int} (h:isPlainB b=true):0≤b:=by simp [isPlainB] at h;omega
theorem isPlainInSetB_pos {b:Int} (h:isPlainInSetB b=true):0≤b:=by simp [isPlainInSetB] at h;omega
theorem mayBeEscapedB_pos {b:Int} (h:mayBeEscapedB b=true):0≤b:=by
 simp only [mayBeEscapedB,Bool.or_eq_true,beq_iff_eq] at h
 rcases h with (h | h) | h
 ·omega
 ·omega
 ·exact isMarkB_pos h
theorem digitOk_pos {t:ByteArray} {base:Int} {s:S1} (h:digitOk t base s=true):0≤s.pk t∧0≤digitI (s.pk t)∧digitI (s.pk t) < base:=by
 simp [digitOk] at h
 refine ⟨?_,by omega,by omega⟩
 have h1:=h.1
 unfold digitI at h1
 split at h1
 ·omega
 ·split at h1<;>omega
theorem takeS_le {t:ByteArray} {c:Int} {s:S1} (hc:0≤c) (h:s.k≤t.size):(takeS t c s).k≤t.size:=by
 unfold takeS
 split
 ·rename_i hp
  have:=(S1.pk_lt (t:=t) (s:=s) (by rw [beq_iff_eq] at hp;omega)).2
  simp only;omega
 ·exact h
theorem expectS_le {t:ByteArray} {c:Int} {s:S1} (hc:0≤c) (h:s.k≤t.size):(expectS t c s).k≤t.size:=by
 unfold expectS
 split
 ·rename_i hp
  have:=(S1.pk_lt (t:=t) (s:=s) (by rw [beq_iff_eq] at hp;omega)).2
  simp only;omega
 ·exact h
theorem readDigitS_le {t:ByteArray} {c:Int} {s:S1} (h:s.k≤t.size):(readDigitS t c s).2.k≤t.size:=by
 unfold readDigitS
 split
 ·rename_i hp
  have:=(S1.pk_lt (t:=t) (s:=s) (digitOk_pos hp).1).2
  simp only;omega
 ·exact h
theorem readDigitS_bd (t:ByteArray) (c:Int) (s:S1) (hc:0 < c):0≤(readDigitS t c s).1∧(readDigitS t c s).1 < c:=by
 unfold readDigitS
 split
 ·rename_i hp
  have:=digitOk_pos hp
  simp only;omega
 ·simp only;omega
theorem readEscapeS_le {t:ByteArray} {s:S1} (h:s.k≤t.size):(readEscapeS t s).2.k≤t.size:=by
 have h1:=expectS_le (t:=t) (c:=92) (s:=s) (by omega) h
 unfold readEscapeS
 simp only
 split
 ·rename_i hp
  have:=(S1.pk_lt (t:=t) (s:=expectS t 92 s) (mayBeEscapedB_pos hp)).2
  simp only;omega
 ·exact readDigitS_le (readDigitS_le h1)
theorem readByteS_le {t:ByteArray} {s:S1} (h:s.k≤t.size):(readByteS t s).2.k≤t.size:=by
 unfold readByteS
 split
 ·exact readEscapeS_le h
 ·split
  ·rename_i hp
   have:=(S1.pk_lt (t:=t) (s:=s) (isPlainB_pos hp)).2
   simp only;omega
  ·exact h
theorem readSetByteS_le {t:ByteArray} {s:S1} (h:s.k≤t.size):(readSetByteS t s).2.k≤t.size:=by
 unfold readSetByteS
 split
 ·exact readEscapeS_le h
 ·split
  ·rename_i hp
   have:=(S1.pk_lt (t:=t) (s:=s) (isPlainInSetB_pos hp)).2
   simp only;omega
  ·exact h
def readItemS (t:ByteArray) (s:S1):(Int × Int) × S1 :=
 let lo:=readSetByteS t s
 if lo.2.pk t == 45 then
  let hi:=readSetByteS t (takeS t 45 lo.2)
  ((lo.1,hi.1),hi.2)
 else ((lo.1,lo.1),lo.2)
theorem readItemS_le {t:ByteArray} {s:S1} (h:s.k≤t.size):(readItemS t s).2.k≤t.size:=by
 unfold readItemS
 simp only
 split
 ·exact readSetByteS_le (takeS_le (by omega) (readSetByteS_le h))
 ·exact readSetByteS_le h
end Go.Proofs.YtobfpgoepaeknaaGreat
namespace Go.Proofs.YtobfpgoepaeknaaGreat
def addR (f:Nat→Bool) (lo hi:Int):Nat→Bool:=fun j=>f j || (decide (lo≤(j:Int)) && decide ((j:Int)≤hi))
def After (s s':S1):Prop:=s.k≤s'.k∧(s.bad=true→s'.bad=true)
theorem After.refl (s:S1):After s s:=⟨Nat.le_refl _,id⟩
theorem After.trans {a b c:S1} (h:After a b) (k:After b c):After a c:=⟨Nat.le_trans h.1 k.1,fun x=>k.2 (h.2 x)⟩
theorem after_step {s:S1}:After s ⟨s.k+1,s.bad⟩:=⟨Nat.le_succ _,id⟩
theorem after_mark {s:S1}:After s ⟨s.k,true⟩:=⟨Nat.le_refl _,fun _=>rfl⟩
theorem takeS_after (t:ByteArray) (c:Int) (s:S1):After s (takeS t c s):=by
 unfold takeS;split
 ·exact after_step
 ·exact After.refl s
theorem expectS_after (t:ByteArray) (c:Int) (s:S1):After s (expectS t c s):=by
 unfold expectS;split
 ·exact after_step
 ·exact after_mark
theorem readDigitS_after (t:ByteArray) (c:Int) (s:S1):After s (readDigitS t c s).2:=by
 unfold readDigitS;split
 ·exact after_step
 ·exact after_mark
theorem readEscapeS_after (t:ByteArray) (s:S1):After s (readEscapeS t s).2:=by
 unfold readEscapeS
 simp only
 split
 ·exact (expectS_after t 92 s).trans after_step
 ·exact ((expectS_after t 92 s).trans (readDigitS_after _ _ _)).trans (readDigitS_after _ _ _)
theorem readByteS_after (t:ByteArray) (s:S1):After s (readByteS t s).2:=by
 unfold readByteS
 split
 ·exact readEscapeS_after t s
 ·split
  ·exact after_step
  ·exact after_mark
theorem readSetByteS_after (t:ByteArray) (s:S1):After s (readSetByteS t s).2:=by
 unfold readSetByteS
 split
 ·exact readEscapeS_after t s
 ·split
  ·exact after_step
  ·exact after_mark
theorem readItemS_after (t:ByteArray) (s:S1):After s (readItemS t s).2:=by
 unfold readItemS
 simp only
 split
 ·exact ((readSetByteS_after t s).trans (takeS_after _ _ _)).trans (readSetByteS_after _ _)
 ·exact readSetByteS_after t s
theorem readEscapeS_goes (t:ByteArray) (s:S1):(readEscapeS t s).2.bad=true∨s.k < (readEscapeS t s).2.k:=by
 have h1:(expectS t 92 s).bad=true∨s.k < (expectS t 92 s).k:=by
  unfold expectS
  split
  ·right;simp only;omega
  ·left;rfl
 have h2:After (expectS t 92 s) (readEscapeS t s).2:=by
  unfold readEscapeS
  simp only
  split
  ·exact after_step
  ·exact (readDigitS_after _ _ _).trans (readDigitS_after _ _ _)
 rcases h1 with h1 | h1
 ·exact Or.inl (h2.2 h1)
 ·exact Or.inr (Nat.lt_of_lt_of_le h1 h2.1)
theorem readSetByteS_goes (t:ByteArray) (s:S1):(readSetByteS t s).2.bad=true∨s.k < (readSetByteS t s).2.k:=by
 unfold readSetByteS
 split
 ·exact readEscapeS_goes t s
 ·split
  ·right;simp only;omega
  ·left;rfl
theorem readByteS_goes (t:ByteArray) (s:S1):(readByteS t s).2.bad=true∨s.k < (readByteS t s).2.k:=by
 unfold readByteS
 split
 ·exact readEscapeS_goes t s
 ·split
  ·right;simp only;omega
  ·left;rfl
theorem readItemS_goes (t:ByteArray) (s:S1):(readItemS t s).2.bad=true∨s.k < (readItemS t s).2.k:=by
 have h2:After (readSetByteS t s).2 (readItemS t s).2:=by
  unfold readItemS
  simp only
  split
  ·exact (takeS_after _ _ _).trans (readSetByteS_after _ _)
  ·exact After.refl _
 rcases readSetByteS_goes t s with h1 | h1
 ·exact Or.inl (h2.2 h1)
 ·exact Or.inr (Nat.lt_of_lt_of_le h1 h2.1)
def left (t:ByteArray) (s:S1):Nat:=if s.bad then 0 else t.size - s.k+1
theorem left_goes {t:ByteArray} {s s':S1} (hb:s.bad=false) (hk':s'.k≤t.size) (h:s'.bad=true∨s.k < s'.k):left t s' < left t s:=by
 unfold left
 rw [hb]
 rcases h with h | h
 ·rw [h];simp
 ·split
  ·simp
  ·simp only [Bool.false_eq_true,if_false];omega
def setLoop (t:ByteArray):Nat→(Nat→Bool)→S1→(Nat→Bool) × S1
 | 0,f,s=>(f,s)
 | n+1,f,s =>
  if (!s.bad && s.pk t != 93)=true then setLoop t n (addR f (readItemS t s).1.1 (readItemS t s).1.2) (readItemS t s).2 else (f,s)
theorem setLoop_stop {t:ByteArray} (n:Nat) (f:Nat→Bool) (s:S1) (h:(!s.bad && s.pk t != 93)=false):setLoop t n f s=(f,s):=by
 cases n with
 | zero=>rfl
 | succ n=>unfold setLoop;rw [h];rfl
theorem setLoop_go {t:ByteArray} (n:Nat) (f:Nat→Bool) (s:S1) (h:(!s.bad && s.pk t != 93)=true) :
  setLoop t (n+1) f s=setLoop t n (addR f (readItemS t s).1.1 (readItemS t s).1.2) (readItemS t s).2:=by
 conv=>lhs;unfold setLoop
 rw [h];rfl
theorem setLoop_le {t:ByteArray}:∀ (n:Nat) (f:Nat→Bool) (s:S1),s.k≤t.size→(setLoop t n f s).2.k≤t.size
 | 0,_,_,h=>h
 | n+1,f,s,h=>by
  unfold setLoop
  split
  ·exact setLoop_le n _ _ (readItemS_le h)
  ·exact h
theorem setLoop_after (t:ByteArray):∀ (n:Nat) (f:Nat→Bool) (s:S1),After s (setLoop t n f s).2
 | 0,_,s=>After.refl s
 | n+1,f,s=>by
  unfold setLoop
  split
  ·exact (readItemS_after t s).trans (setLoop_after t n _ _)
  ·exact After.refl s
def readSetS (t:ByteArray) (s:S1):(Nat→Bool) × S1 :=
 let i:=readItemS t (takeS t 94 s)
 let r:=setLoop t (t.size+1) (addR (fun _=>false) i.1.1 i.1.2) i.2
 (if s.pk t == 94 then fun j=>!r.1 j else r.1,expectS t 93 r.2)
theorem readSetS_le {t:ByteArray} {s:S1} (h:s.k≤t.size):(readSetS t s).2.k≤t.size :=
 expectS_le (by omega) (setLoop_le _ _ _ (readItemS_le (takeS_le (by omega) h)))
theorem readSetS_after (t:ByteArray) (s:S1):After s (readSetS t s).2 :=
 (((takeS_after t 94 s).trans (readItemS_after _ _)).trans (setLoop_after t _ _ _)).trans (expectS_after _ _ _)
end Go.Proofs.YtobfpgoepaeknaaGreat
namespace Go.Proofs.YtobfpgoepaeknaaGreat
structure Nd where
 kind:Int
 left:Int
 right:Int
 low:Int
 high:Int
 set:Int
end Go.Proofs.YtobfpgoepaeknaaGreat
namespace Go.Proofs.YtobfpgoepaeknaaGreat
structure St where
 s:S1
 ns:List Nd
 fs:List (Nat→Bool)
def St.at (x:St) (s:S1):St:=⟨s,x.ns,x.fs⟩
def St.add (x:St) (n:Nd):St:=⟨x.s,x.ns++[n],x.fs⟩
def St.addSet (x:St) (f:Nat→Bool):St:=⟨x.s,x.ns++[⟨1,0,0,0,0,(x.fs.length:Int)⟩],x.fs++[f]⟩
def St.num (x:St):Int:=(x.ns.length:Int)
def atAtomB (b:Int):Bool:=b == 46 || b == 40 || b == 91 || b == 92 || isPlainB b
def atSuffixB (b:Int):Bool:=b == 42 || b == 43 || b == 63 || b == 123
def readSuffixS (t:ByteArray) (inner:Int) (x:St):St :=
 if x.s.pk t == 42 then (x.at (takeS t 42 x.s)).add ⟨4,inner,0,0,0,0⟩
 else if x.s.pk t == 43 then (x.at (takeS t 43 x.s)).add ⟨5,inner,0,0,0,0⟩
 else if x.s.pk t == 63 then (x.at (takeS t 63 x.s)).add ⟨6,inner,0,0,0,0⟩
 else
  let s1:=expectS t 123 x.s
  let lo:=readDigitS t 10 s1
  let s3:=expectS t 44 lo.2
  let hi:=readDigitS t 10 s3
  let s5:=expectS t 125 hi.2
  (x.at s5).add ⟨7,inner,0,lo.1,hi.1,0⟩
def readLeafS (t:ByteArray) (x:St):St :=
 if x.s.pk t == 91 then (x.at (readSetS t (takeS t 91 x.s)).2).addSet (readSetS t (takeS t 91 x.s)).1
 else if x.s.pk t == 46 then (x.at (takeS t 46 x.s)).addSet (fun _=>true)
 else (x.at (readByteS t x.s).2).addSet (addR (fun _=>false) (readByteS t x.s).1 (readByteS t x.s).1)
def rdF (t:ByteArray):Nat→Nat→Int→St→Option (St × Int)
 | 0,_,_,_=>none
 | f+1,0,_,x=>(rdF t f 2 0 x).bind fun r=>rdF t f 1 r.2 r.1
 | f+1,1,whole,x =>
  if x.s.pk t == 124 then (rdF t f 2 0 (x.at (takeS t 124 x.s))).bind fun r=>rdF t f 1 r.1.num (r.1.add ⟨3,whole,r.2,0,0,0⟩)
  else some (x,whole)
 | f+1,2,_,x =>
  if atAtomB (x.s.pk t) then (rdF t f 4 0 x).bind fun r=>rdF t f 3 r.2 r.1
  else some (x.add ⟨0,0,0,0,0,0⟩,x.num)
 | f+1,3,whole,x =>
  if atAtomB (x.s.pk t) then (rdF t f 4 0 x).bind fun r=>rdF t f 3 r.1.num (r.1.add ⟨2,whole,r.2,0,0,0⟩)
  else some (x,whole)
 | f+1,4,_,x=>(rdF t f 6 0 x).bind fun r=>rdF t f 5 r.2 r.1
 | f+1,5,whole,x =>
  if atSuffixB (x.s.pk t) then rdF t f 5 x.num (readSuffixS t whole x)
  else some (x,whole)
 | f+1,_,_,x =>
  if x.s.pk t == 40 then (rdF t f 0 0 (x.at (takeS t 40 x.s))).bind fun r=>some (r.1.at (expectS t 41 r.1.s),r.2)
  else some (readLeafS t x,x.num)
theorem rdF_mono (t:ByteArray):∀ (f g:Nat) (tag:Nat) (whole:Int) (x:St) (r:St × Int),f≤g→rdF t f tag whole x=some r→rdF t g tag whole x=some r:=by
 intro f
 induction f with
 | zero=>intro g tag whole x r _ h;simp [rdF] at h
 | succ f ih =>
  intro g tag whole x r hg h
  obtain ⟨g,rfl⟩:∃ g',g=g'+1:=⟨g - 1,by omega⟩
  have hle:f≤g:=by omega
  match tag with
  | 0 =>
   simp only [rdF,Option.bind_eq_some_iff] at h ⊢
   obtain ⟨r1,h1,h2⟩:=h
   exact ⟨r1,ih _ _ _ _ _ hle h1,ih _ _ _ _ _ hle h2⟩
  | 1 =>
   simp only [rdF] at h ⊢
   split at h
   ·rename_i hc
    simp only [hc,if_true,Option.bind_eq_some_iff] at h ⊢
    obtain ⟨r1,h1,h2⟩:=h
    exact ⟨r1,ih _ _ _ _ _ hle h1,ih _ _ _ _ _ hle h2⟩
   ·rename_i hc
    rw [if_neg hc];exact h
  | 2 =>
   simp only [rdF] at h ⊢
   split at h
   ·rename_i hc
    simp only [hc,if_true,Option.bind_eq_some_iff] at h ⊢
    obtain ⟨r1,h1,h2⟩:=h
    exact ⟨r1,ih _ _ _ _ _ hle h1,ih _ _ _ _ _ hle h2⟩
   ·rename_i hc
    rw [if_neg hc];exact h
  | 3 =>
   simp only [rdF] at h ⊢
   split at h
   ·rename_i hc
    simp only [hc,if_true,Option.bind_eq_some_iff] at h ⊢
    obtain ⟨r1,h1,h2⟩:=h
    exact ⟨r1,ih _ _ _ _ _ hle h1,ih _ _ _ _ _ hle h2⟩
   ·rename_i hc
    rw [if_neg hc];exact h
  | 4 =>
   simp only [rdF,Option.bind_eq_some_iff] at h ⊢
   obtain ⟨r1,h1,h2⟩:=h
   exact ⟨r1,ih _ _ _ _ _ hle h1,ih _ _ _ _ _ hle h2⟩
  | 5 =>
   simp only [rdF] at h ⊢
   split at h
   ·rename_i hc
    simp only [hc,if_true] at h ⊢
    exact ih _ _ _ _ _ hle h
   ·rename_i hc
    rw [if_neg hc];exact h
  | tag+6 =>
   simp only [rdF] at h ⊢
   split at h
   ·rename_i hc
    simp only [hc,if_true,Option.bind_eq_some_iff] at h ⊢
    obtain ⟨r1,h1,h2⟩:=h
    exact ⟨r1,ih _ _ _ _ _ hle h1,h2⟩
   ·rename_i hc
    rw [if_neg hc];exact h
def Rds (t:ByteArray) (tag:Nat) (whole:Int) (x:St) (r:St × Int):Prop:=∃ f,rdF t f tag whole x=some r
section
variable {t : ByteArray} {whole : Int} {x y : St} {i : Int} {r : St × Int}
theorem Rds.pattern (h1:Rds t 2 0 x (y,i)) (h2:Rds t 1 i y r):Rds t 0 whole x r:=by
 obtain ⟨f,hf⟩:=h1
 obtain ⟨g,hg⟩:=h2
 refine ⟨max f g+1,?_⟩
 simp only [rdF,rdF_mono t f (max f g) _ _ _ _ (by omega) hf,Option.bind_some]
 exact rdF_mono t g (max f g) _ _ _ _ (by omega) hg
theorem Rds.alt (hc:(x.s.pk t == 124)=true) (h1:Rds t 2 0 (x.at (takeS t 124 x.s)) (y,i)) (h2:Rds t 1 y.num (y.add ⟨3,whole,i,0,0,0⟩) r):Rds t 1 whole x r:=by
 obtain ⟨f,hf⟩:=h1
 obtain ⟨g,hg⟩:=h2
 refine ⟨max f g+1,?_⟩
 simp only [rdF,hc,if_true,rdF_mono t f (max f g) _ _ _ _ (by omega) hf,Option.bind_some]
 exact rdF_mono t g (max f g) _ _ _ _ (by omega) hg
theorem Rds.altEnd (hc:(x.s.pk t == 124)=false):Rds t 1 whole x (x,whole):=⟨1,by simp only [rdF,hc];rfl⟩
theorem Rds.branch (hc:atAtomB (x.s.pk t)=true) (h1:Rds t 4 0 x (y,i)) (h2:Rds t 3 i y r):Rds t 2 whole x r:=by
 obtain ⟨f,hf⟩:=h1
 obtain ⟨g,hg⟩:=h2
 refine ⟨max f g+1,?_⟩
 simp only [rdF,hc,if_true,rdF_mono t f (max f g) _ _ _ _ (by omega) hf,Option.bind_some]
 exact rdF_mono t g (max f g) _ _ _ _ (by omega) hg
theorem Rds.branchNone (hc:atAtomB (x.s.pk t)=false):Rds t 2 whole x (x.add ⟨0,0,0,0,0,0⟩,x.num):=⟨1,by simp only [rdF,hc];rfl⟩
theorem Rds.join (hc:atAtomB (x.s.pk t)=true) (h1:Rds t 4 0 x (y,i)) (h2:Rds t 3 y.num (y.add ⟨2,whole,i,0,0,0⟩) r):Rds t 3 whole x r:=by
 obtain ⟨f,hf⟩:=h1
 obtain ⟨g,hg⟩:=h2
 refine ⟨max f g+1,?_⟩
 simp only [rdF,hc,if_true,rdF_mono t f (max f g) _ _ _ _ (by omega) hf,Option.bind_some]
 exact rdF_mono t g (max f g) _ _ _ _ (by omega) hg
theorem Rds.joinEnd (hc:atAtomB (x.s.pk t)=false):Rds t 3 whole x (x,whole):=⟨1,by simp only [rdF,hc];rfl⟩
theorem Rds.piece (h1:Rds t 6 0 x (y,i)) (h2:Rds t 5 i y r):Rds t 4 whole x r:=by
 obtain ⟨f,hf⟩:=h1
 obtain ⟨g,hg⟩:=h2
 refine ⟨max f g+1,?_⟩
 simp only [rdF,rdF_mono t f (max f g) _ _ _ _ (by omega) hf,Option.bind_some]
 exact rdF_mono t g (max f g) _ _ _ _ (by omega) hg
theorem Rds.suffix (hc:atSuffixB (x.s.pk t)=true) (h:Rds t 5 x.num (readSuffixS t whole x) r):Rds t 5 whole x r:=by
 obtain ⟨g,hg⟩:=h
 exact ⟨g+1,by simp only [rdF,hc,if_true];exact hg⟩
theorem Rds.suffixEnd (hc:atSuffixB (x.s.pk t)=false):Rds t 5 whole x (x,whole):=⟨1,by simp only [rdF,hc];rfl⟩
theorem Rds.bracket (hc:(x.s.pk t == 40)=true) (h:Rds t 0 0 (x.at (takeS t 40 x.s)) (y,i)):Rds t 6 whole x (y.at (expectS t 41 y.s),i):=by
 obtain ⟨f,hf⟩:=h
 exact ⟨f+1,by simp only [rdF,hc,if_true,hf,Option.bind_some]⟩
theorem Rds.leaf (hc:(x.s.pk t == 40)=false):Rds t 6 whole x (readLeafS t x,x.num):=⟨1,by simp only [rdF,hc];rfl⟩
end
end Go.Proofs.YtobfpgoepaeknaaGreat
namespace Go.Proofs.YtobfpgoepaeknaaGreat
def Grows (t:ByteArray) (c:Nat) (x y:St):Prop :=
 After x.s y.s∧y.s.k≤t.size∧(x.fs.length≤x.ns.length→y.fs.length≤y.ns.length)∧y.ns.length+4 * x.s.k≤x.ns.length+4 * y.s.k+c
def Slim (x y:St):Prop:=y.s.bad=false→x.s.k < y.s.k∧y.ns.length+2+4 * x.s.k≤x.ns.length+4 * y.s.k
theorem pk_bad {t:ByteArray} {s:S1} (h:s.bad=true):s.pk t=-1:=by
 unfold S1.pk pk;simp [h]
theorem takeS_eq {t:ByteArray} {s:S1} {c:Int} (h:(s.pk t == c)=true):takeS t c s=⟨s.k+1,s.bad⟩:=by
 unfold takeS;rw [if_pos h]
theorem expectS_eq {t:ByteArray} {s:S1} {c:Int} (h:(s.pk t == c)=true):expectS t c s=⟨s.k+1,s.bad⟩:=by
 unfold expectS;rw [if_pos h]
theorem readSuffixS_facts {t:ByteArray} {whole:Int} {x:St} (_hk:x.s.k≤t.size) (hc:atSuffixB (x.s.pk t)=true) :
  After x.s (readSuffixS t whole x).s∧(readSuffixS t whole x).s.k≤t.size∧x.s.k < (readSuffixS t whole x).s.k∧(readSuffixS t whole x).ns.length=x.ns.length+1∧(readSuffixS t whole x).fs=x.fs:=by
 have hlt:x.s.k < t.size:=by
  apply (S1.pk_lt (t:=t) (s:=x.s) ?_).2
  simp only [atSuffixB,Bool.or_eq_true,beq_iff_eq] at hc
  omega
 unfold readSuffixS
 by_cases h1:(x.s.pk t == 42)=true
 ·rw [if_pos h1,takeS_eq h1]
  refine ⟨after_step,?_,?_,?_,rfl⟩<;>simp [St.add,St.at]<;>omega
 ·rw [if_neg h1]
  by_cases h2:(x.s.pk t == 43)=true
  ·rw [if_pos h2,takeS_eq h2]
   refine ⟨after_step,?_,?_,?_,rfl⟩<;>simp [St.add,St.at]<;>omega
  ·rw [if_neg h2]
   by_cases h3:(x.s.pk t == 63)=true
   ·rw [if_pos h3,takeS_eq h3]
    refine ⟨after_step,?_,?_,?_,rfl⟩<;>simp [St.add,St.at]<;>omega
   ·rw [if_neg h3]
    have h4:(x.s.pk t == 123)=true:=by
     simp only [atSuffixB,Bool.or_eq_true] at hc
     rcases hc with ((hc | hc) | hc) | hc
     ·exact absurd hc h1
     ·exact absurd hc h2
     ·exact absurd hc h3
     ·exact hc
    have a1:After ⟨x.s.k+1,x.s.bad⟩ (expectS t 125 (readDigitS t 10 (expectS t 44 (readDigitS t 10 ⟨x.s.k+1,x.s.bad⟩).2)).2) :=
     (((readDigitS_after _ _ _).trans (expectS_after _ _ _)).trans (readDigitS_after _ _ _)).trans (expectS_after _ _ _)
    have a2:(expectS t 125 (readDigitS t 10 (expectS t 44 (readDigitS t 10 ⟨x.s.k+1,x.s.bad⟩).2)).2).k≤t.size :=
     expectS_le (by omega) (readDigitS_le (expectS_le (by omega) (readDigitS_le (by simp only;omega))))
    simp only [expectS_eq h4]
    refine ⟨after_step.trans a1,a2,?_,?_,rfl⟩
    ·have:=a1.1;simp only [St.add,St.at] at this ⊢;omega
    ·simp [St.add,St.at]
theorem readLeafS_facts {t:ByteArray} {x:St} (hk:x.s.k≤t.size) :
  After x.s (readLeafS t x).s∧(readLeafS t x).s.k≤t.size∧((readLeafS t x).s.bad=true∨x.s.k < (readLeafS t x).s.k)∧(readLeafS t x).ns.length=x.ns.length+1∧(readLeafS t x).fs.length=x.fs.length+1:=by
 unfold readLeafS
 by_cases h1:(x.s.pk t == 91)=true
 ·rw [if_pos h1]
  have hlt:=(S1.pk_lt (t:=t) (s:=x.s) (by rw [beq_iff_eq] at h1;omega)).2
  have a1:=readSetS_after t (takeS t 91 x.s)
  have a2:=readSetS_le (t:=t) (s:=takeS t 91 x.s) (takeS_le (by omega) hk)
  rw [takeS_eq h1] at a1 a2 ⊢
  refine ⟨after_step.trans a1,a2,Or.inr ?_,?_,?_⟩
  ·have:=a1.1;simp only [St.addSet,St.at] at this ⊢;omega
  ·simp [St.addSet,St.at]
  ·simp [St.addSet,St.at]
 ·rw [if_neg h1]
  by_cases h2:(x.s.pk t == 46)=true
  ·rw [if_pos h2,takeS_eq h2]
   have hlt:=(S1.pk_lt (t:=t) (s:=x.s) (by rw [beq_iff_eq] at h2;omega)).2
   refine ⟨after_step,?_,Or.inr ?_,?_,?_⟩<;>simp [St.addSet,St.at]<;>omega
  ·rw [if_neg h2]
   exact ⟨readByteS_after t x.s,readByteS_le hk,readByteS_goes t x.s,by simp [St.addSet,St.at],by simp [St.addSet,St.at]⟩
def Facts (t:ByteArray) (tag:Nat) (whole:Int) (x:St) (r:St × Int):Prop :=
 match tag with
 | 0=>Grows t 1 x r.1
 | 1=>Grows t 0 x r.1∧(x.s.bad=true→r=(x,whole))
 | 2=>Grows t 1 x r.1
 | 3=>Grows t 2 x r.1∧(x.s.bad=true→r=(x,whole))
 | 4=>Grows t 1 x r.1∧Slim x r.1
 | 5=>Grows t 0 x r.1∧(x.s.bad=true→r=(x,whole))
 | _=>Grows t 1 x r.1∧Slim x r.1
theorem rdF_facts (t:ByteArray):∀ (f tag:Nat) (whole:Int) (x:St) (r:St × Int),x.s.k≤t.size→rdF t f tag whole x=some r→Facts t tag whole x r:=by
 intro f
 induction f with
 | zero=>intro tag whole x r _ h;simp [rdF] at h
 | succ f ih =>
  intro tag whole x r hk h
  match tag with
  | 0 =>
   simp only [rdF,Option.bind_eq_some_iff] at h
   obtain ⟨r1,h1,h2⟩:=h
   have g1:Grows t 1 x r1.1:=ih 2 _ _ _ hk h1
   have g2:Grows t 0 r1.1 r.1:=(ih 1 _ _ _ g1.2.1 h2).1
   exact ⟨g1.1.trans g2.1,g2.2.1,fun e=>g2.2.2.1 (g1.2.2.1 e),by have:=g1.2.2.2;have:=g2.2.2.2;omega⟩
  | 1 =>
   simp only [rdF] at h
   split at h
   ·rename_i hc
    simp only [Option.bind_eq_some_iff] at h
    obtain ⟨r1,h1,h2⟩:=h
    have hlt:=(S1.pk_lt (t:=t) (s:=x.s) (by rw [beq_iff_eq] at hc;omega))
    rw [takeS_eq hc] at h1
    have g1:Grows t 1 (x.at ⟨x.s.k+1,x.s.bad⟩) r1.1:=ih 2 _ _ _ (by simp only [St.at];omega) h1
    have g2:Grows t 0 (r1.1.add ⟨3,whole,r1.2,0,0,0⟩) r.1:=(ih 1 _ (r1.1.add ⟨3,whole,r1.2,0,0,0⟩) _ (by exact g1.2.1) h2).1
    refine ⟨⟨(after_step.trans g1.1).trans g2.1,g2.2.1,fun e=>g2.2.2.1 ?_,?_⟩,fun e=>?_⟩
    ·have:=g1.2.2.1 e;simp only [St.add,List.length_append,List.length_cons,List.length_nil];omega
    ·have:=g1.2.2.2;have:=g2.2.2.2
     simp only [St.add,St.at,List.length_append,List.length_cons,List.length_nil] at *
     omega
    ·rw [hlt.1] at e;cases e
   ·simp only [Option.some.injEq] at h
    subst h
    exact ⟨⟨After.refl _,hk,id,by simp only;omega⟩,fun _=>rfl⟩
  | 2 =>
   simp only [rdF] at h
   split at h
   ·rename_i hc
    simp only [Option.bind_eq_some_iff] at h
    obtain ⟨r1,h1,h2⟩:=h
    obtain ⟨g1,l1⟩:Grows t 1 x r1.1∧Slim x r1.1:=ih 4 _ _ _ hk h1
    obtain ⟨g2,b2⟩:Grows t 2 r1.1 r.1∧(r1.1.s.bad=true→r=(r1.1,r1.2)):=ih 3 _ _ _ g1.2.1 h2
    by_cases hb:r1.1.s.bad=true
    ·have:=b2 hb
     subst this
     exact g1
    ·have l:=l1 (by simpa using hb)
     exact ⟨g1.1.trans g2.1,g2.2.1,fun e=>g2.2.2.1 (g1.2.2.1 e),by have:=g2.2.2.2;omega⟩
   ·simp only [Option.some.injEq] at h
    subst h
    exact ⟨After.refl _,hk,fun e=>by simp only [St.add,List.length_append,List.length_cons,List.length_nil];omega,by simp only [St.add,List.length_append,List.length_cons,List.length_nil];omega⟩
  | 3 =>
   simp only [rdF] at h
   split at h
   ·rename_i hc
    simp only [Option.bind_eq_some_iff] at h
    obtain ⟨r1,h1,h2⟩:=h
    obtain ⟨g1,l1⟩:Grows t 1 x r1.1∧Slim x r1.1:=ih 4 _ _ _ hk h1
    obtain ⟨g2,b2⟩:Grows t 2 (r1.1.add ⟨2,whole,r1.2,0,0,0⟩) r.1∧(r1.1.s.bad=true→r=(r1.1.add ⟨2,whole,r1.2,0,0,0⟩,r1.1.num)):=ih 3 _ (r1.1.add ⟨2,whole,r1.2,0,0,0⟩) _ (by exact g1.2.1) h2
    have hxb:x.s.bad=true→r=(x,whole):=by
     intro e
     rw [pk_bad e] at hc
     simp [atAtomB,isPlainB] at hc
    refine ⟨?_,hxb⟩
    by_cases hb:r1.1.s.bad=true
    ·have:=b2 hb
     subst this
     exact ⟨g1.1,g1.2.1,fun e=>by have:=g1.2.2.1 e;simp only [St.add,List.length_append,List.length_cons,List.length_nil];omega,by have:=g1.2.2.2;simp only [St.add,List.length_append,List.length_cons,List.length_nil];omega⟩
    ·have l:=l1 (by simpa using hb)
     refine ⟨g1.1.trans g2.1,g2.2.1,fun e=>g2.2.2.1 ?_,?_⟩
     ·have:=g1.2.2.1 e;simp only [St.add,List.length_append,List.length_cons,List.length_nil];omega
     ·have:=g2.2.2.2
      simp only [St.add,List.length_append,List.length_cons,List.length_nil] at this
      omega
   ·simp only [Option.some.injEq] at h
    subst h
    exact ⟨⟨After.refl _,hk,id,by simp only;omega⟩,fun _=>rfl⟩
  | 4 =>
   simp only [rdF,Option.bind_eq_some_iff] at h
   obtain ⟨r1,h1,h2⟩:=h
   obtain ⟨g1,l1⟩:Grows t 1 x r1.1∧Slim x r1.1:=ih 6 _ _ _ hk h1
   obtain ⟨g2,b2⟩:Grows t 0 r1.1 r.1∧(r1.1.s.bad=true→r=(r1.1,r1.2)):=ih 5 _ _ _ g1.2.1 h2
   by_cases hb:r1.1.s.bad=true
   ·have:=b2 hb
    subst this
    exact ⟨g1,l1⟩
   ·have l:=l1 (by simpa using hb)
    have n2:=g2.2.2.2
    have n3:=g2.1.1
    exact ⟨⟨g1.1.trans g2.1,g2.2.1,fun e=>g2.2.2.1 (g1.2.2.1 e),by omega⟩,fun _=>⟨by omega,by omega⟩⟩
  | 5 =>
   simp only [rdF] at h
   split at h
   ·rename_i hc
    obtain ⟨a1,a2,a3,a4,a5⟩:=readSuffixS_facts (whole:=whole) hk hc
    have g2:Grows t 0 (readSuffixS t whole x) r.1:=(ih 5 _ _ _ a2 h).1
    have n2:=g2.2.2.2
    refine ⟨⟨a1.trans g2.1,g2.2.1,fun e=>g2.2.2.1 (by rw [a4,a5];omega),by omega⟩,fun e=>?_⟩
    rw [pk_bad e] at hc
    simp [atSuffixB] at hc
   ·simp only [Option.some.injEq] at h
    subst h
    exact ⟨⟨After.refl _,hk,id,by simp only;omega⟩,fun _=>rfl⟩
  | tag+6 =>
   simp only [rdF] at h
   show Grows t 1 x r.1∧Slim x r.1
   split at h
   ·rename_i hc
    simp only [Option.bind_eq_some_iff,Option.some.injEq] at h
    obtain ⟨r1,h1,rfl⟩:=h
    have hlt:=(S1.pk_lt (t:=t) (s:=x.s) (by rw [beq_iff_eq] at hc;omega))
    rw [takeS_eq hc] at h1
    have g1:Grows t 1 (x.at ⟨x.s.k+1,x.s.bad⟩) r1.1:=ih 0 _ _ _ (by simp only [St.at];omega) h1
    have e1:=expectS_after t 41 r1.1.s
    have n1:=g1.2.2.2
    have n2:=e1.1
    simp only [St.at] at n1
    have n3:=g1.1.1
    simp only [St.at] at n3
    refine ⟨⟨(after_step.trans g1.1).trans e1,expectS_le (by omega) g1.2.1,g1.2.2.1,?_⟩,fun _=>⟨?_,?_⟩⟩
    ·simp only [St.at];omega
    ·simp only [St.at];omega
    ·simp only [St.at];omega
   ·simp only [Option.some.injEq] at h
    subst h
    obtain ⟨a1,a2,a3,a4,a5⟩:=readLeafS_facts (t:=t) hk
    have a1':=a1.1
    refine ⟨⟨a1,a2,fun e=>by simp only;omega,by simp only;omega⟩,fun e=>?_⟩
    rcases a3 with a3 | a3
    ·rw [a3] at e;cases e
    ·exact ⟨a3,by simp only;omega⟩
theorem Rds.facts {t:ByteArray} {tag:Nat} {whole:Int} {x:St} {r:St × Int} (hk:x.s.k≤t.size) (h:Rds t tag whole x r):Facts t tag whole x r:=by
 obtain ⟨f,hf⟩:=h
 exact rdF_facts t f tag whole x r hk hf
end Go.Proofs.YtobfpgoepaeknaaGreat
namespace Go.Proofs.YtobfpgoepaeknaaGreat
def wAt (ws:List Int) (i:Int):Int:=if i < 0∨(ws.length:Int)≤i then 0 else ws.getD i.toNat 0
def rawW (ws:List Int) (n:Nd):Int :=
 if (n.kind == 2 || n.kind == 3)=true then wAt ws n.left+wAt ws n.right
 else if (n.kind == 4 || n.kind == 5 || n.kind == 6)=true then wAt ws n.left
 else if (n.kind == 7)=true then wAt ws n.left * n.high
 else 1
def clampW (w:Int):Int:=if w < 1 then 1 else if 13 < w then 13 else w
def weighNd (ws:List Int) (n:Nd):Int:=clampW (rawW ws n)
def weighAll (ns:List Nd):List Int:=ns.foldl (fun ws n=>ws++[weighNd ws n]) []
theorem snoc_ind {α:Type} {p:List α→Prop} (h0:p []) (h1:∀ l a,p l→p (l++[a])) (l:List α):p l:=by
 have h:∀ l:List α,p l.reverse:=by
  intro l
  induction l with
  | nil=>exact h0
  | cons a l ih=>rw [List.reverse_cons];exact h1 _ _ ih
 have:=h l.reverse
 rwa [List.reverse_reverse] at this
theorem weighAll_snoc (ns:List Nd) (n:Nd):weighAll (ns++[n])=weighAll ns++[weighNd (weighAll ns) n]:=by
 simp [weighAll,List.foldl_append]
theorem clampW_bd (w:Int):1≤clampW w∧clampW w≤13:=by
 unfold clampW;split
 ·omega
 ·split<;>omega
theorem weighAll_len (ns:List Nd):(weighAll ns).length=ns.length :=
 snoc_ind (p:=fun ns=>(weighAll ns).length=ns.length) rfl (fun ns n ih=>by simp only [weighAll_snoc,List.length_append,ih,List.length_cons,List.length_nil]) ns
theorem weighAll_bd (ns:List Nd):∀ w∈weighAll ns,1≤w∧w≤13:=by
 refine snoc_ind (p:=fun ns=>∀ w∈weighAll ns,1≤w∧w≤13) ?_ ?_ ns
 ·intro w hw;simp [weighAll] at hw
 ·intro ns n ih w hw
  rw [weighAll_snoc,List.mem_append] at hw
  rcases hw with hw | hw
  ·exact ih w hw
  ·simp at hw;subst hw;exact clampW_bd _
theorem wAt_bd {ws:List Int} (h:∀ w∈ws,1≤w∧w≤13) (i:Int):0≤wAt ws i∧wAt ws i≤13:=by
 unfold wAt
 split
 ·omega
 ·rename_i hi
  have hlt:i.toNat < ws.length:=by omega
  have:=h (ws[i.toNat]) (List.getElem_mem hlt)
  rw [List.getD_eq_getElem?_getD,List.getElem?_eq_getElem hlt]
  simp only [Option.getD_some]
  omega
end Go.Proofs.YtobfpgoepaeknaaGreat
namespace Go.Proofs.YtobfpgoepaeknaaGreat
def DigitsOk (ns:List Nd):Prop:=∀ n∈ns,0≤n.high∧n.high≤9
theorem DigitsOk.snoc {ns:List Nd} (h:DigitsOk ns) {n:Nd} (h0:0≤n.high) (h9:n.high≤9):DigitsOk (ns++[n]):=by
 intro m hm
 rw [List.mem_append] at hm
 rcases hm with hm | hm
 ·exact h m hm
 ·simp at hm;subst hm;exact ⟨h0,h9⟩
theorem readSuffixS_ok {t:ByteArray} {whole:Int} {x:St} (h:DigitsOk x.ns):DigitsOk (readSuffixS t whole x).ns∧(readSuffixS t whole x).ns.length=x.ns.length+1:=by
 unfold readSuffixS
 split
 ·exact ⟨h.snoc (by simp) (by simp),by simp [St.add,St.at]⟩
 ·split
  ·exact ⟨h.snoc (by simp) (by simp),by simp [St.add,St.at]⟩
  ·split
   ·exact ⟨h.snoc (by simp) (by simp),by simp [St.add,St.at]⟩
   ·have:=readDigitS_bd t 10 (expectS t 44 (readDigitS t 10 (expectS t 123 x.s)).2) (by omega)
    exact ⟨h.snoc (by simp only;omega) (by simp only;omega),by simp [St.add,St.at]⟩
theorem readLeafS_ok {t:ByteArray} {x:St} (h:DigitsOk x.ns):DigitsOk (readLeafS t x).ns∧(readLeafS t x).ns.length=x.ns.length+1:=by
 unfold readLeafS
 split
 ·exact ⟨h.snoc (by simp) (by simp),by simp [St.addSet,St.at]⟩
 ·split
  ·exact ⟨h.snoc (by simp) (by simp),by simp [St.addSet,St.at]⟩
  ·exact ⟨h.snoc (by simp) (by simp),by simp [St.addSet,St.at]⟩
def lays (tag:Nat):Nat:=match tag with | 1=>0 | 3=>0 | 5=>0 | _=>1
theorem rdF_ok (t:ByteArray):∀ (f tag:Nat) (whole:Int) (x:St) (r:St × Int),rdF t f tag whole x=some r→DigitsOk x.ns→DigitsOk r.1.ns∧x.ns.length+lays tag≤r.1.ns.length:=by
 intro f
 induction f with
 | zero=>intro tag whole x r h;simp [rdF] at h
 | succ f ih =>
  intro tag whole x r h hd
  match tag with
  | 0 =>
   simp only [rdF,Option.bind_eq_some_iff] at h
   obtain ⟨r1,h1,h2⟩:=h
   have a:=ih 2 _ _ _ h1 hd
   have b:=ih 1 _ _ _ h2 a.1
   exact ⟨b.1,by have:=a.2;have:=b.2;simp only [lays] at *;omega⟩
  | 1 =>
   simp only [rdF] at h
   split at h
   ·simp only [Option.bind_eq_some_iff] at h
    obtain ⟨r1,h1,h2⟩:=h
    have a:=ih 2 _ _ _ h1 hd
    have b:=ih 1 _ _ _ h2 (a.1.snoc (by simp) (by simp))
    exact ⟨b.1,by have:=a.2;have:=b.2;simp [lays,St.add,St.at] at *;omega⟩
   ·simp only [Option.some.injEq] at h;subst h
    exact ⟨hd,by simp [lays]⟩
  | 2 =>
   simp only [rdF] at h
   split at h
   ·simp only [Option.bind_eq_some_iff] at h
    obtain ⟨r1,h1,h2⟩:=h
    have a:=ih 4 _ _ _ h1 hd
    have b:=ih 3 _ _ _ h2 a.1
    exact ⟨b.1,by have:=a.2;have:=b.2;simp only [lays] at *;omega⟩
   ·simp only [Option.some.injEq] at h;subst h
    exact ⟨hd.snoc (by simp) (by simp),by simp [lays,St.add]⟩
  | 3 =>
   simp only [rdF] at h
   split at h
   ·simp only [Option.bind_eq_some_iff] at h
    obtain ⟨r1,h1,h2⟩:=h
    have a:=ih 4 _ _ _ h1 hd
    have b:=ih 3 _ _ _ h2 (a.1.snoc (by simp) (by simp))
    exact ⟨b.1,by have:=a.2;have:=b.2;simp [lays,St.add] at *;omega⟩
   ·simp only [Option.some.injEq] at h;subst h
    exact ⟨hd,by simp [lays]⟩
  | 4 =>
   simp only [rdF,Option.bind_eq_some_iff] at h
   obtain ⟨r1,h1,h2⟩:=h
   have a:=ih 6 _ _ _ h1 hd
   have b:=ih 5 _ _ _ h2 a.1
   exact ⟨b.1,by have:=a.2;have:=b.2;simp only [lays] at *;omega⟩
  | 5 =>
   simp only [rdF] at h
   split at h
   ·have a:=readSuffixS_ok (t:=t) (whole:=whole) hd
    have b:=ih 5 _ _ _ h a.1
    exact ⟨b.1,by have:=a.2;have:=b.2;simp only [lays] at *;omega⟩
   ·simp only [Option.some.injEq] at h;subst h
    exact ⟨hd,by simp [lays]⟩
  | tag+6 =>
   simp only [rdF] at h
   split at h
   ·simp only [Option.bind_eq_some_iff,Option.some.injEq] at h
    obtain ⟨r1,h1,rfl⟩:=h
    have a:=ih 0 _ _ _ h1 hd
    exact ⟨a.1,by have:=a.2;simp only [lays,St.at] at *;omega⟩
   ·simp only [Option.some.injEq] at h;subst h
    have a:=readLeafS_ok (t:=t) hd
    exact ⟨a.1,by simp only [lays,a.2];omega⟩
def x0:St:=⟨⟨0,false⟩,[],[]⟩
def lastW (ws:List Int):Int:=ws.getLast?.getD 0
def readErr (t:ByteArray) (y:St):Int × Int :=
 if (y.s.bad || decide (y.s.k < t.size))=true then (2,(y.s.k:Int))
 else if 12 < lastW (weighAll y.ns) then (3,0) else (0,lastW (weighAll y.ns))
end Go.Proofs.YtobfpgoepaeknaaGreat
namespace Go.Proofs.YtobfpgoepaeknaaGreat
def decB (c:Int):Bool:=decide (48≤c) && decide (c≤57)
def hexB (c:Int):Bool:=decB c || (decide (97≤c) && decide (c≤102))
def printB (c:Int):Bool:=decide (32≤c) && decide (c≤126)
structure Sc where
 mode:Int
 depth:Int
 back:Int
def outsideS (x:Sc) (c:Int):Bool × Sc :=
 if c == 124 then (true,⟨0,x.depth,x.back⟩)
 else if c == 40 then (true,⟨0,x.depth+1,x.back⟩)
 else if c == 41 then (decide (0≤x.depth - 1),⟨1,x.depth - 1,x.back⟩)
 else if c == 42 || c == 43 || c == 63 then (x.mode == 1,x)
 else if c == 123 then (x.mode == 1,⟨4,x.depth,x.back⟩)
 else if c == 91 then (true,⟨8,x.depth,x.back⟩)
 else if c == 92 then (true,⟨2,x.depth,1⟩)
 else if c == 125 || c == 93 then (false,x)
 else (printB c,⟨1,x.depth,x.back⟩)
def toS (x:Sc):Int:=if x.mode == 11 then 12 else 10
def insideS (x:Sc) (c:Int):Bool × Sc :=
 if c == 94 then (x.mode == 8,⟨9,x.depth,x.back⟩)
 else if c == 45 then (x.mode == 10,⟨11,x.depth,x.back⟩)
 else if c == 93 then (x.mode == 10 || x.mode == 12,⟨1,x.depth,x.back⟩)
 else if c == 91 then (false,x)
 else if c == 92 then (true,⟨2,x.depth,toS x⟩)
 else (printB c,⟨toS x,x.depth,x.back⟩)
def goesS (x:Sc) (c:Int):Bool × Sc :=
 if x.mode == 0 || x.mode == 1 then outsideS x c
 else if x.mode == 2 then (mayBeEscapedB c || hexB c,⟨if mayBeEscapedB c then x.back else 3,x.depth,x.back⟩)
 else if x.mode == 3 then (hexB c,⟨x.back,x.depth,x.back⟩)
 else if x.mode == 4 || x.mode == 6 then (decB c,⟨x.mode+1,x.depth,x.back⟩)
 else if x.mode == 5 then (c == 44,⟨6,x.depth,x.back⟩)
 else if x.mode == 7 then (c == 125,⟨1,x.depth,x.back⟩)
 else insideS x c
def byteAt (t:ByteArray) (k:Nat):Int:=if h:k < t.size then (t[k].toNat:Int) else 0
theorem byteAt_bd (t:ByteArray) (k:Nat):0≤byteAt t k∧byteAt t k≤255:=by
 unfold byteAt
 split
 ·have:=t[k].toNat_lt;omega
 ·omega
theorem byteAt_eq {t:ByteArray} {k:Nat} (h:k < t.size):byteAt t k=(t[k].toNat:Int):=by unfold byteAt;rw [dif_pos h]
def scanS (t:ByteArray):Nat→Nat→Sc→Int
 | 0,_,x=>if (decide (0 < x.depth) || decide (1 < x.mode))=true then (t.size:Int) else -1
 | n+1,k,x=>if (goesS x (byteAt t k)).1=true then scanS t n (k+1) (goesS x (byteAt t k)).2 else (k:Int)
def placeS (t:ByteArray):Int:=scanS t t.size 0 ⟨0,0,0⟩
def ScOk (k:Nat) (x:Sc):Prop:=0≤x.mode∧x.mode≤12∧0≤x.back∧x.back≤12∧0≤x.depth∧x.depth≤k
theorem goesS_ok {k:Nat} {x:Sc} {c:Int} (h:ScOk k x) (hg:(goesS x c).1=true):ScOk (k+1) (goesS x c).2:=by
 obtain ⟨h1,h2,h3,h4,h5,h6⟩:=h
 revert hg
 unfold goesS
 split
 ·unfold outsideS
  repeat' split
  all_goals (intro hg;try simp at hg)
  all_goals (refine ⟨?_,?_,?_,?_,?_,?_⟩<;>simp only<;>omega)
 ·split
  ·intro _
   refine ⟨?_,?_,h3,h4,h5,by simp only;omega⟩
   ·simp only;split<;>omega
   ·simp only;split<;>omega
  ·split
   ·intro _;refine ⟨?_,?_,?_,?_,?_,?_⟩<;>simp only<;>omega
   ·split
    ·rename_i hm
     intro _
     simp at hm
     refine ⟨?_,?_,?_,?_,?_,?_⟩<;>simp only<;>omega
    ·split
     ·intro _;refine ⟨?_,?_,?_,?_,?_,?_⟩<;>simp only<;>omega
     ·split
      ·intro _;refine ⟨?_,?_,?_,?_,?_,?_⟩<;>simp only<;>omega
      ·have ht:10≤toS x∧toS x≤12:=by unfold toS;split<;>omega
       unfold insideS
       repeat' split
       all_goals (intro hg;refine ⟨?_,?_,?_,?_,?_,?_⟩<;>simp only<;>omega)
end Go.Proofs.YtobfpgoepaeknaaGreat
namespace Go.Proofs.YtobfpgoepaeknaaGreat
def ovF (p:ByteArray):Nat→Nat→Nat→Option Nat
 | 0,_,_=>none
 | f+1,0,i =>
  if i < p.size then
   if byteAt p i == 92 then (if i+1 < p.size then some (if mayBeEscapedB (byteAt p (i+1)) then i+2 else i+3) else none)
   else if byteAt p i == 91 then ovF p f 1 (i+1)
   else if byteAt p i == 40 then ovF p f 2 (i+1)
   else some (i+1)
  else none
 | f+1,1,i =>
  if i < p.size then
   if byteAt p i == 93 then some (i+1)
   else if byteAt p i == 92 then (ovF p f 0 i).bind fun j=>ovF p f 1 j
   else ovF p f 1 (i+1)
  else none
 | f+1,_,i =>
  if i < p.size then
   if byteAt p i == 41 then some (i+1) else (ovF p f 0 i).bind fun j=>ovF p f 2 j
  else none
def namedS (p:ByteArray) (i:Nat):Option (Int × Nat) :=
 if i < p.size then
  if byteAt p i == 92 then
   if i+1 < p.size then
    if mayBeEscapedB (byteAt p (i+1)) then some (byteAt p (i+1),i+2)
    else if i+2 < p.size∧hexB (byteAt p (i+1))=true∧hexB (byteAt p (i+2))=true then some (16 * digitI (byteAt p (i+1))+digitI (byteAt p (i+2)),i+3)
    else none
   else none
  else some (byteAt p i,i+1)
 else none
def itemsF (p:ByteArray):Nat→Nat→(Nat→Bool)→Option (Nat→Bool)
 | 0,_,_=>none
 | n+1,i,f =>
  if i < p.size then
   if byteAt p i == 93 then some f
   else (namedS p i).bind fun lo =>
    if lo.2 < p.size then
     if byteAt p lo.2 == 45 then (namedS p (lo.2+1)).bind fun hi=>itemsF p n hi.2 (addR f lo.1 hi.1)
     else itemsF p n lo.2 (addR f lo.1 lo.1)
    else none
  else none
structure Rn where
 kind:Int
 l:Int
 r:Int
 m:Int
 n:Int
 f:Nat→Bool
def noSet:Nat→Bool:=fun _=>false
def leafS (p:ByteArray):Option Rn :=
 if 0 < p.size then
  if byteAt p 0 == 46 then some ⟨2,0,0,0,0,fun _=>true⟩
  else if byteAt p 0 == 91 then
   if 1 < p.size then
    if byteAt p 1 == 94 then (itemsF p 61 2 noSet).bind fun f=>some ⟨2,0,0,0,0,fun j=>!f j⟩
    else (itemsF p 61 1 noSet).bind fun f=>some ⟨2,0,0,0,0,f⟩
   else none
  else (namedS p 0).bind fun b=>some ⟨2,0,0,0,0,addR noSet b.1 b.1⟩
 else none
def rfF:Nat→Nat→ByteArray→Nat→Int→List Rn→Option (List Rn × Int)
 | 0,_,_,_,_,_=>none
 | n+1,0,p,_,_,rs=>rfF n 1 p 0 0 rs
 | n+1,1,p,at_,_,rs =>
  if at_ < p.size∧(byteAt p at_ == 124)=false then (ovF p 200 0 at_).bind fun j=>rfF n 1 p j 0 rs
  else if at_≤p.size then
   (rfF n 2 (p.extract 0 at_) 0 0 rs).bind fun x =>
    if at_=p.size then some x
    else (rfF n 0 (p.extract (at_+1) p.size) 0 0 x.1).bind fun y=>some (y.1++[⟨4,x.2,y.2,0,0,noSet⟩],(y.1.length:Int))
  else none
 | n+1,2,p,_,_,rs =>
  if p.size=0 then some (rs++[⟨1,0,0,0,0,noSet⟩],(rs.length:Int))
  else (ovF p 200 0 0).bind fun j=>if j≤p.size then (rfF n 4 (p.extract 0 j) 0 0 rs).bind fun x=>rfF n 3 p j x.2 x.1 else none
 | n+1,3,p,at_,l,rs =>
  if at_ < p.size∧(byteAt p at_ == 42)=true then rfF n 3 p (at_+1) rs.length (rs++[⟨5,l,0,0,0,noSet⟩])
  else if at_ < p.size∧(byteAt p at_ == 43)=true then rfF n 3 p (at_+1) rs.length (rs++[⟨6,l,0,0,0,noSet⟩])
  else if at_ < p.size∧(byteAt p at_ == 63)=true then rfF n 3 p (at_+1) rs.length (rs++[⟨7,l,0,0,0,noSet⟩])
  else if at_ < p.size∧(byteAt p at_ == 123)=true then
   if at_+4 < p.size∧decB (byteAt p (at_+1))=true∧decB (byteAt p (at_+3))=true then
    rfF n 3 p (at_+5) rs.length (rs++[⟨8,l,0,byteAt p (at_+1) - 48,byteAt p (at_+3) - 48,noSet⟩])
   else none
  else if at_=p.size then some (rs,l)
  else if at_ < p.size then (rfF n 2 (p.extract at_ p.size) 0 0 rs).bind fun y=>some (y.1++[⟨3,l,y.2,0,0,noSet⟩],(y.1.length:Int))
  else none
 | n+1,_,p,_,_,rs =>
  if 0 < p.size∧(byteAt p 0 == 40)=true then (if 1 < p.size then rfF n 0 (p.extract 1 (p.size - 1)) 0 0 rs else none)
  else (leafS p).bind fun r=>some (rs++[r],(rs.length:Int))
end Go.Proofs.YtobfpgoepaeknaaGreat
namespace Go.Proofs.YtobfpgoepaeknaaGreat
theorem rfF_grows:∀ (n tag:Nat) (p:ByteArray) (a:Nat) (l:Int) (rs:List Rn) (r:List Rn × Int),rfF n tag p a l rs=some r→rs.length≤r.1.length:=by
 intro n
 induction n with
 | zero=>intro tag p a l rs r h;simp [rfF] at h
 | succ n ih =>
  intro tag p a l rs r h
  match tag with
  | 0=>simp only [rfF] at h;exact ih _ _ _ _ _ _ h
  | 1 =>
   simp only [rfF] at h
   split at h
   ·rw [Option.bind_eq_some_iff] at h
    obtain ⟨j,_,h⟩:=h
    exact ih _ _ _ _ _ _ h
   ·split at h
    ·rw [Option.bind_eq_some_iff] at h
     obtain ⟨x,hx,h⟩:=h
     have g1:=ih _ _ _ _ _ _ hx
     split at h
     ·simp only [Option.some.injEq] at h;subst h;exact g1
     ·rw [Option.bind_eq_some_iff] at h
      obtain ⟨y,hy,h⟩:=h
      have g2:=ih _ _ _ _ _ _ hy
      simp only [Option.some.injEq] at h;subst h
      simp only [List.length_append,List.length_cons,List.length_nil];omega
    ·cases h
  | 2 =>
   simp only [rfF] at h
   split at h
   ·simp only [Option.some.injEq] at h;subst h;simp
   ·rw [Option.bind_eq_some_iff] at h
    obtain ⟨j,_,h⟩:=h
    split at h
    ·rw [Option.bind_eq_some_iff] at h
     obtain ⟨x,hx,h⟩:=h
     have g1:=ih _ _ _ _ _ _ hx
     have g2:=ih _ _ _ _ _ _ h
     omega
    ·cases h
  | 3 =>
   simp only [rfF] at h
   split at h
   ·have g:=ih _ _ _ _ _ _ h;simp at g;omega
   ·split at h
    ·have g:=ih _ _ _ _ _ _ h;simp at g;omega
    ·split at h
     ·have g:=ih _ _ _ _ _ _ h;simp at g;omega
     ·split at h
      ·split at h
       ·have g:=ih _ _ _ _ _ _ h;simp at g;omega
       ·cases h
      ·split at h
       ·simp only [Option.some.injEq] at h;subst h;simp
       ·split at h
        ·rw [Option.bind_eq_some_iff] at h
         obtain ⟨y,hy,h⟩:=h
         have g2:=ih _ _ _ _ _ _ hy
         simp only [Option.some.injEq] at h;subst h
         simp only [List.length_append,List.length_cons,List.length_nil];omega
        ·cases h
  | tag+4 =>
   simp only [rfF] at h
   split at h
   ·split at h
    ·exact ih _ _ _ _ _ _ h
    ·cases h
   ·rw [Option.bind_eq_some_iff] at h
    obtain ⟨y,_,h⟩:=h
    simp only [Option.some.injEq] at h;subst h;simp
end Go.Proofs.YtobfpgoepaeknaaGreat
namespace Go.Proofs.YtobfpgoepaeknaaGreat
def wTop:Int:=1152921504606846976
def wF (rs:List Rn):Nat→Int→Option Int
 | 0,_=>none
 | n+1,k =>
  if 0≤k then
   (rs[k.toNat]?).bind fun r =>
    if (r.kind == 1 || r.kind == 2)=true then some 1
    else (wF rs n r.l).bind fun a =>
     if (r.kind == 3 || r.kind == 4)=true then (wF rs n r.r).bind fun c=>if 0≤a∧0≤c∧a≤wTop∧c≤wTop then some (a+c) else none
     else if (r.kind == 8)=true then (if 0≤a * r.n∧a * r.n≤wTop then some (if a * r.n < 1 then 1 else a * r.n) else none)
     else some a
  else none
def RefOk (t:ByteArray) (y:St):Prop :=
 ((y.s.bad=true∨y.s.k < t.size)→placeS t=(y.s.k:Int)) ∧
 (¬(y.s.bad=true∨y.s.k < t.size)→placeS t=-1∧∃ n r m W,rfF n 0 t 0 0 []=some r∧r.1.length≤1000∧wF r.1 m r.2=some W∧lastW (weighAll y.ns)=if 13 < W then 13 else W)
end Go.Proofs.YtobfpgoepaeknaaGreat
namespace Go.Proofs.YtobfpgoepaeknaaGreat
def adv (t:ByteArray):Nat→Nat→Sc→Option Sc
 | 0,_,x=>some x
 | n+1,k,x=>if (goesS x (byteAt t k)).1=true then adv t n (k+1) (goesS x (byteAt t k)).2 else none
def Go' (t:ByteArray) (a:Nat) (x:Sc) (b:Nat) (y:Sc):Prop:=a≤b∧adv t (b - a) a x=some y
def Stuck (t:ByteArray) (k:Nat) (x:Sc):Prop :=
 (k < t.size∧(goesS x (byteAt t k)).1=false)∨(k=t.size∧(0 < x.depth∨1 < x.mode))
theorem adv_add (t:ByteArray):∀ (n m k:Nat) (x y:Sc),adv t n k x=some y→adv t (n+m) k x=adv t m (k+n) y
 | 0,m,k,x,y,h=>by simp only [adv,Option.some.injEq] at h;subst h;simp
 | n+1,m,k,x,y,h=>by
  simp only [adv] at h
  split at h
  ·rename_i hg
   rw [show n+1+m=(n+m)+1 from by omega]
   simp only [adv]
   rw [if_pos hg,adv_add t n m (k+1) _ y h]
   congr 1
   omega
  ·cases h
theorem Go'.refl (t:ByteArray) (a:Nat) (x:Sc):Go' t a x a x:=⟨Nat.le_refl _,by simp [adv]⟩
theorem Go'.trans {t:ByteArray} {a b c:Nat} {x y z:Sc} (h:Go' t a x b y) (k:Go' t b y c z):Go' t a x c z:=by
 refine ⟨Nat.le_trans h.1 k.1,?_⟩
 have h1:=h.1
 have k1:=k.1
 rw [show c - a=(b - a)+(c - b) from by omega,adv_add t (b - a) (c - b) a x y h.2,show a+(b - a)=b from by omega]
 exact k.2
theorem Go'.step {t:ByteArray} {a:Nat} {x y:Sc} (h:goesS x (byteAt t a)=(true,y)):Go' t a x (a+1) y:=by
 refine ⟨Nat.le_succ _,?_⟩
 rw [show a+1 - a=0+1 from by omega]
 simp only [adv,h]
 simp
theorem scan_adv (t:ByteArray):∀ (n k:Nat) (x y:Sc),adv t n k x=some y→k+n≤t.size→scanS t (t.size - k) k x=scanS t (t.size - (k+n)) (k+n) y
 | 0,k,x,y,h,_=>by simp only [adv,Option.some.injEq] at h;subst h;rfl
 | n+1,k,x,y,h,hk=>by
  simp only [adv] at h
  split at h
  ·rename_i hg
   have:=scan_adv t n (k+1) _ y h (by omega)
   rw [show t.size - k=(t.size - (k+1))+1 from by omega]
   simp only [scanS]
   rw [if_pos hg,this,show k+1+n=k+(n+1) from by omega]
  ·cases h
theorem scan_stuck {t:ByteArray} {k:Nat} {x:Sc} (h:Stuck t k x):scanS t (t.size - k) k x=(k:Int):=by
 rcases h with ⟨hk,hg⟩ | ⟨hk,hd⟩
 ·rw [show t.size - k=(t.size - (k+1))+1 from by omega]
  simp only [scanS]
  rw [if_neg (by simp [hg])]
 ·rw [show t.size - k=0 from by omega]
  simp only [scanS]
  rw [if_pos (by simpa using hd),hk]
def Out (t:ByteArray) (k:Nat) (x:Sc) (s':S1) (m d:Int):Prop :=
 (s'.bad=false→∃ bk,Go' t k x s'.k ⟨m,d,bk⟩)∧(s'.bad=true→∃ z,Go' t k x s'.k z∧Stuck t s'.k z)
theorem Out.before {t:ByteArray} {a k:Nat} {x y:Sc} {s':S1} {m d:Int} (h:Go' t a x k y) (o:Out t k y s' m d):Out t a x s' m d :=
 ⟨fun hb=>by obtain ⟨bk,g⟩:=o.1 hb;exact ⟨bk,h.trans g⟩,fun hb=>by obtain ⟨z,g,s⟩:=o.2 hb;exact ⟨z,h.trans g,s⟩⟩
theorem out_step {t:ByteArray} {k:Nat} {x:Sc} {m d bk:Int} (h:goesS x (byteAt t k)=(true,⟨m,d,bk⟩)):Out t k x ⟨k+1,false⟩ m d :=
 ⟨fun _=>⟨bk,Go'.step h⟩,fun hb=>by cases hb⟩
theorem out_stuck {t:ByteArray} {k:Nat} {x:Sc} {m d:Int} (h:Stuck t k x):Out t k x ⟨k,true⟩ m d :=
 ⟨fun hb=>(by cases hb),fun _=>⟨x,Go'.refl t k x,h⟩⟩
theorem pk_good {t:ByteArray} {s:S1} (hb:s.bad=false) (hk:s.k≤t.size):(s.k < t.size∧s.pk t=byteAt t s.k)∨(s.k=t.size∧s.pk t=-1):=by
 unfold S1.pk pk
 rw [hb]
 by_cases h:s.k < t.size
 ·left;refine ⟨h,?_⟩;simp [h,byteAt]
 ·right;refine ⟨by omega,?_⟩;simp [h]
theorem digit10 (c:Int):(decide (digitI c < 0) || decide (10≤digitI c))=!decB c:=by
 unfold digitI decB
 by_cases h1:48≤c∧c≤57
 ·rw [if_pos h1,Bool.eq_iff_iff];simp only [Bool.or_eq_true,decide_eq_true_eq,Bool.not_eq_true',Bool.and_eq_false_iff,decide_eq_false_iff_not];omega
 ·rw [if_neg h1]
  by_cases h2:97≤c∧c≤102
  ·rw [if_pos h2,Bool.eq_iff_iff];simp only [Bool.or_eq_true,decide_eq_true_eq,Bool.not_eq_true',Bool.and_eq_false_iff,decide_eq_false_iff_not];omega
  ·rw [if_neg h2,Bool.eq_iff_iff];simp only [Bool.or_eq_true,decide_eq_true_eq,Bool.not_eq_true',Bool.and_eq_false_iff,decide_eq_false_iff_not];omega
theorem digit16 (c:Int):(decide (digitI c < 0) || decide (16≤digitI c))=!hexB c:=by
 unfold digitI hexB decB
 by_cases h1:48≤c∧c≤57
 ·rw [if_pos h1,Bool.eq_iff_iff];simp only [Bool.or_eq_true,decide_eq_true_eq,Bool.not_eq_true',Bool.or_eq_false_iff,Bool.and_eq_false_iff,decide_eq_false_iff_not];omega
 ·rw [if_neg h1]
  by_cases h2:97≤c∧c≤102
  ·rw [if_pos h2,Bool.eq_iff_iff];simp only [Bool.or_eq_true,decide_eq_true_eq,Bool.not_eq_true',Bool.or_eq_false_iff,Bool.and_eq_false_iff,decide_eq_false_iff_not];omega
  ·rw [if_neg h2,Bool.eq_iff_iff];simp only [Bool.or_eq_true,decide_eq_true_eq,Bool.not_eq_true',Bool.or_eq_false_iff,Bool.and_eq_false_iff,decide_eq_false_iff_not];omega
theorem hexB_neg:hexB (-1)=false:=by decide
theorem decB_neg:decB (-1)=false:=by decide
theorem readDigit_out {t:ByteArray} {s:S1} {base:Int} {x:Sc} {m d bk:Int} {B:Int→Bool} (hb:s.bad=false) (hk:s.k≤t.size)
  (hB:∀ c,(decide (digitI c < 0) || decide (base≤digitI c))=!B c) (hBn:B (-1)=false) (hm:0 < x.depth∨1 < x.mode)
  (hg:∀ c,B c=true→goesS x c=(true,⟨m,d,bk⟩)) (hn:∀ c,B c=false→(goesS x c).1=false) :
  Out t s.k x (readDigitS t base s).2 m d:=by
 unfold readDigitS digitOk
 rw [hB,Bool.not_not]
 rcases pk_good hb hk with ⟨h1,h2⟩ | ⟨h1,h2⟩
 ·rw [h2]
  by_cases hc:B (byteAt t s.k)=true
  ·rw [if_pos hc,hb];exact out_step (hg _ hc)
  ·rw [if_neg hc];exact out_stuck (Or.inl ⟨h1,hn _ (by simpa using hc)⟩)
 ·rw [h2,hBn,if_neg (by simp)]
  exact out_stuck (Or.inr ⟨h1,hm⟩)
theorem bad_digit {t:ByteArray} {s:S1} {base:Int} (hb:s.bad=true):(readDigitS t base s).2=⟨s.k,true⟩:=by
 unfold readDigitS digitOk
 rw [pk_bad hb]
 rw [if_neg (by simp [digitI])]
theorem bad_expect {t:ByteArray} {s:S1} {c:Int} (hc:0≤c) (hb:s.bad=true):expectS t c s=⟨s.k,true⟩:=by
 unfold expectS
 rw [pk_bad hb,if_neg (by simp;omega)]
theorem goes2 {x:Sc} (h:x.mode=2) (c:Int):goesS x c=(mayBeEscapedB c || hexB c,⟨if mayBeEscapedB c then x.back else 3,x.depth,x.back⟩):=by
 unfold goesS;rw [h];rfl
theorem goes3 {x:Sc} (h:x.mode=3) (c:Int):goesS x c=(hexB c,⟨x.back,x.depth,x.back⟩):=by
 unfold goesS;rw [h];rfl
theorem escape_out {t:ByteArray} {s:S1} {d bk:Int} (hb:s.bad=false) (hk:s.k≤t.size) :
  Out t s.k ⟨2,d,bk⟩ (if mayBeEscapedB (s.pk t) then (⟨s.k+1,s.bad⟩:S1) else (readDigitS t 16 (readDigitS t 16 s).2).2) bk d:=by
 by_cases hm:mayBeEscapedB (s.pk t)=true
 ·rw [if_pos hm,hb]
  rcases pk_good hb hk with ⟨h1,h2⟩ | ⟨h1,h2⟩
  ·rw [h2] at hm
   refine out_step (bk:=bk) ?_
   rw [goes2 rfl]
   simp [hm]
  ·rw [h2] at hm;exact absurd hm (by decide)
 ·rw [if_neg hm]
  have hm':mayBeEscapedB (s.pk t)=false:=by simpa using hm
  have o1:Out t s.k ⟨2,d,bk⟩ (readDigitS t 16 s).2 3 d∧((readDigitS t 16 s).2.bad=false→Go' t s.k ⟨2,d,bk⟩ (readDigitS t 16 s).2.k ⟨3,d,bk⟩):=by
   unfold readDigitS digitOk
   rw [digit16,Bool.not_not]
   rcases pk_good hb hk with ⟨h1,h2⟩ | ⟨h1,h2⟩
   ·rw [h2] at hm' ⊢
    by_cases hc:hexB (byteAt t s.k)=true
    ·rw [if_pos hc,hb]
     have hg:goesS ⟨2,d,bk⟩ (byteAt t s.k)=(true,⟨3,d,bk⟩):=by rw [goes2 rfl];simp [hm',hc]
     exact ⟨out_step hg,fun _=>Go'.step hg⟩
    ·rw [if_neg hc]
     have hg:(goesS ⟨2,d,bk⟩ (byteAt t s.k)).1=false:=by rw [goes2 rfl];simp [hm',hc]
     exact ⟨out_stuck (Or.inl ⟨h1,hg⟩),fun hh=>by cases hh⟩
   ·rw [h2,hexB_neg,if_neg (by simp)]
    exact ⟨out_stuck (Or.inr ⟨h1,Or.inr (by simp)⟩),fun hh=>by cases hh⟩
  have hk1:=readDigitS_le (t:=t) (c:=16) (s:=s) hk
  generalize (readDigitS t 16 s).2=s1 at *
  cases hb1:s1.bad
  ·have g:=o1.2 hb1
   exact Out.before g (readDigit_out (B:=hexB) (bk:=bk) hb1 hk1 digit16 hexB_neg (Or.inr (by simp)) (fun c hc=>by rw [goes3 rfl];simp [hc]) (fun c hc=>by rw [goes3 rfl];simp [hc]))
  ·rw [bad_digit hb1]
   obtain ⟨z,g,st⟩:=o1.1.2 hb1
   exact ⟨fun hh=>(by cases hh),fun _=>⟨z,g,st⟩⟩
theorem readEscape_out {t:ByteArray} {s:S1} {x:Sc} {d bk:Int} (hb:s.bad=false) (hp:(s.pk t == 92)=true) (hg:goesS x 92=(true,⟨2,d,bk⟩)) :
  Out t s.k x (readEscapeS t s).2 bk d:=by
 have hlt:=S1.pk_lt (t:=t) (s:=s) (by rw [beq_iff_eq] at hp;omega)
 have e1:=expectS_eq hp
 have hbyte:byteAt t s.k=92:=by
  rcases pk_good hb (Nat.le_of_lt hlt.2) with ⟨h1,h2⟩ | ⟨h1,h2⟩
  ·rw [beq_iff_eq] at hp;omega
  ·omega
 have g1:Go' t s.k x (s.k+1) ⟨2,d,bk⟩:=Go'.step (by rw [hbyte];exact hg)
 have o:=escape_out (t:=t) (s:=⟨s.k+1,s.bad⟩) (d:=d) (bk:=bk) hb (by simp only;omega)
 have e2:(readEscapeS t s).2=if mayBeEscapedB (S1.pk t ⟨s.k+1,s.bad⟩) then (⟨s.k+1+1,s.bad⟩:S1) else (readDigitS t 16 (readDigitS t 16 ⟨s.k+1,s.bad⟩).2).2:=by
  unfold readEscapeS
  simp only [e1]
  split<;>rfl
 rw [e2]
 exact Out.before g1 o
end Go.Proofs.YtobfpgoepaeknaaGreat
namespace Go.Proofs.YtobfpgoepaeknaaGreat
theorem goes_in {x:Sc} (h:8≤x.mode) (c:Int):goesS x c=insideS x c:=by
 unfold goesS
 have h0:(x.mode == 0)=false:=by simp;omega
 have h1:(x.mode == 1)=false:=by simp;omega
 have h2:(x.mode == 2)=false:=by simp;omega
 have h3:(x.mode == 3)=false:=by simp;omega
 have h4:(x.mode == 4)=false:=by simp;omega
 have h5:(x.mode == 5)=false:=by simp;omega
 have h6:(x.mode == 6)=false:=by simp;omega
 have h7:(x.mode == 7)=false:=by simp;omega
 simp [h0,h1,h2,h3,h4,h5,h6,h7]
theorem in_92 {x:Sc} (h:8≤x.mode):goesS x 92=(true,⟨2,x.depth,toS x⟩):=by rw [goes_in h];rfl
theorem in_plain {x:Sc} (h:8≤x.mode) {c:Int} (hc:isPlainInSetB c=true):goesS x c=(true,⟨toS x,x.depth,x.back⟩):=by
 rw [goes_in h]
 simp only [isPlainInSetB,Bool.and_eq_true,Bool.not_eq_true',Bool.or_eq_false_iff,beq_eq_false_iff_ne,decide_eq_true_eq] at hc
 unfold insideS printB
 rw [if_neg (by simp;omega),if_neg (by simp;omega),if_neg (by simp;omega),if_neg (by simp;omega),if_neg (by simp;omega)]
 simp;omega
theorem in_no {x:Sc} (h:8≤x.mode) {c:Int} (hc:isPlainInSetB c=false) (h92:c≠92) (h94:x.mode=8→c≠94) (h45:x.mode=10→c≠45) (h93:x.mode=10∨x.mode=12→c≠93):(goesS x c).1=false:=by
 rw [goes_in h]
 unfold insideS
 by_cases c94:c=94
 ·rw [if_pos (by simp [c94])];simp;intro hm;exact h94 hm c94
 ·rw [if_neg (by simp [c94])]
  by_cases c45:c=45
  ·rw [if_pos (by simp [c45])];simp;intro hm;exact h45 hm c45
  ·rw [if_neg (by simp [c45])]
   by_cases c93:c=93
   ·rw [if_pos (by simp [c93])];simp;exact ⟨fun hm=>h93 (Or.inl hm) c93,fun hm=>h93 (Or.inr hm) c93⟩
   ·rw [if_neg (by simp [c93])]
    by_cases c91:c=91
    ·rw [if_pos (by simp [c91])]
    ·rw [if_neg (by simp [c91]),if_neg (by simp [h92])]
     simp only [isPlainInSetB,Bool.and_eq_false_iff,Bool.not_eq_false',Bool.or_eq_true,beq_iff_eq,decide_eq_false_iff_not] at hc
     simp only [printB,Bool.and_eq_false_iff,decide_eq_false_iff_not]
     omega
theorem readSetByte_out {t:ByteArray} {s:S1} {x:Sc} (hb:s.bad=false) (hk:s.k≤t.size) (h:8≤x.mode)
  (h94:x.mode=8→s.pk t≠94) (h45:x.mode=10→s.pk t≠45) (h93:x.mode=10∨x.mode=12→s.pk t≠93):Out t s.k x (readSetByteS t s).2 (toS x) x.depth:=by
 unfold readSetByteS
 by_cases c92:(s.pk t == 92)=true
 ·rw [if_pos c92]
  exact readEscape_out hb c92 (in_92 h)
 ·rw [if_neg c92]
  rcases pk_good hb hk with ⟨h1,h2⟩ | ⟨h1,h2⟩
  ·by_cases hc:isPlainInSetB (s.pk t)=true
   ·rw [if_pos hc,hb]
    rw [h2] at hc
    exact out_step (in_plain h hc)
   ·rw [if_neg hc]
    rw [h2] at hc c92 h94 h45 h93
    exact out_stuck (Or.inl ⟨h1,in_no h (by simpa using hc) (by simpa using c92) h94 h45 h93⟩)
  ·rw [h2]
   rw [if_neg (by decide)]
   exact out_stuck (Or.inr ⟨h1,Or.inr (by omega)⟩)
def ItemOut (t:ByteArray) (k:Nat) (x:Sc) (s':S1) (d:Int):Prop :=
 (s'.bad=false→∃ m bk,Go' t k x s'.k ⟨m,d,bk⟩∧((m=10∧s'.pk t≠45)∨m=12))∧(s'.bad=true→∃ z,Go' t k x s'.k z∧Stuck t s'.k z)
theorem readItem_out {t:ByteArray} {s:S1} {x:Sc} (hb:s.bad=false) (hk:s.k≤t.size) (h:8≤x.mode) (h11:x.mode≠11)
  (h94:x.mode=8→s.pk t≠94) (h45:x.mode=10→s.pk t≠45) (h93:x.mode=10∨x.mode=12→s.pk t≠93):ItemOut t s.k x (readItemS t s).2 x.depth:=by
 have o1:=readSetByte_out hb hk h h94 h45 h93
 have ht:toS x=10:=by unfold toS;rw [if_neg (by simp [h11])]
 rw [ht] at o1
 have hk1:=readSetByteS_le (t:=t) (s:=s) hk
 unfold readItemS
 simp only
 generalize readSetByteS t s=lo at *
 cases hb1:lo.2.bad
 ·obtain ⟨bk,g1⟩:=o1.1 hb1
  by_cases c45:(lo.2.pk t == 45)=true
  ·rw [if_pos c45,takeS_eq c45,hb1]
   have hlt:=(S1.pk_lt (t:=t) (s:=lo.2) (by rw [beq_iff_eq] at c45;omega)).2
   have hbyte:byteAt t lo.2.k=45:=by
    rcases pk_good hb1 hk1 with ⟨h1,h2⟩ | ⟨h1,h2⟩
    ·rw [beq_iff_eq] at c45;omega
    ·omega
   have g2:Go' t lo.2.k ⟨10,x.depth,bk⟩ (lo.2.k+1) ⟨11,x.depth,bk⟩:=Go'.step (by rw [hbyte,goes_in (by simp)];rfl)
   have o3:=readSetByte_out (t:=t) (s:=⟨lo.2.k+1,false⟩) (x:=⟨11,x.depth,bk⟩) rfl (by simp only;omega) (by simp) (by simp) (by simp) (by simp)
   have o4:=Out.before (g1.trans g2) o3
   exact ⟨fun hh=>by obtain ⟨bk',g⟩:=o4.1 hh;exact ⟨12,bk',g,Or.inr rfl⟩,o4.2⟩
  ·rw [if_neg c45]
   exact ⟨fun _=>⟨10,bk,g1,Or.inl ⟨rfl,by simpa using c45⟩⟩,fun hh=>by rw [hb1] at hh;cases hh⟩
 ·have c45:¬(lo.2.pk t == 45)=true:=by rw [pk_bad hb1];decide
  rw [if_neg c45]
  exact ⟨fun hh=>(by rw [hb1] at hh;cases hh),fun _=>o1.2 hb1⟩
def ItemsOut (t:ByteArray) (k:Nat) (x:Sc) (s':S1) (d:Int):Prop :=
 (s'.bad=false→∃ m bk,Go' t k x s'.k ⟨m,d,bk⟩∧(m=10∨m=12)∧s'.pk t=93)∧(s'.bad=true→∃ z,Go' t k x s'.k z∧Stuck t s'.k z)
theorem setLoop_out {t:ByteArray}:∀ (n:Nat) (f:Nat→Bool) (s:S1) (k:Nat) (x:Sc) (d:Int),s.k≤t.size→left t s≤n→ItemOut t k x s d→ItemsOut t k x (setLoop t n f s).2 d:=by
 intro n
 induction n with
 | zero =>
  intro f s k x d hk hl o
  have hb:s.bad=true:=by
   cases hb:s.bad
   ·unfold left at hl;rw [hb] at hl;simp at hl
   ·rfl
  simp only [setLoop]
  exact ⟨fun hh=>(by rw [hb] at hh;cases hh),o.2⟩
 | succ n ih =>
  intro f s k x d hk hl o
  by_cases hgo:(!s.bad && s.pk t != 93)=true
  ·rw [setLoop_go n f s hgo]
   have hb:s.bad=false:=by revert hgo;cases s.bad<;>simp
   have hp:s.pk t≠93:=by revert hgo;rw [hb];simp
   have hl2:=left_goes (t:=t) hb (readItemS_le hk) (readItemS_goes t s)
   obtain ⟨m,bk,g,hm⟩:=o.1 hb
   have o2:ItemOut t s.k ⟨m,d,bk⟩ (readItemS t s).2 d:=by
    rcases hm with ⟨rfl,h45⟩ | rfl
    ·exact readItem_out (x:=⟨10,d,bk⟩) hb hk (by simp) (by simp) (by simp) (fun _=>h45) (fun _=>hp)
    ·exact readItem_out (x:=⟨12,d,bk⟩) hb hk (by simp) (by simp) (by simp) (by simp) (fun _=>hp)
   refine ih _ _ k x d (readItemS_le hk) (by omega) ⟨fun hh=>?_,fun hh=>?_⟩
   ·obtain ⟨m',bk',g',hm'⟩:=o2.1 hh;exact ⟨m',bk',g.trans g',hm'⟩
   ·obtain ⟨z,g',st⟩:=o2.2 hh;exact ⟨z,g.trans g',st⟩
  ·have hgo':(!s.bad && s.pk t != 93)=false:=by simpa using hgo
   rw [setLoop_stop (n+1) f s hgo']
   refine ⟨fun hh=>?_,o.2⟩
   obtain ⟨m,bk,g,hm⟩:=o.1 hh
   refine ⟨m,bk,g,?_,?_⟩
   ·rcases hm with ⟨h,_⟩ | h
    ·exact Or.inl h
    ·exact Or.inr h
   ·have hh':s.bad=false:=hh
    rw [hh'] at hgo';simpa using hgo'
theorem readSet_out {t:ByteArray} {s:S1} {d bk:Int} (hb:s.bad=false) (hk:s.k≤t.size):Out t s.k ⟨8,d,bk⟩ (readSetS t s).2 1 d:=by
 have o1:ItemOut t s.k ⟨8,d,bk⟩ (readItemS t (takeS t 94 s)).2 d:=by
  by_cases c94:(s.pk t == 94)=true
  ·rw [takeS_eq c94,hb]
   have hlt:=(S1.pk_lt (t:=t) (s:=s) (by rw [beq_iff_eq] at c94;omega)).2
   have hbyte:byteAt t s.k=94:=by
    rcases pk_good hb hk with ⟨h1,h2⟩ | ⟨h1,h2⟩
    ·rw [beq_iff_eq] at c94;omega
    ·omega
   have g:Go' t s.k ⟨8,d,bk⟩ (s.k+1) ⟨9,d,bk⟩:=Go'.step (by rw [hbyte,goes_in (by simp)];rfl)
   have o:=readItem_out (t:=t) (s:=⟨s.k+1,false⟩) (x:=⟨9,d,bk⟩) rfl (by simp only;omega) (by simp) (by simp) (by simp) (by simp) (by simp)
   exact ⟨fun hh=>by obtain ⟨m',bk',g',hm'⟩:=o.1 hh;exact ⟨m',bk',g.trans g',hm'⟩,fun hh=>by obtain ⟨z,g',st⟩:=o.2 hh;exact ⟨z,g.trans g',st⟩⟩
  ·have e:takeS t 94 s=s:=by unfold takeS;rw [if_neg c94]
   rw [e]
   exact readItem_out (x:=⟨8,d,bk⟩) hb hk (by simp) (by simp) (fun _=>by simpa using c94) (by simp) (by simp)
 have hk1:=readItemS_le (t:=t) (s:=takeS t 94 s) (takeS_le (by omega) hk)
 have hl:left t (readItemS t (takeS t 94 s)).2≤t.size+1:=by unfold left;split<;>omega
 have o2:=setLoop_out (t.size+1) (addR (fun _=>false) (readItemS t (takeS t 94 s)).1.1 (readItemS t (takeS t 94 s)).1.2) _ _ _ _ hk1 hl o1
 have hk2:=setLoop_le (t:=t) (t.size+1) (addR (fun _=>false) (readItemS t (takeS t 94 s)).1.1 (readItemS t (takeS t 94 s)).1.2) _ hk1
 show Out t s.k ⟨8,d,bk⟩ (expectS t 93 (setLoop t (t.size+1) (addR (fun _=>false) (readItemS t (takeS t 94 s)).1.1 (readItemS t (takeS t 94 s)).1.2) (readItemS t (takeS t 94 s)).2).2) 1 d
 generalize (setLoop t (t.size+1) (addR (fun _=>false) (readItemS t (takeS t 94 s)).1.1 (readItemS t (takeS t 94 s)).1.2) (readItemS t (takeS t 94 s)).2).2=r at *
 cases hbr:r.bad
 ·obtain ⟨m,bk',g,hm,hp⟩:=o2.1 hbr
  have hpe:(r.pk t == 93)=true:=by simp [hp]
  rw [expectS_eq hpe,hbr]
  have hbyte:byteAt t r.k=93:=by
   rcases pk_good hbr hk2 with ⟨h1,h2⟩ | ⟨h1,h2⟩
   ·omega
   ·omega
  refine Out.before g (out_step (bk:=bk') ?_)
  rw [hbyte,goes_in (by simp only;omega)]
  rcases hm with rfl | rfl<;>rfl
 ·rw [bad_expect (by omega) hbr]
  obtain ⟨z,g,st⟩:=o2.2 hbr
  exact ⟨fun hh=>(by cases hh),fun _=>⟨z,g,st⟩⟩
end Go.Proofs.YtobfpgoepaeknaaGreat
namespace Go.Proofs.YtobfpgoepaeknaaGreat
theorem goes_out {x:Sc} (h:x.mode=0∨x.mode=1) (c:Int):goesS x c=outsideS x c:=by
 unfold goesS
 rw [if_pos]
 rcases h with h | h<;>simp [h]
theorem out_plain {x:Sc} (h:x.mode=0∨x.mode=1) {c:Int} (hc:isPlainB c=true∨c=46):goesS x c=(true,⟨1,x.depth,x.back⟩):=by
 rw [goes_out h]
 have hp:printB c=true∧¬(c=124∨c=40∨c=41∨c=42∨c=43∨c=63∨c=123∨c=91∨c=92∨c=125∨c=93):=by
  rcases hc with hc | hc
  ·simp only [isPlainB,isMarkB,Bool.and_eq_true,Bool.not_eq_true',Bool.or_eq_false_iff,beq_eq_false_iff_ne,decide_eq_true_eq] at hc
   simp only [printB,Bool.and_eq_true,decide_eq_true_eq]
   omega
  ·subst hc;decide
 unfold outsideS
 rw [if_neg (by simp;omega),if_neg (by simp;omega),if_neg (by simp;omega),if_neg (by simp;omega),if_neg (by simp;omega),if_neg (by simp;omega),if_neg (by simp;omega),if_neg (by simp;omega),hp.1]
theorem out_no {x:Sc} (h:x.mode=0∨x.mode=1) {c:Int} (ha:atAtomB c=false) (hs:x.mode=1→atSuffixB c=false) (h124:c≠124) (h41:c=41→x.depth≤0):(goesS x c).1=false:=by
 rw [goes_out h]
 simp only [atAtomB,Bool.or_eq_false_iff,beq_eq_false_iff_ne] at ha
 unfold outsideS
 rw [if_neg (by simp [h124]),if_neg (by simp;omega)]
 by_cases c41:c=41
 ·rw [if_pos (by simp [c41])]
  have:=h41 c41
  simp;omega
 ·rw [if_neg (by simp [c41])]
  by_cases hsx:atSuffixB c=true
  ·have hm:¬x.mode=1:=fun hm=>by rw [hs hm] at hsx;cases hsx
   have hm':(x.mode == 1)=false:=by simp [hm]
   simp only [atSuffixB,Bool.or_eq_true,beq_iff_eq] at hsx
   by_cases c1:(c == 42 || c == 43 || c == 63)=true
   ·rw [if_pos c1];exact hm'
   ·rw [if_neg c1]
    have:c=123:=by simp at c1;omega
    rw [if_pos (by simp [this])];exact hm'
  ·simp only [atSuffixB,Bool.or_eq_true,beq_iff_eq] at hsx
   rw [if_neg (by simp;omega),if_neg (by simp;omega),if_neg (by simp;omega),if_neg (by simp;omega)]
   by_cases c2:(c == 125 || c == 93)=true
   ·rw [if_pos c2]
   ·rw [if_neg c2]
    have hpl:=ha.2
    simp at c2
    simp only [isPlainB,isMarkB,Bool.and_eq_false_iff,Bool.not_eq_false',Bool.or_eq_true,beq_iff_eq,decide_eq_false_iff_not] at hpl
    simp only [printB,Bool.and_eq_false_iff,decide_eq_false_iff_not]
    omega
theorem leaf_out {t:ByteArray} {y:St} {x:Sc} (hb:y.s.bad=false) (hk:y.s.k≤t.size) (h:x.mode=0∨x.mode=1) (ha:atAtomB (y.s.pk t)=true) (h40:(y.s.pk t == 40)=false) :
  Out t y.s.k x (readLeafS t y).s 1 x.depth:=by
 have hlt:y.s.k < t.size∧y.s.pk t=byteAt t y.s.k:=by
  rcases pk_good hb hk with h1 | ⟨_,h2⟩
  ·exact h1
  ·rw [h2] at ha;exact absurd ha (by decide)
 unfold readLeafS
 by_cases c91:(y.s.pk t == 91)=true
 ·rw [if_pos c91]
  show Out t y.s.k x (readSetS t (takeS t 91 y.s)).2 1 x.depth
  rw [takeS_eq c91,hb]
  have g:Go' t y.s.k x (y.s.k+1) ⟨8,x.depth,x.back⟩:=Go'.step (by rw [←hlt.2,goes_out h,show y.s.pk t=91 from by simpa using c91];rfl)
  exact Out.before g (readSet_out (s:=⟨y.s.k+1,false⟩) rfl (by simp only;omega))
 ·rw [if_neg c91]
  by_cases c46:(y.s.pk t == 46)=true
  ·rw [if_pos c46]
   show Out t y.s.k x (takeS t 46 y.s) 1 x.depth
   rw [takeS_eq c46,hb]
   exact out_step (bk:=x.back) (by rw [←hlt.2];exact out_plain h (Or.inr (by simpa using c46)))
  ·rw [if_neg c46]
   show Out t y.s.k x (readByteS t y.s).2 1 x.depth
   unfold readByteS
   by_cases c92:(y.s.pk t == 92)=true
   ·rw [if_pos c92]
    exact readEscape_out hb c92 (by rw [goes_out h];rfl)
   ·rw [if_neg c92]
    have hp:isPlainB (y.s.pk t)=true:=by
     simp only [atAtomB,Bool.or_eq_true] at ha
     rcases ha with (((ha | ha) | ha) | ha) | ha
     ·exact absurd ha c46
     ·rw [h40] at ha;cases ha
     ·exact absurd ha c91
     ·exact absurd ha c92
     ·exact ha
    rw [if_pos hp,hb]
    rw [hlt.2] at hp
    exact out_step (out_plain h (Or.inl hp))
theorem Out.then {t:ByteArray} {k:Nat} {x:Sc} {s1 s2:S1} {m m2 d:Int} (o:Out t k x s1 m d) (hg:∀ bk,s1.bad=false→Out t s1.k ⟨m,d,bk⟩ s2 m2 d) (hb:s1.bad=true→s2=⟨s1.k,true⟩):Out t k x s2 m2 d:=by
 cases h:s1.bad
 ·obtain ⟨bk,g⟩:=o.1 h
  exact Out.before g (hg bk h)
 ·rw [hb h]
  obtain ⟨z,g,st⟩:=o.2 h
  exact ⟨fun hh=>(by cases hh),fun _=>⟨z,g,st⟩⟩
theorem expect_out {t:ByteArray} {s:S1} {c:Int} {x:Sc} {m d bk:Int} (hb:s.bad=false) (hk:s.k≤t.size) (hc:0≤c) (hm:1 < x.mode)
  (hg:goesS x c=(true,⟨m,d,bk⟩)) (hn:∀ c',c'≠c→(goesS x c').1=false):Out t s.k x (expectS t c s) m d:=by
 unfold expectS
 rcases pk_good hb hk with ⟨h1,h2⟩ | ⟨h1,h2⟩
 ·by_cases h:(s.pk t == c)=true
  ·rw [if_pos h,hb]
   exact out_step (by rw [←h2,show s.pk t=c from by simpa using h];exact hg)
  ·rw [if_neg h]
   exact out_stuck (Or.inl ⟨h1,hn _ (by rw [←h2];simpa using h)⟩)
 ·rw [h2,if_neg (by simp;omega)]
  exact out_stuck (Or.inr ⟨h1,Or.inr hm⟩)
theorem suffix_out {t:ByteArray} {y:St} {whole:Int} {d bk:Int} (hb:y.s.bad=false) (hk:y.s.k≤t.size) (hs:atSuffixB (y.s.pk t)=true) :
  Out t y.s.k ⟨1,d,bk⟩ (readSuffixS t whole y).s 1 d:=by
 have hlt:y.s.k < t.size∧y.s.pk t=byteAt t y.s.k:=by
  rcases pk_good hb hk with h1 | ⟨_,h2⟩
  ·exact h1
  ·rw [h2] at hs;exact absurd hs (by decide)
 have star:∀ c:Int,c=42∨c=43∨c=63→goesS ⟨1,d,bk⟩ c=(true,⟨1,d,bk⟩):=by
  rintro c (rfl | rfl | rfl)<;>rfl
 unfold readSuffixS
 by_cases h1:(y.s.pk t == 42)=true
 ·rw [if_pos h1]
  show Out t y.s.k _ (takeS t 42 y.s) 1 d
  rw [takeS_eq h1,hb]
  exact out_step (by rw [←hlt.2];exact star _ (Or.inl (by simpa using h1)))
 ·rw [if_neg h1]
  by_cases h2:(y.s.pk t == 43)=true
  ·rw [if_pos h2]
   show Out t y.s.k _ (takeS t 43 y.s) 1 d
   rw [takeS_eq h2,hb]
   exact out_step (by rw [←hlt.2];exact star _ (Or.inr (Or.inl (by simpa using h2))))
  ·rw [if_neg h2]
   by_cases h3:(y.s.pk t == 63)=true
   ·rw [if_pos h3]
    show Out t y.s.k _ (takeS t 63 y.s) 1 d
    rw [takeS_eq h3,hb]
    exact out_step (by rw [←hlt.2];exact star _ (Or.inr (Or.inr (by simpa using h3))))
   ·rw [if_neg h3]
    have h4:(y.s.pk t == 123)=true:=by
     simp only [atSuffixB,Bool.or_eq_true] at hs
     rcases hs with ((hs | hs) | hs) | hs
     ·exact absurd hs h1
     ·exact absurd hs h2
     ·exact absurd hs h3
     ·exact hs
    show Out t y.s.k _ (expectS t 125 (readDigitS t 10 (expectS t 44 (readDigitS t 10 (expectS t 123 y.s)).2)).2) 1 d
    rw [expectS_eq h4,hb]
    have g:Go' t y.s.k ⟨1,d,bk⟩ (y.s.k+1) ⟨4,d,bk⟩:=Go'.step (by rw [←hlt.2,show y.s.pk t=123 from by simpa using h4];rfl)
    have k1:(⟨y.s.k+1,false⟩:S1).k≤t.size:=by simp only;omega
    have k2:=readDigitS_le (t:=t) (c:=10) (s:=⟨y.s.k+1,false⟩) k1
    have k3:=expectS_le (t:=t) (c:=44) (s:=(readDigitS t 10 ⟨y.s.k+1,false⟩).2) (by omega) k2
    have k4:=readDigitS_le (t:=t) (c:=10) (s:=expectS t 44 (readDigitS t 10 ⟨y.s.k+1,false⟩).2) k3
    have o1:Out t (y.s.k+1) ⟨4,d,bk⟩ (readDigitS t 10 ⟨y.s.k+1,false⟩).2 5 d :=
     readDigit_out (s:=⟨y.s.k+1,false⟩) (B:=decB) (bk:=bk) rfl k1 digit10 decB_neg (Or.inr (by simp)) (fun c hc=>by show (decB c,_)=_;rw [hc];rfl) (fun c hc=>hc)
    refine Out.before g (((o1.then (s2:=expectS t 44 _) (m2:=6) ?_ (fun hh=>bad_expect (by omega) hh)).then (s2:=(readDigitS t 10 _).2) (m2:=7) ?_ (fun hh=>bad_digit hh)).then ?_ (fun hh=>bad_expect (by omega) hh))
    ·intro bk' hh
     refine expect_out (bk:=bk') hh k2 (by omega) (by simp) rfl (fun c' hc'=>?_)
     show (c' == 44)=false
     simp [hc']
    ·intro bk' hh
     exact readDigit_out (B:=decB) (bk:=bk') hh k3 digit10 decB_neg (Or.inr (by simp)) (fun c hc=>by show (decB c,_)=_;rw [hc];rfl) (fun c hc=>hc)
    ·intro bk' hh
     refine expect_out (bk:=bk') hh k4 (by omega) (by simp) rfl (fun c' hc'=>?_)
     show (c' == 125)=false
     simp [hc']
def EndOut (t:ByteArray) (k:Nat) (x:Sc) (s':S1) (d:Int) (P:Int→Int→Prop):Prop :=
 (s'.bad=false→∃ m bk,Go' t k x s'.k ⟨m,d,bk⟩∧(m=0∨m=1)∧P m (s'.pk t))∧(s'.bad=true→∃ z,Go' t k x s'.k z∧Stuck t s'.k z)
def P6 (m _c:Int):Prop:=m=1
def P5 (m c:Int):Prop:=m=1∧atSuffixB c=false
def P3 (m c:Int):Prop:=m=1∧atSuffixB c=false∧atAtomB c=false
def P2 (m c:Int):Prop:=atAtomB c=false∧(m=1→atSuffixB c=false)
def P1 (m c:Int):Prop:=atAtomB c=false∧(m=1→atSuffixB c=false)∧c≠124
theorem EndOut.before {t:ByteArray} {a k:Nat} {x y:Sc} {s':S1} {d:Int} {P:Int→Int→Prop} (h:Go' t a x k y) (o:EndOut t k y s' d P):EndOut t a x s' d P :=
 ⟨fun hb=>by obtain ⟨m,bk,g,r⟩:=o.1 hb;exact ⟨m,bk,h.trans g,r⟩,fun hb=>by obtain ⟨z,g,s⟩:=o.2 hb;exact ⟨z,h.trans g,s⟩⟩
theorem EndOut.mono {t:ByteArray} {k:Nat} {x:Sc} {s':S1} {d:Int} {P Q:Int→Int→Prop} (o:EndOut t k x s' d P) (h:∀ m c,P m c→Q m c):EndOut t k x s' d Q :=
 ⟨fun hb=>by obtain ⟨m,bk,g,h0,r⟩:=o.1 hb;exact ⟨m,bk,g,h0,h m _ r⟩,o.2⟩
def OutT (t:ByteArray) (tag:Nat) (st:St) (r:St):Prop :=
 match tag with
 | 0=>∀ d bk,0≤d→st.s.bad=false→EndOut t st.s.k ⟨0,d,bk⟩ r.s d P1
 | 1=>∀ k x d,0≤d→EndOut t k x st.s d P2→EndOut t k x r.s d P1
 | 2=>∀ d bk,0≤d→st.s.bad=false→EndOut t st.s.k ⟨0,d,bk⟩ r.s d P2
 | 3=>∀ k x d,0≤d→EndOut t k x st.s d P5→EndOut t k x r.s d P3
 | 4=>∀ x,0≤x.depth→(x.mode=0∨x.mode=1)→st.s.bad=false→atAtomB (st.s.pk t)=true→EndOut t st.s.k x r.s x.depth P5
 | 5=>∀ k x d,0≤d→EndOut t k x st.s d P6→EndOut t k x r.s d P5
 | _=>∀ x,0≤x.depth→(x.mode=0∨x.mode=1)→st.s.bad=false→atAtomB (st.s.pk t)=true→EndOut t st.s.k x r.s x.depth P6
theorem out_end {t:ByteArray} {k:Nat} {x:Sc} {s':S1} {d:Int} (o:Out t k x s' 1 d):EndOut t k x s' d P6 :=
 ⟨fun hb=>by obtain ⟨bk,g⟩:=o.1 hb;exact ⟨1,bk,g,Or.inr rfl,rfl⟩,o.2⟩
theorem rdF_out (t:ByteArray):∀ (f tag:Nat) (whole:Int) (st:St) (r:St × Int),st.s.k≤t.size→rdF t f tag whole st=some r→OutT t tag st r.1:=by
 intro f
 induction f with
 | zero=>intro tag whole st r _ h;simp [rdF] at h
 | succ f ih =>
  intro tag whole st r hk h
  match tag with
  | 0 =>
   simp only [rdF,Option.bind_eq_some_iff] at h
   obtain ⟨r1,h1,h2⟩:=h
   intro d bk hd hb
   have o1:=ih 2 _ _ _ hk h1 d bk hd hb
   have hk1:r1.1.s.k≤t.size:=(rdF_facts t f 2 _ _ _ hk h1).2.1
   exact ih 1 _ _ _ hk1 h2 _ _ d hd o1
  | 1 =>
   simp only [rdF] at h
   intro k x d hd o
   split at h
   ·rename_i hc
    simp only [Option.bind_eq_some_iff] at h
    obtain ⟨r1,h1,h2⟩:=h
    obtain ⟨hb,hlt⟩:=S1.pk_lt (t:=t) (s:=st.s) (by rw [beq_iff_eq] at hc;omega)
    rw [takeS_eq hc] at h1
    have hk0:(st.at ⟨st.s.k+1,st.s.bad⟩).s.k≤t.size:=by simp only [St.at];omega
    have hk1:r1.1.s.k≤t.size:=(rdF_facts t f 2 _ _ _ hk0 h1).2.1
    obtain ⟨m,bk,g,hm,_⟩:=o.1 hb
    have g2:Go' t st.s.k ⟨m,d,bk⟩ (st.s.k+1) ⟨0,d,bk⟩:=Go'.step (by
     rcases pk_good hb hk with ⟨_,e⟩ | ⟨e,_⟩
     ·rw [←e,goes_out hm,show st.s.pk t=124 from by simpa using hc];rfl
     ·omega)
    have o1:=ih 2 _ _ _ hk0 h1 d bk hd hb
    exact ih 1 _ (r1.1.add ⟨3,whole,r1.2,0,0,0⟩) _ hk1 h2 k x d hd (EndOut.before (g.trans g2) o1)
   ·rename_i hc
    simp only [Option.some.injEq] at h
    subst h
    exact ⟨fun hb=>by obtain ⟨m,bk,g,hm,p⟩:=o.1 hb;exact ⟨m,bk,g,hm,p.1,p.2,by simpa using hc⟩,o.2⟩
  | 2 =>
   simp only [rdF] at h
   intro d bk hd hb
   split at h
   ·rename_i hc
    simp only [Option.bind_eq_some_iff] at h
    obtain ⟨r1,h1,h2⟩:=h
    have hk1:r1.1.s.k≤t.size:=(rdF_facts t f 4 _ _ _ hk h1).1.2.1
    have o1:=ih 4 _ _ _ hk h1 ⟨0,d,bk⟩ hd (Or.inl rfl) hb hc
    exact (ih 3 _ _ _ hk1 h2 _ _ d hd o1).mono (fun m c p=>⟨p.2.2,fun _=>p.2.1⟩)
   ·rename_i hc
    simp only [Option.some.injEq] at h
    subst h
    exact ⟨fun _=>⟨0,bk,Go'.refl _ _ _,Or.inl rfl,(by simpa using hc:atAtomB (st.s.pk t)=false),fun hm=>by omega⟩,fun hh=>by have:st.s.bad=true:=hh;rw [hb] at this;cases this⟩
  | 3 =>
   simp only [rdF] at h
   intro k x d hd o
   split at h
   ·rename_i hc
    simp only [Option.bind_eq_some_iff] at h
    obtain ⟨r1,h1,h2⟩:=h
    have hb:st.s.bad=false:=by
     cases hb:st.s.bad
     ·rfl
     ·rw [pk_bad hb] at hc;exact absurd hc (by decide)
    have hk1:r1.1.s.k≤t.size:=(rdF_facts t f 4 _ _ _ hk h1).1.2.1
    obtain ⟨m,bk,g,hm,p⟩:=o.1 hb
    have o1:=ih 4 _ _ _ hk h1 ⟨m,d,bk⟩ hd hm hb hc
    exact ih 3 _ (r1.1.add ⟨2,whole,r1.2,0,0,0⟩) _ hk1 h2 k x d hd (EndOut.before g o1)
   ·rename_i hc
    simp only [Option.some.injEq] at h
    subst h
    exact ⟨fun hb=>by obtain ⟨m,bk,g,hm,p⟩:=o.1 hb;exact ⟨m,bk,g,hm,p.1,p.2,by simpa using hc⟩,o.2⟩
  | 4 =>
   simp only [rdF,Option.bind_eq_some_iff] at h
   obtain ⟨r1,h1,h2⟩:=h
   intro x hd hm hb ha
   have hk1:r1.1.s.k≤t.size:=(rdF_facts t f 6 _ _ _ hk h1).1.2.1
   have o1:=ih 6 _ _ _ hk h1 x hd hm hb ha
   exact ih 5 _ _ _ hk1 h2 _ _ _ hd o1
  | 5 =>
   simp only [rdF] at h
   intro k x d hd o
   split at h
   ·rename_i hc
    have hb:st.s.bad=false:=by
     cases hb:st.s.bad
     ·rfl
     ·rw [pk_bad hb] at hc;exact absurd hc (by decide)
    have hk1:=(readSuffixS_facts (whole:=whole) hk hc).2.1
    obtain ⟨m,bk,g,hm,p⟩:=o.1 hb
    have p':m=1:=p
    subst p'
    exact ih 5 _ _ _ hk1 h k x d hd (EndOut.before g (out_end (suffix_out hb hk hc)))
   ·rename_i hc
    simp only [Option.some.injEq] at h
    subst h
    exact ⟨fun hb=>by obtain ⟨m,bk,g,hm,p⟩:=o.1 hb;exact ⟨m,bk,g,hm,p,by simpa using hc⟩,o.2⟩
  | tag+6 =>
   simp only [rdF] at h
   intro x hd hm hb ha
   split at h
   ·rename_i hc
    simp only [Option.bind_eq_some_iff,Option.some.injEq] at h
    obtain ⟨r1,h1,rfl⟩:=h
    obtain ⟨_,hlt⟩:=S1.pk_lt (t:=t) (s:=st.s) (by rw [beq_iff_eq] at hc;omega)
    rw [takeS_eq hc] at h1
    have hk0:(st.at ⟨st.s.k+1,st.s.bad⟩).s.k≤t.size:=by simp only [St.at];omega
    have hk1:r1.1.s.k≤t.size:=(rdF_facts t f 0 _ _ _ hk0 h1).2.1
    have g:Go' t st.s.k x (st.s.k+1) ⟨0,x.depth+1,x.back⟩:=Go'.step (by
     rcases pk_good hb hk with ⟨_,e⟩ | ⟨e,_⟩
     ·rw [←e,goes_out hm,show st.s.pk t=40 from by simpa using hc];rfl
     ·omega)
    have o1:=EndOut.before g (ih 0 _ _ _ hk0 h1 (x.depth+1) x.back (by omega) hb)
    show EndOut t st.s.k x (expectS t 41 r1.1.s) x.depth P6
    cases hb1:r1.1.s.bad
    ·obtain ⟨m,bk,g1,hm1,p⟩:=o1.1 hb1
     unfold expectS
     rcases pk_good hb1 hk1 with ⟨e1,e2⟩ | ⟨e1,e2⟩
     ·by_cases c41:(r1.1.s.pk t == 41)=true
      ·rw [if_pos c41,hb1]
       have g2:Go' t r1.1.s.k ⟨m,x.depth+1,bk⟩ (r1.1.s.k+1) ⟨1,x.depth,bk⟩:=Go'.step (by
        rw [←e2,goes_out hm1,show r1.1.s.pk t=41 from by simpa using c41]
        have hde:x.depth+1 - 1=x.depth:=by omega
        show (decide (0≤x.depth+1 - 1),(⟨1,x.depth+1 - 1,bk⟩:Sc))=_
        rw [hde,decide_eq_true hd])
       exact ⟨fun _=>⟨1,bk,g1.trans g2,Or.inr rfl,rfl⟩,fun hh=>by cases hh⟩
      ·rw [if_neg c41]
       have st2:Stuck t r1.1.s.k ⟨m,x.depth+1,bk⟩:=Or.inl ⟨e1,by
        rw [←e2]
        exact out_no hm1 p.1 p.2.1 p.2.2 (fun hh=>absurd (by simp [hh]) c41)⟩
       exact ⟨fun hh=>(by cases hh),fun _=>⟨_,g1,st2⟩⟩
     ·rw [e2,if_neg (by decide)]
      exact ⟨fun hh=>(by cases hh),fun _=>⟨_,g1,Or.inr ⟨e1,Or.inl (by simp only;omega)⟩⟩⟩
    ·rw [bad_expect (by omega) hb1]
     obtain ⟨z,g1,s1⟩:=o1.2 hb1
     exact ⟨fun hh=>(by cases hh),fun _=>⟨z,g1,s1⟩⟩
   ·rename_i hc
    simp only [Option.some.injEq] at h
    subst h
    exact out_end (leaf_out hb hk hm ha (by simpa using hc))
theorem place_meets {t:ByteArray} {y:St} {i:Int} (h:Rds t 0 0 x0 (y,i)) :
  ((y.s.bad=true∨y.s.k < t.size)→placeS t=(y.s.k:Int))∧(¬(y.s.bad=true∨y.s.k < t.size)→placeS t=-1):=by
 obtain ⟨f,hf⟩:=h
 have hk0:x0.s.k≤t.size:=Nat.zero_le _
 have hky:y.s.k≤t.size:=(rdF_facts t f 0 _ _ _ hk0 hf).2.1
 have o:EndOut t 0 ⟨0,0,0⟩ y.s 0 P1:=rdF_out t f 0 _ _ _ hk0 hf 0 0 (by omega) rfl
 have run:∀ z,Go' t 0 ⟨0,0,0⟩ y.s.k z→placeS t=scanS t (t.size - y.s.k) y.s.k z:=by
  intro z g
  have:=scan_adv t y.s.k 0 _ z (by have:=g.2;simpa using this) (by omega)
  simpa [placeS] using this
 cases hb:y.s.bad
 ·obtain ⟨m,bk,g,hm,p⟩:=o.1 hb
  rw [run _ g]
  constructor
  ·intro hh
   have hlt:y.s.k < t.size:=by
    rcases hh with hh | hh
    ·cases hh
    ·exact hh
   rcases pk_good hb hky with ⟨_,e2⟩ | ⟨e1,_⟩
   ·exact scan_stuck (Or.inl ⟨hlt,by rw [←e2];exact out_no hm p.1 p.2.1 p.2.2 (fun _=>by simp)⟩)
   ·omega
  ·intro hh
   have:¬y.s.k < t.size:=fun h=>hh (Or.inr h)
   rw [show t.size - y.s.k=0 from by omega]
   simp only [scanS]
   rw [if_neg]
   simp only [Bool.or_eq_true,decide_eq_true_eq]
   omega
 ·obtain ⟨z,g,st⟩:=o.2 hb
  exact ⟨fun _=>by rw [run _ g];exact scan_stuck st,fun hh=>absurd (Or.inl rfl) hh⟩
end Go.Proofs.YtobfpgoepaeknaaGreat
namespace Go.Proofs.YtobfpgoepaeknaaGreat
theorem size_ext {t:ByteArray} {a b:Nat} (h:b≤t.size):(t.extract a b).size=b - a:=by
 rw [ByteArray.size_extract,Nat.min_eq_left h]
theorem byteAt_ext {t:ByteArray} {a b i:Nat} (h1:b≤t.size) (h2:a+i < b):byteAt (t.extract a b) i=byteAt t (a+i):=by
 have hi:i < (t.extract a b).size:=by rw [size_ext h1];omega
 rw [byteAt_eq hi,byteAt_eq (show a+i < t.size by omega),ByteArray.getElem_extract]
theorem byteAt_win {t:ByteArray} {a b A:Nat} (h1:b≤t.size) (h0:a≤A) (h2:A < b):byteAt (t.extract a b) (A - a)=byteAt t A:=by
 rw [byteAt_ext h1 (by omega),show a+(A - a)=A from by omega]
theorem ext_ext {t:ByteArray} {a b c d:Nat} (hd:a+d≤b):(t.extract a b).extract c d=t.extract (a+c) (a+d):=by
 rw [ByteArray.extract_extract,Nat.min_eq_left hd]
def SB (t:ByteArray) (A B:Nat):Prop :=
 (byteAt t A=92∧A+1 < t.size∧mayBeEscapedB (byteAt t (A+1))=true∧B=A+2) ∨
 (byteAt t A=92∧mayBeEscapedB (byteAt t (A+1))=false∧A+2 < t.size∧hexB (byteAt t (A+1))=true∧hexB (byteAt t (A+2))=true∧B=A+3) ∨
 (byteAt t A≠92∧byteAt t A≠93∧A < t.size∧B=A+1)
theorem digit_good {t:ByteArray} {s:S1} (hb:s.bad=false) (hk:s.k≤t.size) (hg:(readDigitS t 16 s).2.bad=false) :
  s.k < t.size∧hexB (byteAt t s.k)=true∧(readDigitS t 16 s).2=⟨s.k+1,false⟩:=by
 unfold readDigitS digitOk at hg ⊢
 rw [digit16,Bool.not_not] at hg ⊢
 rcases pk_good hb hk with ⟨h1,h2⟩ | ⟨h1,h2⟩
 ·rw [h2] at hg ⊢
  by_cases hc:hexB (byteAt t s.k)=true
  ·rw [if_pos hc,hb];exact ⟨h1,hc,rfl⟩
  ·rw [if_neg hc] at hg;cases hg
 ·rw [h2,hexB_neg,if_neg (by simp)] at hg;cases hg
theorem good_before {s s':S1} (h:After s s') (hg:s'.bad=false):s.bad=false:=by
 cases hb:s.bad
 ·rfl
 ·rw [h.2 hb] at hg;cases hg
theorem escape_good {t:ByteArray} {s:S1} (hb:s.bad=false) (hk:s.k≤t.size) (hp:(s.pk t == 92)=true) (hg:(readEscapeS t s).2.bad=false):SB t s.k (readEscapeS t s).2.k:=by
 have hlt:=(S1.pk_lt (t:=t) (s:=s) (by rw [beq_iff_eq] at hp;omega)).2
 have hby:byteAt t s.k=92:=by
  rcases pk_good hb hk with ⟨_,e⟩ | ⟨e,_⟩
  ·rw [←e];simpa using hp
  ·omega
 have e2:(readEscapeS t s).2=if mayBeEscapedB (S1.pk t ⟨s.k+1,s.bad⟩) then (⟨s.k+1+1,s.bad⟩:S1) else (readDigitS t 16 (readDigitS t 16 ⟨s.k+1,s.bad⟩).2).2:=by
  unfold readEscapeS
  simp only [expectS_eq hp]
  split<;>rfl
 rw [e2] at hg ⊢
 rw [hb] at hg ⊢
 by_cases hm:mayBeEscapedB (S1.pk t ⟨s.k+1,false⟩)=true
 ·rw [if_pos hm]
  rcases pk_good (t:=t) (s:=⟨s.k+1,false⟩) rfl (by simp only;omega) with ⟨h1,h2⟩ | ⟨_,h2⟩
  ·rw [h2] at hm
   exact Or.inl ⟨hby,h1,hm,rfl⟩
  ·rw [h2] at hm;exact absurd hm (by decide)
 ·rw [if_neg hm] at hg ⊢
  have hg1:=good_before (readDigitS_after t 16 (readDigitS t 16 ⟨s.k+1,false⟩).2) hg
  obtain ⟨a1,a2,a3⟩:=digit_good (t:=t) (s:=⟨s.k+1,false⟩) rfl (by simp only;omega) hg1
  rw [a3] at hg ⊢
  simp only at a1 a2
  obtain ⟨b1,b2,b3⟩:=digit_good (t:=t) (s:=⟨s.k+1+1,false⟩) rfl (by simp only;omega) hg
  rw [b3]
  rcases pk_good (t:=t) (s:=⟨s.k+1,false⟩) rfl (by simp only;omega) with ⟨_,h2⟩ | ⟨h1,_⟩
  ·rw [h2] at hm
   exact Or.inr (Or.inl ⟨hby,by simpa using hm,b1,a2,b2,rfl⟩)
  ·simp only at h1;omega
theorem setByte_good {t:ByteArray} {s:S1} (hb:s.bad=false) (hk:s.k≤t.size) (hg:(readSetByteS t s).2.bad=false):SB t s.k (readSetByteS t s).2.k:=by
 unfold readSetByteS at hg ⊢
 by_cases c92:(s.pk t == 92)=true
 ·rw [if_pos c92] at hg ⊢;exact escape_good hb hk c92 hg
 ·rw [if_neg c92] at hg ⊢
  by_cases hc:isPlainInSetB (s.pk t)=true
  ·rw [if_pos hc]
   rcases pk_good hb hk with ⟨h1,h2⟩ | ⟨_,h2⟩
   ·rw [h2] at hc c92
    refine Or.inr (Or.inr ⟨by simpa using c92,?_,h1,rfl⟩)
    intro e;rw [e] at hc;exact absurd hc (by decide)
   ·rw [h2] at hc;exact absurd hc (by decide)
  ·rw [if_neg hc] at hg;cases hg
theorem SB.lt {t:ByteArray} {A B:Nat} (h:SB t A B):A < B∧B≤t.size∧byteAt t A≠93:=by
 rcases h with ⟨h1,h2,_,h4⟩ | ⟨h1,_,h2,_,_,h4⟩ | ⟨_,h1,h2,h4⟩
 ·exact ⟨by omega,by omega,by omega⟩
 ·exact ⟨by omega,by omega,by omega⟩
 ·exact ⟨by omega,by omega,h1⟩
theorem SB.named {t:ByteArray} {A B a b:Nat} (h:SB t A B) (ha:a≤A) (hB:B≤b) (hb:b≤t.size):∃ v,namedS (t.extract a b) (A - a)=some (v,B - a):=by
 have hs:=size_ext (a:=a) hb
 rcases h with ⟨h1,h2,h3,h4⟩ | ⟨h1,h3,h2,h5,h6,h4⟩ | ⟨h3,_,h2,h4⟩
 ·unfold namedS
  rw [if_pos (by omega),byteAt_win hb ha (by omega),h1,if_pos (by decide),if_pos (by omega),show A - a+1=(A+1) - a from by omega,byteAt_win hb (by omega) (by omega),if_pos h3]
  exact ⟨_,by rw [show A - a+2=B - a from by omega]⟩
 ·unfold namedS
  rw [if_pos (by omega),byteAt_win hb ha (by omega),h1,if_pos (by decide),if_pos (by omega),show A - a+1=(A+1) - a from by omega,show A - a+2=(A+2) - a from by omega,byteAt_win hb (by omega) (by omega),byteAt_win hb (by omega) (by omega),if_neg (by simp [h3]),if_pos ⟨by omega,h5,h6⟩]
  exact ⟨_,by rw [show A - a+3=B - a from by omega]⟩
 ·unfold namedS
  rw [if_pos (by omega),byteAt_win hb ha (by omega),if_neg (by simp [h3])]
  exact ⟨_,by rw [show A - a+1=B - a from by omega]⟩
theorem SB.over {t:ByteArray} {A B a b:Nat} (h:SB t A B) (ha:a≤A) (hB:B≤b) (hb:b≤t.size) (f:Nat):ovF (t.extract a b) (f+2) 1 (A - a)=ovF (t.extract a b) (f+1) 1 (B - a):=by
 have hs:=size_ext (a:=a) hb
 have hl:=h.lt
 rw [ovF,if_pos (by omega),byteAt_win hb ha (by omega),if_neg (by simp [hl.2.2])]
 rcases h with ⟨h1,h2,h3,h4⟩ | ⟨h1,h3,h2,h5,h6,h4⟩ | ⟨h3,_,h2,h4⟩
 ·rw [if_pos (by simp [h1])]
  have e:ovF (t.extract a b) (f+1) 0 (A - a)=some (B - a):=by
   rw [ovF,if_pos (by omega),byteAt_win hb ha (by omega),if_pos (by simp [h1]),if_pos (by omega),show A - a+1=(A+1) - a from by omega,byteAt_win hb (by omega) (by omega),if_pos h3]
   congr 1;omega
  rw [e];rfl
 ·rw [if_pos (by simp [h1])]
  have e:ovF (t.extract a b) (f+1) 0 (A - a)=some (B - a):=by
   rw [ovF,if_pos (by omega),byteAt_win hb ha (by omega),if_pos (by simp [h1]),if_pos (by omega),show A - a+1=(A+1) - a from by omega,byteAt_win hb (by omega) (by omega),if_neg (by simp [h3])]
   congr 1;omega
  rw [e];rfl
 ·rw [if_neg (by simp [h3]),show A - a+1=B - a from by omega]
def Items (t:ByteArray) (A E:Nat):Prop :=
 A≤E∧E < t.size∧∀ a b,a≤A→E < b→b≤t.size→(∀ f,2 * (E - A)+1≤f→ovF (t.extract a b) f 1 (A - a)=some (E+1 - a))∧(∀ n,E - A+1≤n→∀ f0,∃ g,itemsF (t.extract a b) n (A - a) f0=some g)
theorem Items.none {t:ByteArray} {E:Nat} (h:E < t.size) (hb:byteAt t E=93):Items t E E:=by
 refine ⟨Nat.le_refl _,h,fun a b ha hE hbs=>⟨fun f hf=>?_,fun n hn f0=>?_⟩⟩
 ·have hs:=size_ext (a:=a) hbs
  obtain ⟨f,rfl⟩:∃ f',f=f'+1:=⟨f - 1,by omega⟩
  rw [ovF,if_pos (by omega),byteAt_win hbs ha hE,if_pos (by simp [hb])]
  congr 1;omega
 ·have hs:=size_ext (a:=a) hbs
  obtain ⟨n,rfl⟩:∃ n',n=n'+1:=⟨n - 1,by omega⟩
  rw [itemsF,if_pos (by omega),byteAt_win hbs ha hE,if_pos (by simp [hb])]
  exact ⟨f0,rfl⟩
theorem Items.one {t:ByteArray} {A C E:Nat} (h:SB t A C) (h45:byteAt t C≠45) (k:Items t C E):Items t A E:=by
 have hl:=h.lt
 refine ⟨by have:=k.1;omega,k.2.1,fun a b ha hE hbs=>?_⟩
 have k1:=k.1
 obtain ⟨q1,q2⟩:=k.2.2 a b (by omega) hE hbs
 have hs:=size_ext (a:=a) hbs
 refine ⟨fun f hf=>?_,fun n hn f0=>?_⟩
 ·obtain ⟨f,rfl⟩:∃ f',f=f'+2:=⟨f - 2,by omega⟩
  rw [h.over ha (by omega) hbs,q1 _ (by omega)]
 ·obtain ⟨n,rfl⟩:∃ n',n=n'+1:=⟨n - 1,by omega⟩
  obtain ⟨v,hv⟩:=h.named ha (show C≤b by omega) hbs
  rw [itemsF,if_pos (by omega),byteAt_win hbs ha (by omega),if_neg (by simp [hl.2.2]),hv]
  simp only [Option.bind_some]
  rw [if_pos (by omega),byteAt_win hbs (by omega) (by omega),if_neg (by simp [h45])]
  exact q2 n (by omega) _
theorem Items.two {t:ByteArray} {A C D E:Nat} (h:SB t A C) (h45:byteAt t C=45) (h2:SB t (C+1) D) (k:Items t D E):Items t A E:=by
 have hl:=h.lt
 have hl2:=h2.lt
 refine ⟨by have:=k.1;omega,k.2.1,fun a b ha hE hbs=>?_⟩
 have k1:=k.1
 obtain ⟨q1,q2⟩:=k.2.2 a b (by omega) hE hbs
 have hs:=size_ext (a:=a) hbs
 refine ⟨fun f hf=>?_,fun n hn f0=>?_⟩
 ·obtain ⟨f,rfl⟩:∃ f',f=f'+4:=⟨f - 4,by omega⟩
  rw [h.over ha (by omega) hbs,ovF,if_pos (by omega),byteAt_win hbs (by omega) (by omega),if_neg (by simp [h45]),if_neg (by simp [h45]),show C - a+1=(C+1) - a from by omega,h2.over (by omega) (by omega) hbs,q1 _ (by omega)]
 ·obtain ⟨n,rfl⟩:∃ n',n=n'+1:=⟨n - 1,by omega⟩
  obtain ⟨v,hv⟩:=h.named ha (show C≤b by omega) hbs
  obtain ⟨v2,hv2⟩:=h2.named (show a≤C+1 by omega) (show D≤b by omega) hbs
  rw [itemsF,if_pos (by omega),byteAt_win hbs ha (by omega),if_neg (by simp [hl.2.2]),hv]
  simp only [Option.bind_some]
  rw [if_pos (by omega),byteAt_win hbs (by omega) (by omega),if_pos (by simp [h45]),show C - a+1=(C+1) - a from by omega,hv2]
  simp only [Option.bind_some]
  exact q2 n (by omega) _
theorem item_good {t:ByteArray} {s:S1} {E:Nat} (hb:s.bad=false) (hk:s.k≤t.size) (hg:(readItemS t s).2.bad=false) (k:Items t (readItemS t s).2.k E):Items t s.k E:=by
 have hk1:=readSetByteS_le (t:=t) (s:=s) hk
 unfold readItemS at hg k
 simp only at hg k
 by_cases c45:((readSetByteS t s).2.pk t == 45)=true
 ·rw [if_pos c45,takeS_eq c45] at hg k
  obtain ⟨hb1,hlt⟩:=S1.pk_lt (t:=t) (s:=(readSetByteS t s).2) (by rw [beq_iff_eq] at c45;omega)
  have h1:=setByte_good hb hk hb1
  rw [hb1] at hg k
  have h2:=setByte_good (t:=t) (s:=⟨(readSetByteS t s).2.k+1,false⟩) rfl (by simp only;omega) hg
  have e:byteAt t (readSetByteS t s).2.k=45:=by
   rcases pk_good hb1 hk1 with ⟨_,e⟩ | ⟨e,_⟩
   ·rw [←e];simpa using c45
   ·omega
  exact Items.two h1 e h2 k
 ·rw [if_neg c45] at hg k
  have h1:=setByte_good hb hk hg
  refine Items.one h1 ?_ k
  rcases pk_good hg hk1 with ⟨_,e⟩ | ⟨e,_⟩
  ·rw [←e];simpa using c45
  ·have k1:=k.1;have k2:=k.2.1;simp only at k1 e;omega
theorem setLoop_good {t:ByteArray}:∀ (n:Nat) (f:Nat→Bool) (s:S1),s.k≤t.size→left t s≤n→s.bad=false→(setLoop t n f s).2.bad=false→(setLoop t n f s).2.pk t=93→Items t s.k (setLoop t n f s).2.k:=by
 intro n
 induction n with
 | zero=>intro f s hk hl hb;unfold left at hl;rw [hb] at hl;simp at hl
 | succ n ih =>
  intro f s hk hl hb hg hp
  by_cases hgo:(!s.bad && s.pk t != 93)=true
  ·rw [setLoop_go n f s hgo] at hg hp ⊢
   have hg1:=good_before (setLoop_after t n _ _) hg
   have hl2:=left_goes (t:=t) hb (readItemS_le hk) (readItemS_goes t s)
   exact item_good hb hk hg1 (ih _ _ (readItemS_le hk) (by omega) hg1 hg hp)
  ·have hgo':(!s.bad && s.pk t != 93)=false:=by simpa using hgo
   rw [setLoop_stop (n+1) f s hgo'] at hp ⊢
   rcases pk_good hb hk with ⟨h1,e⟩ | ⟨_,e⟩
   ·exact Items.none h1 (by rw [←e];exact hp)
   ·simp only at hp;omega
end Go.Proofs.YtobfpgoepaeknaaGreat
namespace Go.Proofs.YtobfpgoepaeknaaGreat
def StepT (t:ByteArray) (A B:Nat):Prop :=
 ∀ a b,a≤A→B≤b→b≤t.size→∀ f,2 * (B - A)≤f→ovF (t.extract a b) f 0 (A - a)=some (B - a)
theorem step_one {t:ByteArray} {A:Nat} (_h:A < t.size) (h92:byteAt t A≠92) (h91:byteAt t A≠91) (h40:byteAt t A≠40):StepT t A (A+1):=by
 intro a b ha hB hb f hf
 have hs:=size_ext (a:=a) hb
 obtain ⟨f,rfl⟩:∃ f',f=f'+1:=⟨f - 1,by omega⟩
 rw [ovF,if_pos (by omega),byteAt_win hb ha (by omega),if_neg (by simp [h92]),if_neg (by simp [h91]),if_neg (by simp [h40])]
 congr 1;omega
theorem step_escape {t:ByteArray} {A B:Nat} (h:SB t A B) (h92:byteAt t A=92):StepT t A B:=by
 intro a b ha hB hb f hf
 have hs:=size_ext (a:=a) hb
 have hl:=h.lt
 obtain ⟨f,rfl⟩:∃ f',f=f'+1:=⟨f - 1,by omega⟩
 rcases h with ⟨h1,h2,h3,h4⟩ | ⟨h1,h3,h2,h5,h6,h4⟩ | ⟨h3,_,h2,h4⟩
 ·rw [ovF,if_pos (by omega),byteAt_win hb ha (by omega),if_pos (by simp [h1]),if_pos (by omega),show A - a+1=(A+1) - a from by omega,byteAt_win hb (by omega) (by omega),if_pos h3]
  congr 1;omega
 ·rw [ovF,if_pos (by omega),byteAt_win hb ha (by omega),if_pos (by simp [h1]),if_pos (by omega),show A - a+1=(A+1) - a from by omega,byteAt_win hb (by omega) (by omega),if_neg (by simp [h3])]
  congr 1;omega
 ·exact absurd h92 h3
theorem leaf_good {t:ByteArray} {st:St} (hb:st.s.bad=false) (hk:st.s.k≤t.size) (ha:atAtomB (st.s.pk t)=true) (h40:(st.s.pk t == 40)=false) (hg:(readLeafS t st).s.bad=false) :
  StepT t st.s.k (readLeafS t st).s.k∧st.s.k < (readLeafS t st).s.k∧(readLeafS t st).s.k≤t.size∧byteAt t st.s.k≠40∧(t.size≤60→∃ f,leafS (t.extract st.s.k (readLeafS t st).s.k)=some ⟨2,0,0,0,0,f⟩):=by
 have hlt:st.s.k < t.size∧st.s.pk t=byteAt t st.s.k:=by
  rcases pk_good hb hk with h1 | ⟨_,h2⟩
  ·exact h1
  ·rw [h2] at ha;exact absurd ha (by decide)
 have hle:=(readLeafS_facts (t:=t) hk).2.1
 have hn40:byteAt t st.s.k≠40:=by rw [←hlt.2];simpa using h40
 unfold readLeafS at hg hle ⊢
 by_cases c91:(st.s.pk t == 91)=true
 ·rw [if_pos c91] at hg hle ⊢
  have e91:byteAt t st.s.k=91:=by rw [←hlt.2];simpa using c91
  have hg':(readSetS t (takeS t 91 st.s)).2.bad=false:=hg
  have hle':(readSetS t (takeS t 91 st.s)).2.k≤t.size:=hle
  show StepT t st.s.k (readSetS t (takeS t 91 st.s)).2.k∧st.s.k < (readSetS t (takeS t 91 st.s)).2.k∧(readSetS t (takeS t 91 st.s)).2.k≤t.size∧byteAt t st.s.k≠40∧(t.size≤60→∃ f,leafS (t.extract st.s.k (readSetS t (takeS t 91 st.s)).2.k)=some ⟨2,0,0,0,0,f⟩)
  rw [takeS_eq c91,hb] at hg' hle' ⊢
  unfold readSetS at hg' hle' ⊢
  simp only at hg' hle' ⊢
  have hk1:(⟨st.s.k+1,false⟩:S1).k≤t.size:=by simp only;omega
  have hk2:=takeS_le (t:=t) (c:=94) (s:=⟨st.s.k+1,false⟩) (by omega) hk1
  have hk3:=readItemS_le (t:=t) (s:=takeS t 94 ⟨st.s.k+1,false⟩) hk2
  have hl:left t (readItemS t (takeS t 94 ⟨st.s.k+1,false⟩)).2≤t.size+1:=by unfold left;split<;>omega
  generalize hF:addR (fun _=>false) (readItemS t (takeS t 94 ⟨st.s.k+1,false⟩)).1.1 (readItemS t (takeS t 94 ⟨st.s.k+1,false⟩)).1.2=F at *
  have hk4:=setLoop_le (t:=t) (t.size+1) F _ hk3
  have hgl:=good_before (expectS_after t 93 _) hg'
  have hgi:=good_before (setLoop_after t (t.size+1) F _) hgl
  have hgt:=good_before (readItemS_after t _) hgi
  have hp93:((setLoop t (t.size+1) F (readItemS t (takeS t 94 ⟨st.s.k+1,false⟩)).2).2.pk t == 93)=true:=by
   cases hc:((setLoop t (t.size+1) F (readItemS t (takeS t 94 ⟨st.s.k+1,false⟩)).2).2.pk t == 93)
   ·unfold expectS at hg';rw [hc] at hg';cases hg'
   ·rfl
  have it:=setLoop_good (t.size+1) F _ hk3 hl hgi hgl (by simpa using hp93)
  have it2:=item_good hgt hk2 hgi it
  rw [expectS_eq hp93]
  simp only
  generalize (setLoop t (t.size+1) F (readItemS t (takeS t 94 ⟨st.s.k+1,false⟩)).2).2.k=E at *
  have hE:=it2.2.1
  have key:∀ a b,a≤st.s.k→E+1≤b→b≤t.size→(∀ f,2 * (E - st.s.k)≤f→ovF (t.extract a b) f 1 (st.s.k+1 - a)=some (E+1 - a)):=by
   intro a b h1 h2 h3 f hf
   have hs:=size_ext (a:=a) h3
   by_cases c94:(S1.pk t ⟨st.s.k+1,false⟩ == 94)=true
   ·rw [takeS_eq c94] at it2
    simp only at it2
    have hi1:=it2.1
    have e94:byteAt t (st.s.k+1)=94:=by
     rcases pk_good (t:=t) (s:=⟨st.s.k+1,false⟩) rfl hk1 with ⟨_,e⟩ | ⟨e,_⟩
     ·rw [e] at c94;simpa using c94
     ·simp only at e;omega
    obtain ⟨f,rfl⟩:∃ f',f=f'+1:=⟨f - 1,by omega⟩
    rw [ovF,if_pos (by omega),byteAt_win h3 (by omega) (by omega),if_neg (by simp [e94]),if_neg (by simp [e94]),show st.s.k+1 - a+1=(st.s.k+1+1) - a from by omega]
    exact (it2.2.2 a b (by omega) (by omega) h3).1 f (by omega)
   ·have e:takeS t 94 ⟨st.s.k+1,false⟩=⟨st.s.k+1,false⟩:=by unfold takeS;rw [if_neg c94]
    rw [e] at it2
    simp only at it2
    have hi1:=it2.1
    exact (it2.2.2 a b (by omega) (by omega) h3).1 f (by omega)
  have hlow:st.s.k+1≤E:=by
   have h1:=it2.1
   have h2:=(takeS_after t 94 ⟨st.s.k+1,false⟩).1
   simp only at h2;omega
  refine ⟨fun a b h1 h2 h3 f hf=>?_,by omega,by omega,hn40,fun h60=>?_⟩
  ·have hs:=size_ext (a:=a) h3
   obtain ⟨f,rfl⟩:∃ f',f=f'+1:=⟨f - 1,by omega⟩
   rw [ovF,if_pos (by omega),byteAt_win h3 h1 (by omega),if_neg (by simp [e91]),if_pos (by simp [e91]),show st.s.k - a+1=st.s.k+1 - a from by omega]
   exact key a b h1 h2 h3 f (by omega)
  ·have hs:=size_ext (t:=t) (a:=st.s.k) (b:=E+1) (by omega)
   have b0:byteAt (t.extract st.s.k (E+1)) 0=91:=by rw [byteAt_ext (by omega) (by omega)];exact e91
   have b1:byteAt (t.extract st.s.k (E+1)) 1=byteAt t (st.s.k+1):=byteAt_ext (by omega) (by omega)
   unfold leafS
   rw [if_pos (by omega),b0,if_neg (by decide),if_pos (by decide),if_pos (by omega),b1]
   by_cases c94:(S1.pk t ⟨st.s.k+1,false⟩ == 94)=true
   ·rw [takeS_eq c94] at it2
    simp only at it2
    have e94:byteAt t (st.s.k+1)=94:=by
     rcases pk_good (t:=t) (s:=⟨st.s.k+1,false⟩) rfl hk1 with ⟨_,e⟩ | ⟨e,_⟩
     ·rw [e] at c94;simpa using c94
     ·simp only at e;omega
    rw [if_pos (by simp [e94])]
    obtain ⟨g,hgg⟩:=(it2.2.2 st.s.k (E+1) (by omega) (by omega) (by omega)).2 61 (by omega) noSet
    rw [show st.s.k+1+1 - st.s.k=2 from by omega] at hgg
    rw [hgg]
    exact ⟨_,rfl⟩
   ·have e:takeS t 94 ⟨st.s.k+1,false⟩=⟨st.s.k+1,false⟩:=by unfold takeS;rw [if_neg c94]
    rw [e] at it2
    simp only at it2
    have e94:byteAt t (st.s.k+1)≠94:=by
     rcases pk_good (t:=t) (s:=⟨st.s.k+1,false⟩) rfl hk1 with ⟨_,e⟩ | ⟨e,_⟩
     ·rw [e] at c94;simpa using c94
     ·simp only at e;omega
    rw [if_neg (by simp [e94])]
    obtain ⟨g,hgg⟩:=(it2.2.2 st.s.k (E+1) (by omega) (by omega) (by omega)).2 61 (by omega) noSet
    rw [show st.s.k+1 - st.s.k=1 from by omega] at hgg
    rw [hgg]
    exact ⟨_,rfl⟩
 ·rw [if_neg c91] at hg hle ⊢
  have n91:byteAt t st.s.k≠91:=by rw [←hlt.2];simpa using c91
  by_cases c46:(st.s.pk t == 46)=true
  ·rw [if_pos c46]
   have e46:byteAt t st.s.k=46:=by rw [←hlt.2];simpa using c46
   show StepT t st.s.k (takeS t 46 st.s).k∧st.s.k < (takeS t 46 st.s).k∧(takeS t 46 st.s).k≤t.size∧byteAt t st.s.k≠40∧(t.size≤60→∃ f,leafS (t.extract st.s.k (takeS t 46 st.s).k)=some ⟨2,0,0,0,0,f⟩)
   rw [takeS_eq c46]
   show StepT t st.s.k (st.s.k+1)∧st.s.k < st.s.k+1∧st.s.k+1≤t.size∧byteAt t st.s.k≠40∧(t.size≤60→∃ f,leafS (t.extract st.s.k (st.s.k+1))=some ⟨2,0,0,0,0,f⟩)
   refine ⟨step_one hlt.1 (by omega) (by omega) (by omega),by omega,by omega,hn40,fun _=>?_⟩
   have hs:=size_ext (t:=t) (a:=st.s.k) (b:=st.s.k+1) (by omega)
   unfold leafS
   rw [if_pos (by omega),byteAt_ext (by omega) (by omega),Nat.add_zero,e46,if_pos (by decide)]
   exact ⟨_,rfl⟩
  ·rw [if_neg c46] at hg hle ⊢
   have n46:byteAt t st.s.k≠46:=by rw [←hlt.2];simpa using c46
   have hg':(readByteS t st.s).2.bad=false:=hg
   have hle':(readByteS t st.s).2.k≤t.size:=hle
   show StepT t st.s.k (readByteS t st.s).2.k∧st.s.k < (readByteS t st.s).2.k∧(readByteS t st.s).2.k≤t.size∧byteAt t st.s.k≠40∧(t.size≤60→∃ f,leafS (t.extract st.s.k (readByteS t st.s).2.k)=some ⟨2,0,0,0,0,f⟩)
   have sb:SB t st.s.k (readByteS t st.s).2.k∧StepT t st.s.k (readByteS t st.s).2.k:=by
    unfold readByteS at hg' ⊢
    by_cases c92:(st.s.pk t == 92)=true
    ·rw [if_pos c92] at hg' ⊢
     have s1:=escape_good hb hk c92 hg'
     exact ⟨s1,step_escape s1 (by rw [←hlt.2];simpa using c92)⟩
    ·rw [if_neg c92] at hg' ⊢
     by_cases hp:isPlainB (st.s.pk t)=true
     ·rw [if_pos hp]
      have n92:byteAt t st.s.k≠92:=by rw [←hlt.2];simpa using c92
      have n93:byteAt t st.s.k≠93:=by rw [←hlt.2];intro e;rw [e] at hp;exact absurd hp (by decide)
      exact ⟨Or.inr (Or.inr ⟨n92,n93,hlt.1,rfl⟩),step_one hlt.1 n92 n91 hn40⟩
     ·rw [if_neg hp] at hg';cases hg'
   have sl:=sb.1.lt
   refine ⟨sb.2,sl.1,sl.2.1,hn40,fun _=>?_⟩
   have hs:=size_ext (t:=t) (a:=st.s.k) (b:=(readByteS t st.s).2.k) sl.2.1
   obtain ⟨v,hv⟩:=sb.1.named (Nat.le_refl _) (Nat.le_refl _) sl.2.1
   rw [Nat.sub_self] at hv
   have b0:byteAt (t.extract st.s.k (readByteS t st.s).2.k) 0=byteAt t st.s.k:=by rw [byteAt_ext sl.2.1 (by omega),Nat.add_zero]
   unfold leafS
   rw [if_pos (by omega),b0,if_neg (by simp [n46]),if_neg (by simp [n91]),hv]
   exact ⟨_,rfl⟩
end Go.Proofs.YtobfpgoepaeknaaGreat
namespace Go.Proofs.YtobfpgoepaeknaaGreat
theorem rfF_mono:∀ (n m tag:Nat) (p:ByteArray) (a:Nat) (l:Int) (rs:List Rn) (r:List Rn × Int),n≤m→rfF n tag p a l rs=some r→rfF m tag p a l rs=some r:=by
 intro n
 induction n with
 | zero=>intro m tag p a l rs r _ h;simp [rfF] at h
 | succ n ih =>
  intro m tag p a l rs r hm h
  obtain ⟨m,rfl⟩:∃ m',m=m'+1:=⟨m - 1,by omega⟩
  have hle:n≤m:=by omega
  match tag with
  | 0=>simp only [rfF] at h ⊢;exact ih _ _ _ _ _ _ _ hle h
  | 1 =>
   simp only [rfF] at h ⊢
   split at h
   ·rename_i hc
    rw [if_pos hc]
    rw [Option.bind_eq_some_iff] at h ⊢
    obtain ⟨j,hj,h⟩:=h
    exact ⟨j,hj,ih _ _ _ _ _ _ _ hle h⟩
   ·rename_i hc
    rw [if_neg hc]
    split at h
    ·rename_i hd
     rw [if_pos hd]
     rw [Option.bind_eq_some_iff] at h ⊢
     obtain ⟨x,hx,h⟩:=h
     refine ⟨x,ih _ _ _ _ _ _ _ hle hx,?_⟩
     split at h
     ·rename_i he;rw [if_pos he];exact h
     ·rename_i he
      rw [if_neg he]
      rw [Option.bind_eq_some_iff] at h ⊢
      obtain ⟨y,hy,h⟩:=h
      exact ⟨y,ih _ _ _ _ _ _ _ hle hy,h⟩
    ·cases h
  | 2 =>
   simp only [rfF] at h ⊢
   split at h
   ·rename_i hc;rw [if_pos hc];exact h
   ·rename_i hc
    rw [if_neg hc]
    rw [Option.bind_eq_some_iff] at h ⊢
    obtain ⟨j,hj,h⟩:=h
    refine ⟨j,hj,?_⟩
    split at h
    ·rename_i hd
     rw [if_pos hd]
     rw [Option.bind_eq_some_iff] at h ⊢
     obtain ⟨x,hx,h⟩:=h
     exact ⟨x,ih _ _ _ _ _ _ _ hle hx,ih _ _ _ _ _ _ _ hle h⟩
    ·cases h
  | 3 =>
   simp only [rfF] at h ⊢
   split at h
   ·rename_i hc;rw [if_pos hc];exact ih _ _ _ _ _ _ _ hle h
   ·rename_i hc
    rw [if_neg hc]
    split at h
    ·rename_i hc;rw [if_pos hc];exact ih _ _ _ _ _ _ _ hle h
    ·rename_i hc
     rw [if_neg hc]
     split at h
     ·rename_i hc;rw [if_pos hc];exact ih _ _ _ _ _ _ _ hle h
     ·rename_i hc
      rw [if_neg hc]
      split at h
      ·rename_i hc
       rw [if_pos hc]
       split at h
       ·rename_i hd;rw [if_pos hd];exact ih _ _ _ _ _ _ _ hle h
       ·cases h
      ·rename_i hc
       rw [if_neg hc]
       split at h
       ·rename_i hc;rw [if_pos hc];exact h
       ·rename_i hc
        rw [if_neg hc]
        split at h
        ·rename_i hd
         rw [if_pos hd]
         rw [Option.bind_eq_some_iff] at h ⊢
         obtain ⟨y,hy,h⟩:=h
         exact ⟨y,ih _ _ _ _ _ _ _ hle hy,h⟩
        ·cases h
  | tag+4 =>
   simp only [rfF] at h ⊢
   split at h
   ·rename_i hc
    rw [if_pos hc]
    split at h
    ·rename_i hd;rw [if_pos hd];exact ih _ _ _ _ _ _ _ hle h
    ·cases h
   ·rename_i hc;rw [if_neg hc];exact h
theorem wF_mono (rs:List Rn):∀ (n m:Nat) (k W:Int),n≤m→wF rs n k=some W→wF rs m k=some W:=by
 intro n
 induction n with
 | zero=>intro m k W _ h;simp [wF] at h
 | succ n ih =>
  intro m k W hm h
  obtain ⟨m,rfl⟩:∃ m',m=m'+1:=⟨m - 1,by omega⟩
  have hle:n≤m:=by omega
  simp only [wF] at h ⊢
  split at h
  ·rename_i hk
   rw [if_pos hk]
   rw [Option.bind_eq_some_iff] at h ⊢
   obtain ⟨r,hr,h⟩:=h
   refine ⟨r,hr,?_⟩
   split at h
   ·rename_i hc;rw [if_pos hc];exact h
   ·rename_i hc
    rw [if_neg hc]
    rw [Option.bind_eq_some_iff] at h ⊢
    obtain ⟨a,ha,h⟩:=h
    refine ⟨a,ih _ _ _ hle ha,?_⟩
    split at h
    ·rename_i hd
     rw [if_pos hd]
     rw [Option.bind_eq_some_iff] at h ⊢
     obtain ⟨c,hc2,h⟩:=h
     exact ⟨c,ih _ _ _ hle hc2,h⟩
    ·rename_i hd;rw [if_neg hd];exact h
  ·cases h
theorem wF_app (rs x:List Rn):∀ (n:Nat) (k W:Int),wF rs n k=some W→wF (rs++x) n k=some W:=by
 intro n
 induction n with
 | zero=>intro k W h;simp [wF] at h
 | succ n ih =>
  intro k W h
  simp only [wF] at h ⊢
  split at h
  ·rename_i hk
   rw [if_pos hk]
   rw [Option.bind_eq_some_iff] at h ⊢
   obtain ⟨r,hr,h⟩:=h
   refine ⟨r,by rw [List.getElem?_append_left (List.getElem?_eq_some_iff.1 hr).1];exact hr,?_⟩
   split at h
   ·rename_i hc;rw [if_pos hc];exact h
   ·rename_i hc
    rw [if_neg hc]
    rw [Option.bind_eq_some_iff] at h ⊢
    obtain ⟨a,ha,h⟩:=h
    refine ⟨a,ih _ _ ha,?_⟩
    split at h
    ·rename_i hd
     rw [if_pos hd]
     rw [Option.bind_eq_some_iff] at h ⊢
     obtain ⟨c,hc2,h⟩:=h
     exact ⟨c,ih _ _ hc2,h⟩
    ·rename_i hd;rw [if_neg hd];exact h
  ·cases h
def Wt (rs:List Rn) (k W:Int):Prop:=∃ m,wF rs m k=some W
theorem Wt.app {rs:List Rn} {k W:Int} (h:Wt rs k W) (x:List Rn):Wt (rs++x) k W:=by
 obtain ⟨m,hm⟩:=h;exact ⟨m,wF_app rs x m k W hm⟩
theorem wF_last (rs:List Rn) (r:Rn) (m:Nat):wF (rs++[r]) (m+1) (rs.length:Int) =
  (if (r.kind == 1 || r.kind == 2)=true then some 1
    else (wF (rs++[r]) m r.l).bind fun a =>
     if (r.kind == 3 || r.kind == 4)=true then (wF (rs++[r]) m r.r).bind fun c=>if 0≤a∧0≤c∧a≤wTop∧c≤wTop then some (a+c) else none
     else if (r.kind == 8)=true then (if 0≤a * r.n∧a * r.n≤wTop then some (if a * r.n < 1 then 1 else a * r.n) else none)
     else some a):=by
 rw [wF,if_pos (by omega),Int.toNat_natCast,List.getElem?_append_right (Nat.le_refl _)]
 simp
theorem Wt.one (rs:List Rn) (r:Rn) (h:(r.kind == 1 || r.kind == 2)=true):Wt (rs++[r]) (rs.length:Int) 1:=⟨1,by rw [wF_last,if_pos h]⟩
theorem Wt.sum {rs:List Rn} {k a l c:Int} (K:Int) (hK:K=3∨K=4) (h1:Wt rs k a) (h2:Wt rs l c) (b1:0≤a) (b2:0≤c) (b3:a≤wTop) (b4:c≤wTop):Wt (rs++[⟨K,k,l,0,0,noSet⟩]) (rs.length:Int) (a+c):=by
 obtain ⟨m1,h1⟩:=h1.app [⟨K,k,l,0,0,noSet⟩]
 obtain ⟨m2,h2⟩:=h2.app [⟨K,k,l,0,0,noSet⟩]
 refine ⟨max m1 m2+1,?_⟩
 rw [wF_last,if_neg (by rcases hK with rfl | rfl<;>simp)]
 simp only
 rw [wF_mono _ m1 (max m1 m2) _ _ (by omega) h1,wF_mono _ m2 (max m1 m2) _ _ (by omega) h2]
 simp only [Option.bind_some]
 rw [if_pos (by rcases hK with rfl | rfl<;>decide),if_pos ⟨b1,b2,b3,b4⟩]
theorem Wt.same {rs:List Rn} {k a:Int} (K:Int) (hK:K=5∨K=6∨K=7) (h1:Wt rs k a):Wt (rs++[⟨K,k,0,0,0,noSet⟩]) (rs.length:Int) a:=by
 obtain ⟨m1,h1⟩:=h1.app [⟨K,k,0,0,0,noSet⟩]
 refine ⟨m1+1,?_⟩
 rw [wF_last,if_neg (by rcases hK with rfl | rfl | rfl<;>simp)]
 simp only
 rw [h1]
 simp only [Option.bind_some]
 rw [if_neg (by rcases hK with rfl | rfl | rfl<;>decide),if_neg (by rcases hK with rfl | rfl | rfl<;>decide)]
theorem Wt.times {rs:List Rn} {k a:Int} (u v:Int) (h1:Wt rs k a) (b1:0≤a * v) (b2:a * v≤wTop):Wt (rs++[⟨8,k,0,u,v,noSet⟩]) (rs.length:Int) (if a * v < 1 then 1 else a * v):=by
 obtain ⟨m1,h1⟩:=h1.app [⟨8,k,0,u,v,noSet⟩]
 refine ⟨m1+1,?_⟩
 rw [wF_last,if_neg (by simp)]
 simp only
 rw [h1]
 simp only [Option.bind_some]
 rw [if_neg (by decide),if_pos (by decide),if_pos ⟨b1,b2⟩]
def SeqN (t:ByteArray) (P:Int→Bool):Nat→Nat→Nat→Prop
 | 0,A,B=>A=B
 | n+1,A,B=>∃ C,A < C∧C≤B∧P (byteAt t A)=true∧StepT t A C∧SeqN t P n C B
def Seq' (t:ByteArray) (P:Int→Bool) (A B:Nat):Prop:=∃ n,SeqN t P n A B
theorem SeqN.trans {t:ByteArray} {P:Int→Bool}:∀ (n m A B C:Nat),B≤C→SeqN t P n A B→SeqN t P m B C→SeqN t P (n+m) A C
 | 0,m,A,B,C,_,h,k=>by have e:A=B:=h;subst e;rw [Nat.zero_add];exact k
 | n+1,m,A,B,C,hBC,h,k=>by
  obtain ⟨D,h1,h2,h3,h4,h5⟩:=h
  rw [show n+1+m=(n+m)+1 from by omega]
  exact ⟨D,h1,by omega,h3,h4,SeqN.trans n m D B C hBC h5 k⟩
theorem Seq'.refl (t:ByteArray) (P:Int→Bool) (A:Nat):Seq' t P A A:=⟨0,rfl⟩
theorem Seq'.trans {t:ByteArray} {P:Int→Bool} {A B C:Nat} (hBC:B≤C) (h:Seq' t P A B) (k:Seq' t P B C):Seq' t P A C:=by
 obtain ⟨n,h⟩:=h;obtain ⟨m,k⟩:=k;exact ⟨n+m,SeqN.trans n m A B C hBC h k⟩
theorem Seq'.one {t:ByteArray} {P:Int→Bool} {A B:Nat} (h:A < B) (hp:P (byteAt t A)=true) (hs:StepT t A B):Seq' t P A B:=⟨1,B,h,Nat.le_refl _,hp,hs,rfl⟩
theorem SeqN.mono {t:ByteArray} {P Q:Int→Bool} (hPQ:∀ c,P c=true→Q c=true):∀ (n A B:Nat),SeqN t P n A B→SeqN t Q n A B
 | 0,_,_,h=>h
 | n+1,A,B,h=>by obtain ⟨D,h1,h2,h3,h4,h5⟩:=h;exact ⟨D,h1,h2,hPQ _ h3,h4,SeqN.mono hPQ n D B h5⟩
theorem Seq'.mono {t:ByteArray} {P Q:Int→Bool} (hPQ:∀ c,P c=true→Q c=true) {A B:Nat} (h:Seq' t P A B):Seq' t Q A B:=by
 obtain ⟨n,h⟩:=h;exact ⟨n,SeqN.mono hPQ n A B h⟩
def noBar (c:Int):Bool:=!(c == 124) && !(c == 41)
def noPar (c:Int):Bool:=!(c == 41)
theorem ovF_two (p:ByteArray) (f i:Nat):ovF p (f+1) 2 i=if i < p.size then (if byteAt p i == 41 then some (i+1) else (ovF p f 0 i).bind fun j=>ovF p f 2 j) else none:=by
 simp only [ovF]
theorem par_loop {t:ByteArray} {C:Nat} (hC:C < t.size) (hc:byteAt t C=41):∀ (n A:Nat),A≤C→SeqN t noPar n A C→∀ a b,a≤A→C < b→b≤t.size→∀ f,2 * (C - A)+1≤f→ovF (t.extract a b) f 2 (A - a)=some (C+1 - a)
 | 0,A,_,h,a,b,ha,hb,hbs,f,hf=>by
  have e:A=C:=h
  subst e
  have hs:=size_ext (a:=a) hbs
  obtain ⟨f,rfl⟩:∃ f',f=f'+1:=⟨f - 1,by omega⟩
  rw [ovF_two,if_pos (by omega),byteAt_win hbs ha hb,if_pos (by simp [hc])]
  congr 1;omega
 | n+1,A,hA,h,a,b,ha,hb,hbs,f,hf=>by
  obtain ⟨D,h1,h2,h3,h4,h5⟩:=h
  have hs:=size_ext (a:=a) hbs
  have hp:byteAt t A≠41:=by simpa [noPar] using h3
  obtain ⟨f,rfl⟩:∃ f',f=f'+1:=⟨f - 1,by omega⟩
  rw [ovF_two,if_pos (by omega),byteAt_win hbs ha (by omega),if_neg (by simp [hp]),h4 a b ha (by omega) hbs f (by omega)]
  simp only [Option.bind_some]
  exact par_loop hC hc n D h2 h5 a b (by omega) hb hbs f (by omega)
theorem step_par {t:ByteArray} {A C:Nat} (hA:byteAt t A=40) (h:Seq' t noPar (A+1) C) (hAC:A+1≤C) (hC:C < t.size) (hc:byteAt t C=41):StepT t A (C+1):=by
 obtain ⟨n,h⟩:=h
 intro a b ha hb hbs f hf
 have hs:=size_ext (a:=a) hbs
 obtain ⟨f,rfl⟩:∃ f',f=f'+1:=⟨f - 1,by omega⟩
 rw [ovF,if_pos (by omega),byteAt_win hbs ha (by omega),if_neg (by simp [hA]),if_neg (by simp [hA]),if_pos (by simp [hA]),show A - a+1=(A+1) - a from by omega]
 exact par_loop hC hc n (A+1) hAC h a b (by omega) (by omega) hbs f (by omega)
theorem read_loop {t:ByteArray} {A0 B C:Nat} (h60:t.size≤60) (hB:B≤t.size) (hCB:C≤B) (rs:List Rn) (fin:List Rn × Int):∀ (n A:Nat),A0≤A→A≤C→SeqN t noBar n A C→(∃ m,rfF m 1 (t.extract A0 B) (C - A0) 0 rs=some fin)→∃ m,rfF m 1 (t.extract A0 B) (A - A0) 0 rs=some fin
 | 0,A,_,_,h,k=>by have e:A=C:=h;subst e;exact k
 | n+1,A,hA0,hA,h,k=>by
  obtain ⟨D,h1,h2,h3,h4,h5⟩:=h
  obtain ⟨m,hm⟩:=read_loop h60 hB hCB rs fin n D (by omega) h2 h5 k
  have hs:=size_ext (a:=A0) hB
  refine ⟨m+1,?_⟩
  have hp:byteAt t A≠124:=by simp [noBar] at h3;exact h3.1
  rw [rfF,if_pos ⟨by omega,by rw [byteAt_win hB hA0 (by omega)];simp [hp]⟩,h4 A0 B hA0 (by omega) hB 200 (by omega)]
  simp only [Option.bind_some]
  exact hm
end Go.Proofs.YtobfpgoepaeknaaGreat
namespace Go.Proofs.YtobfpgoepaeknaaGreat
def max1 (w:Int):Int:=if w < 1 then 1 else w
def cl (w:Int):Int:=if 13 < w then 13 else w
def trueAll (ns:List Nd):List Int:=ns.foldl (fun ws n=>ws++[max1 (rawW ws n)]) []
def lt' (ns:List Nd):Int:=lastW (trueAll ns)
theorem trueAll_snoc (ns:List Nd) (n:Nd):trueAll (ns++[n])=trueAll ns++[max1 (rawW (trueAll ns) n)]:=by
 simp [trueAll,List.foldl_append]
theorem lt_snoc (ns:List Nd) (n:Nd):lt' (ns++[n])=max1 (rawW (trueAll ns) n):=by
 unfold lt' lastW;rw [trueAll_snoc];simp
theorem trueAll_len (ns:List Nd):(trueAll ns).length=ns.length :=
 snoc_ind (p:=fun ns=>(trueAll ns).length=ns.length) rfl (fun ns n ih=>by simp only [trueAll_snoc,List.length_append,ih,List.length_cons,List.length_nil]) ns
theorem trueAll_pos (ns:List Nd):∀ w∈trueAll ns,1≤w:=by
 refine snoc_ind (p:=fun ns=>∀ w∈trueAll ns,1≤w) ?_ ?_ ns
 ·intro w hw;simp [trueAll] at hw
 ·intro ns n ih w hw
  rw [trueAll_snoc,List.mem_append] at hw
  rcases hw with hw | hw
  ·exact ih w hw
  ·simp at hw;subst hw;unfold max1;split<;>omega
theorem trueAll_app (ns x:List Nd):∃ e,trueAll (ns++x)=trueAll ns++e:=by
 refine snoc_ind (p:=fun x=>∃ e,trueAll (ns++x)=trueAll ns++e) ⟨[],by simp⟩ ?_ x
 intro x n ⟨e,he⟩
 refine ⟨e++[max1 (rawW (trueAll (ns++x)) n)],?_⟩
 rw [←List.append_assoc,trueAll_snoc,he,List.append_assoc]
theorem wAt_last (ns x:List Nd) (h:ns≠[]):wAt (trueAll (ns++x)) ((ns.length:Int) - 1)=lt' ns:=by
 have hl:0 < ns.length:=List.length_pos_iff.2 h
 obtain ⟨e,he⟩:=trueAll_app ns x
 have hlen:=trueAll_len ns
 unfold wAt
 rw [if_neg (by rw [trueAll_len];simp only [List.length_append];omega),he,show ((ns.length:Int) - 1).toNat=ns.length - 1 from by omega,List.getD_eq_getElem?_getD,List.getElem?_append_left (by omega)]
 unfold lt' lastW
 rw [List.getLast?_eq_getElem?,hlen]
theorem wAt_cl (ws:List Int) (i:Int):wAt (ws.map cl) i=cl (wAt ws i):=by
 unfold wAt
 rw [List.length_map]
 split
 ·rfl
 ·rename_i h
  have hi:i.toNat < ws.length:=by omega
  rw [List.getD_eq_getElem?_getD,List.getD_eq_getElem?_getD,List.getElem?_map,List.getElem?_eq_getElem hi]
  rfl
theorem wAt_nonneg {ws:List Int} (h:∀ w∈ws,1≤w) (i:Int):0≤wAt ws i:=by
 unfold wAt
 split
 ·omega
 ·rename_i hi
  have hlt:i.toNat < ws.length:=by omega
  have:=h (ws[i.toNat]) (List.getElem_mem hlt)
  rw [List.getD_eq_getElem?_getD,List.getElem?_eq_getElem hlt]
  simp only [Option.getD_some]
  omega
theorem cl_sum {a c:Int} (ha:0≤a) (hc:0≤c):clampW (cl a+cl c)=cl (max1 (a+c)):=by
 unfold clampW cl max1;split<;>split<;>split<;>(try split)<;>(try split)<;>omega
theorem cl_same {a:Int} (_ha:0≤a):clampW (cl a)=cl (max1 a):=by
 unfold clampW cl max1;split<;>split<;>(try split)<;>(try split)<;>omega
theorem cl_times {a h:Int} (ha:0≤a) (hh:0≤h):clampW (cl a * h)=cl (max1 (a * h)):=by
 by_cases h13:13 < a
 ·have e:cl a=13:=by unfold cl;rw [if_pos h13]
  rw [e]
  by_cases h0:h=0
  ·subst h0;simp;decide
  ·have h1:a≤a * h:=by
    have:=Int.mul_le_mul_of_nonneg_left (show 1≤h by omega) ha
    simpa using this
   unfold clampW cl max1
   rw [if_neg (by omega),if_neg (show ¬a * h < 1 by omega),if_pos (show 13 < a * h by omega)]
   split<;>omega
 ·have e:cl a=a:=by unfold cl;rw [if_neg h13]
  rw [e]
  unfold clampW cl max1
  split
  ·rw [if_neg (by omega)]
  ·rfl
theorem weigh_cl (ns:List Nd) (hd:DigitsOk ns):weighAll ns=(trueAll ns).map cl:=by
 refine snoc_ind (p:=fun ns=>DigitsOk ns→weighAll ns=(trueAll ns).map cl) (fun _=>rfl) ?_ ns hd
 intro ns n ih hd
 have hd1:DigitsOk ns:=fun m hm=>hd m (by simp [hm])
 have hn:=hd n (by simp)
 rw [weighAll_snoc,trueAll_snoc,ih hd1,List.map_append]
 congr 1
 simp only [List.map_cons,List.map_nil,List.cons.injEq,and_true]
 have hp:=trueAll_pos ns
 have a1:=wAt_nonneg hp n.left
 have a2:=wAt_nonneg hp n.right
 unfold weighNd rawW
 rw [wAt_cl,wAt_cl]
 split
 ·exact cl_sum a1 a2
 ·split
  ·exact cl_same a1
  ·split
   ·exact cl_times a1 hn.1
   ·decide
theorem lastW_cl (ns:List Nd) (hd:DigitsOk ns) (hne:ns≠[]):lastW (weighAll ns)=cl (lt' ns):=by
 rw [weigh_cl ns hd]
 unfold lt' lastW
 rw [List.getLast?_map]
 cases h:(trueAll ns).getLast? with
 | none =>
  rw [List.getLast?_eq_none_iff] at h
  have:=trueAll_len ns
  rw [h] at this
  exact absurd (List.eq_nil_of_length_eq_zero this.symm) hne
 | some w=>rfl
def Last (tag:Nat) (whole:Int) (st:St) (r:St × Int):Prop :=
 (∃ e,r.1.ns=st.ns++e) ∧
 (match tag with
  | 1=>st.ns≠[]→whole=(st.ns.length:Int) - 1→r.2=(r.1.ns.length:Int) - 1
  | 3=>st.ns≠[]→whole=(st.ns.length:Int) - 1→r.2=(r.1.ns.length:Int) - 1
  | 5=>st.ns≠[]→whole=(st.ns.length:Int) - 1→r.2=(r.1.ns.length:Int) - 1
  | _=>r.1.ns≠[]∧r.2=(r.1.ns.length:Int) - 1)
theorem add_last (x:St) (n:Nd):(x.add n).ns≠[]∧x.num=((x.add n).ns.length:Int) - 1:=by
 constructor
 ·simp [St.add]
 ·simp [St.add,St.num]
theorem suffix_ns (t:ByteArray) (whole:Int) (x:St):∃ n,(readSuffixS t whole x).ns=x.ns++[n]:=by
 unfold readSuffixS
 split
 ·exact ⟨_,rfl⟩
 ·split
  ·exact ⟨_,rfl⟩
  ·split
   ·exact ⟨_,rfl⟩
   ·exact ⟨_,rfl⟩
theorem leaf_ns (t:ByteArray) (x:St):∃ s,(readLeafS t x).ns=x.ns++[⟨1,0,0,0,0,s⟩]:=by
 unfold readLeafS
 split
 ·exact ⟨_,rfl⟩
 ·split
  ·exact ⟨_,rfl⟩
  ·exact ⟨_,rfl⟩
theorem rdF_last (t:ByteArray):∀ (f tag:Nat) (whole:Int) (st:St) (r:St × Int),rdF t f tag whole st=some r→Last tag whole st r:=by
 intro f
 induction f with
 | zero=>intro tag whole st r h;simp [rdF] at h
 | succ f ih =>
  intro tag whole st r h
  match tag with
  | 0 =>
   simp only [rdF,Option.bind_eq_some_iff] at h
   obtain ⟨r1,h1,h2⟩:=h
   obtain ⟨⟨e1,he1⟩,ne1,l1⟩:=ih 2 _ _ _ h1
   obtain ⟨⟨e2,he2⟩,l2⟩:=ih 1 _ _ _ h2
   exact ⟨⟨e1++e2,by rw [he2,he1,List.append_assoc]⟩,by rw [he2];simp [ne1],l2 ne1 l1⟩
  | 1 =>
   simp only [rdF] at h
   split at h
   ·simp only [Option.bind_eq_some_iff] at h
    obtain ⟨r1,h1,h2⟩:=h
    obtain ⟨⟨e1,he1⟩,ne1,l1⟩:=ih 2 _ _ _ h1
    obtain ⟨⟨e2,he2⟩,l2⟩:=ih 1 _ _ _ h2
    refine ⟨⟨e1++[⟨3,whole,r1.2,0,0,0⟩]++e2,?_⟩,fun _ _=>l2 (add_last _ _).1 (add_last _ _).2⟩
    rw [he2]
    show (r1.1.ns++[_])++e2=_
    rw [he1]
    show st.ns++e1++[_]++e2=_
    simp
   ·simp only [Option.some.injEq] at h;subst h
    exact ⟨⟨[],by simp⟩,fun _ e=>e⟩
  | 2 =>
   simp only [rdF] at h
   split at h
   ·simp only [Option.bind_eq_some_iff] at h
    obtain ⟨r1,h1,h2⟩:=h
    obtain ⟨⟨e1,he1⟩,ne1,l1⟩:=ih 4 _ _ _ h1
    obtain ⟨⟨e2,he2⟩,l2⟩:=ih 3 _ _ _ h2
    exact ⟨⟨e1++e2,by rw [he2,he1,List.append_assoc]⟩,by rw [he2];simp [ne1],l2 ne1 l1⟩
   ·simp only [Option.some.injEq] at h;subst h
    exact ⟨⟨_,rfl⟩,(add_last _ _).1,(add_last _ _).2⟩
  | 3 =>
   simp only [rdF] at h
   split at h
   ·simp only [Option.bind_eq_some_iff] at h
    obtain ⟨r1,h1,h2⟩:=h
    obtain ⟨⟨e1,he1⟩,ne1,l1⟩:=ih 4 _ _ _ h1
    obtain ⟨⟨e2,he2⟩,l2⟩:=ih 3 _ _ _ h2
    refine ⟨⟨e1++[⟨2,whole,r1.2,0,0,0⟩]++e2,?_⟩,fun _ _=>l2 (add_last _ _).1 (add_last _ _).2⟩
    rw [he2]
    show (r1.1.ns++[_])++e2=_
    rw [he1]
    simp
   ·simp only [Option.some.injEq] at h;subst h
    exact ⟨⟨[],by simp⟩,fun _ e=>e⟩
  | 4 =>
   simp only [rdF,Option.bind_eq_some_iff] at h
   obtain ⟨r1,h1,h2⟩:=h
   obtain ⟨⟨e1,he1⟩,ne1,l1⟩:=ih 6 _ _ _ h1
   obtain ⟨⟨e2,he2⟩,l2⟩:=ih 5 _ _ _ h2
   exact ⟨⟨e1++e2,by rw [he2,he1,List.append_assoc]⟩,by rw [he2];simp [ne1],l2 ne1 l1⟩
  | 5 =>
   simp only [rdF] at h
   split at h
   ·obtain ⟨⟨e2,he2⟩,l2⟩:=ih 5 _ _ _ h
    obtain ⟨n,hn⟩:=suffix_ns t whole st
    refine ⟨⟨[n]++e2,by rw [he2,hn,List.append_assoc]⟩,fun _ _=>l2 (by rw [hn];simp) ?_⟩
    rw [hn];simp [St.num]
   ·simp only [Option.some.injEq] at h;subst h
    exact ⟨⟨[],by simp⟩,fun _ e=>e⟩
  | tag+6 =>
   simp only [rdF] at h
   split at h
   ·simp only [Option.bind_eq_some_iff,Option.some.injEq] at h
    obtain ⟨r1,h1,rfl⟩:=h
    obtain ⟨⟨e1,he1⟩,ne1,l1⟩:=ih 0 _ _ _ h1
    exact ⟨⟨e1,he1⟩,ne1,l1⟩
   ·simp only [Option.some.injEq] at h;subst h
    obtain ⟨s,hs⟩:=leaf_ns t st
    refine ⟨⟨_,hs⟩,by simp only;rw [hs];simp,?_⟩
    simp only;rw [hs];simp [St.num]
end Go.Proofs.YtobfpgoepaeknaaGreat
namespace Go.Proofs.YtobfpgoepaeknaaGreat
def p2 (n:Nat):Int:=((2 ^ n:Nat):Int)
theorem p2_pos (n:Nat):1≤p2 n:=by unfold p2;have:=Nat.one_le_two_pow (n:=n);omega
theorem p2_mono {a b:Nat} (h:a≤b):p2 a≤p2 b:=by unfold p2;have:=Nat.pow_le_pow_right (n:=2) (by omega) h;omega
theorem p2_add (a b:Nat):p2 (a+b)=p2 a * p2 b:=by unfold p2;rw [Nat.pow_add];simp
theorem p2_succ (a:Nat):p2 (a+1)=2 * p2 a:=by rw [p2_add];show p2 a * 2=_;omega
theorem p2_sum {a b:Nat} (ha:1≤a) (hb:1≤b):p2 a+p2 b≤p2 (a+b):=by
 obtain ⟨a,rfl⟩:∃ a',a=a'+1:=⟨a - 1,by omega⟩
 obtain ⟨b,rfl⟩:∃ b',b=b'+1:=⟨b - 1,by omega⟩
 have h1:p2 a≤p2 (a+b):=p2_mono (by omega)
 have h2:p2 b≤p2 (a+b):=p2_mono (by omega)
 rw [show a+1+(b+1)=a+b+1+1 from by omega,p2_succ,p2_succ,p2_succ,p2_succ]
 omega
theorem p2_bar (a b:Nat):p2 a+p2 b≤p2 (a+1+b):=by
 have h1:p2 a≤p2 (a+b):=p2_mono (by omega)
 have h2:p2 b≤p2 (a+b):=p2_mono (by omega)
 rw [show a+1+b=a+b+1 from by omega,p2_succ]
 omega
theorem p2_top {n:Nat} (h:n≤60):p2 n≤wTop:=Int.le_trans (p2_mono h) (by decide)
def Ref (tag:Nat) (t:ByteArray) (A B:Nat) (W:Int) (bnd:Nat):Prop :=
 ∀ rs,∃ n rs1 k,rfF n tag (t.extract A B) 0 0 rs=some (rs++rs1,k)∧rs1.length≤bnd∧Wt (rs++rs1) k W
def PatI (t:ByteArray) (A B:Nat) (W:Int):Prop:=A≤B∧B≤t.size∧1≤W∧W≤p2 (B - A)∧Seq' t noPar A B∧Ref 0 t A B W (2 * (B - A)+1)
def BraI (t:ByteArray) (A B:Nat) (W:Int):Prop:=A≤B∧B≤t.size∧1≤W∧W≤p2 (B - A)∧Seq' t noBar A B∧Ref 2 t A B W (2 * (B - A)+1)
def BraJ (t:ByteArray) (A B:Nat) (W:Int):Prop:=A < B∧B≤t.size∧1≤W∧W≤p2 (B - A)∧Seq' t noBar A B∧Ref 2 t A B W (2 * (B - A) - 1)
def PieI (t:ByteArray) (A B:Nat) (W:Int):Prop:=A < B∧B≤t.size∧1≤W∧W≤p2 (B - A)∧Seq' t noBar A B ∧
 ∀ E,B≤E→E≤t.size→∀ rs,∃ rs1 k,rs1.length≤2 * (B - A) - 1∧Wt (rs++rs1) k W∧∀ fin,(∃ n,rfF n 3 (t.extract A E) (B - A) k (rs++rs1)=some fin)→∃ n,rfF n 2 (t.extract A E) 0 0 rs=some fin
def AtoI (t:ByteArray) (A B:Nat) (W:Int):Prop:=A < B∧B≤t.size∧1≤W∧W≤p2 (B - A)∧StepT t A B∧noBar (byteAt t A)=true∧Ref 4 t A B W (2 * (B - A) - 1)
def Rest1 (t:ByteArray) (C B:Nat) (S:Int):Prop:=(C=B∧S=0)∨(C < B∧byteAt t C=124∧PatI t (C+1) B S)
def Rest3 (t:ByteArray) (C B:Nat) (S:Int):Prop:=(C=B∧S=0)∨BraJ t C B S
theorem pat_join {t:ByteArray} {A C B:Nat} {W S:Int} (h60:t.size≤60) (h:BraI t A C W) (k:Rest1 t C B S):PatI t A B (W+S):=by
 obtain ⟨b1,b2,b3,b4,b5,b6⟩:=h
 rcases k with ⟨rfl,rfl⟩ | ⟨k1,k2,q1,q2,q3,q4,q5,q6⟩
 ·refine ⟨b1,b2,by omega,by omega,b5.mono (fun c hc=>by simp [noBar] at hc;simp [noPar,hc.2]),fun rs=>?_⟩
  obtain ⟨n,rs1,k,e1,e2,e3⟩:=b6 rs
  rw [Int.add_zero]
  obtain ⟨sn,hsn⟩:=b5
  have hs:=size_ext (t:=t) (a:=A) b2
  obtain ⟨m,hm⟩:=read_loop h60 b2 (Nat.le_refl _) rs (rs++rs1,k) sn A (Nat.le_refl _) b1 hsn ⟨n+1,by
   rw [rfF,if_neg (by omega),if_pos (by omega),ext_ext (by omega),Nat.add_zero,show A+(C - A)=C from by omega,e1]
   simp only [Option.bind_some]
   rw [if_pos (by omega)]⟩
  rw [Nat.sub_self] at hm
  exact ⟨m+1,rs1,k,by rw [rfF];exact hm,e2,e3⟩
 ·have hw:=p2_bar (C - A) (B - (C+1))
  rw [show C - A+1+(B - (C+1))=B - A from by omega] at hw
  refine ⟨by omega,q2,by omega,by omega,?_,fun rs=>?_⟩
  ·refine Seq'.trans (by omega) (b5.mono (fun c hc=>by simp [noBar] at hc;simp [noPar,hc.2])) (Seq'.trans q1 (Seq'.one (by omega) (by rw [k2];decide) (step_one (by omega) (by omega) (by omega) (by omega))) q5)
  ·obtain ⟨n,rs1,k,e1,e2,e3⟩:=b6 rs
   obtain ⟨n2,rs2,kk,g1,g2,g3⟩:=q6 (rs++rs1)
   obtain ⟨sn,hsn⟩:=b5
   have hs:=size_ext (t:=t) (a:=A) q2
   have hbd1:W≤wTop:=Int.le_trans b4 (p2_top (by omega))
   have hbd2:S≤wTop:=Int.le_trans q4 (p2_top (by omega))
   obtain ⟨m,hm⟩:=read_loop h60 q2 (Nat.le_of_lt k1) rs (rs++rs1++rs2++[⟨4,k,kk,0,0,noSet⟩],((rs++rs1++rs2).length:Int)) sn A (Nat.le_refl _) b1 hsn ⟨max n n2+1,by
    rw [rfF,if_neg (by rw [byteAt_win q2 b1 k1,k2];simp),if_pos (by omega),ext_ext (by omega),Nat.add_zero,show A+(C - A)=C from by omega,rfF_mono n (max n n2) _ _ _ _ _ _ (by omega) e1]
    simp only [Option.bind_some]
    rw [if_neg (by omega),hs,ext_ext (by omega),show A+(C - A+1)=C+1 from by omega,show A+(B - A)=B from by omega,rfF_mono n2 (max n n2) _ _ _ _ _ _ (by omega) g1]
    rfl⟩
   rw [Nat.sub_self] at hm
   refine ⟨m+1,rs1++rs2++[⟨4,k,kk,0,0,noSet⟩],((rs++rs1++rs2).length:Int),?_,?_,?_⟩
   ·rw [rfF,hm];simp only [List.append_assoc]
   ·simp only [List.length_append,List.length_cons,List.length_nil];omega
   ·have:=Wt.sum 4 (Or.inr rfl) (e3.app rs2) g3 (by omega) (by omega) hbd1 hbd2
    simp only [List.append_assoc] at this ⊢
    exact this
theorem br_join {t:ByteArray} {A C B:Nat} {W S:Int} (h60:t.size≤60) (h:PieI t A C W) (k:Rest3 t C B S) (hns:C < B→atSuffixB (byteAt t C)=false):BraJ t A B (W+S):=by
 obtain ⟨b1,b2,b3,b4,b5,b6⟩:=h
 rcases k with ⟨rfl,rfl⟩ | ⟨q1,q2,q3,q4,q5,q6⟩
 ·refine ⟨b1,b2,by omega,by omega,b5,fun rs=>?_⟩
  obtain ⟨rs1,k,e1,e2,e3⟩:=b6 C (Nat.le_refl _) b2 rs
  have hs:=size_ext (t:=t) (a:=A) b2
  obtain ⟨n,hn⟩:=e3 (rs++rs1,k) ⟨1,by
   rw [rfF,if_neg (by omega),if_neg (by omega),if_neg (by omega),if_neg (by omega),if_pos (by omega)]⟩
  rw [Int.add_zero]
  exact ⟨n,rs1,k,hn,e1,e2⟩
 ·have hw:=p2_sum (a:=C - A) (b:=B - C) (by omega) (by omega)
  rw [show C - A+(B - C)=B - A from by omega] at hw
  refine ⟨by omega,q2,by omega,by omega,Seq'.trans (by omega) b5 q5,fun rs=>?_⟩
  obtain ⟨rs1,k,e1,e2,e3⟩:=b6 B (by omega) q2 rs
  obtain ⟨n2,rs2,kk,g1,g2,g3⟩:=q6 (rs++rs1)
  have hs:=size_ext (t:=t) (a:=A) q2
  have hsx:=hns q1
  simp only [atSuffixB,Bool.or_eq_false_iff] at hsx
  have hby:=byteAt_win (t:=t) q2 (show A≤C by omega) q1
  have hbd1:W≤wTop:=Int.le_trans b4 (p2_top (by omega))
  have hbd2:S≤wTop:=Int.le_trans q4 (p2_top (by omega))
  obtain ⟨n,hn⟩:=e3 (rs++rs1++rs2++[⟨3,k,kk,0,0,noSet⟩],((rs++rs1++rs2).length:Int)) ⟨n2+1,by
   rw [rfF,hby,if_neg (by simp [hsx.1.1.1]),if_neg (by simp [hsx.1.1.2]),if_neg (by simp [hsx.1.2]),if_neg (by simp [hsx.2]),if_neg (by omega),if_pos (by omega),hs,ext_ext (by omega),show A+(C - A)=C from by omega,show A+(B - A)=B from by omega,g1]
   rfl⟩
  refine ⟨n,rs1++rs2++[⟨3,k,kk,0,0,noSet⟩],((rs++rs1++rs2).length:Int),?_,?_,?_⟩
  ·rw [hn];simp only [List.append_assoc]
  ·simp only [List.length_append,List.length_cons,List.length_nil];omega
  ·have:=Wt.sum 3 (Or.inl rfl) (e2.app rs2) g3 (by omega) (by omega) hbd1 hbd2
   simp only [List.append_assoc] at this ⊢
   exact this
def SufI (t:ByteArray) (A B:Nat) (W0 W:Int):Prop:=A≤B∧B≤t.size∧1≤W∧W≤W0 * p2 (B - A)∧Seq' t noBar A B ∧
 ∀ a0 E rs l,a0≤A→B≤E→E≤t.size→W0≤p2 (A - a0)→Wt rs l W0→∃ rs1 k,rs1.length≤2 * (B - A)∧Wt (rs++rs1) k W∧∀ fin,(∃ n,rfF n 3 (t.extract a0 E) (B - a0) k (rs++rs1)=some fin)→∃ n,rfF n 3 (t.extract a0 E) (A - a0) l rs=some fin
theorem SufI.refl {t:ByteArray} {A:Nat} {W:Int} (hA:A≤t.size) (h:1≤W):SufI t A A W W:=by
 refine ⟨Nat.le_refl _,hA,h,by rw [Nat.sub_self];show W≤W * 1;omega,Seq'.refl _ _ _,fun a0 E rs l _ _ _ _ hw=>⟨[],l,by simp,by simpa using hw,fun fin hf=>by simpa using hf⟩⟩
theorem SufI.trans {t:ByteArray} {A B C:Nat} {W0 W1 W2:Int} (h:SufI t A B W0 W1) (k:SufI t B C W1 W2):SufI t A C W0 W2:=by
 obtain ⟨a1,a2,a3,a4,a5,a6⟩:=h
 obtain ⟨b1,b2,b3,b4,b5,b6⟩:=k
 have hp:W1 * p2 (C - B)≤W0 * p2 (B - A) * p2 (C - B):=Int.mul_le_mul_of_nonneg_right a4 (by have:=p2_pos (C - B);omega)
 rw [Int.mul_assoc,←p2_add,show B - A+(C - B)=C - A from by omega] at hp
 refine ⟨by omega,b2,b3,by omega,Seq'.trans b1 a5 b5,fun a0 E rs l h1 h2 h3 h4 h5=>?_⟩
 obtain ⟨rs1,k1,c1,c2,c3⟩:=a6 a0 E rs l h1 (by omega) h3 h4 h5
 have hw1:W1≤p2 (B - a0):=by
  have:W0 * p2 (B - A)≤p2 (A - a0) * p2 (B - A):=Int.mul_le_mul_of_nonneg_right h4 (by have:=p2_pos (B - A);omega)
  rw [←p2_add,show A - a0+(B - A)=B - a0 from by omega] at this
  omega
 obtain ⟨rs2,k2,d1,d2,d3⟩:=b6 a0 E (rs++rs1) k1 (by omega) h2 h3 hw1 c2
 refine ⟨rs1++rs2,k2,by simp only [List.length_append];omega,by rw [←List.append_assoc];exact d2,fun fin hf=>?_⟩
 rw [←List.append_assoc] at hf
 exact c3 fin (d3 fin hf)
theorem suf_star {t:ByteArray} {A:Nat} {W:Int} (hA:A < t.size) (hc:byteAt t A=42∨byteAt t A=43∨byteAt t A=63) (h1:1≤W):SufI t A (A+1) W W:=by
 have hp:W * 1≤W * p2 (A+1 - A):=Int.mul_le_mul_of_nonneg_left (p2_pos _) (by omega)
 refine ⟨by omega,hA,h1,by omega,Seq'.one (by omega) (by rcases hc with e | e | e<;>rw [e]<;>decide) (step_one hA (by omega) (by omega) (by omega)),fun a0 E rs l g1 g2 g3 g4 g5=>?_⟩
 have hs:=size_ext (t:=t) (a:=a0) g3
 have hby:=byteAt_win (t:=t) g3 g1 (show A < E by omega)
 rcases hc with e | e | e
 ·refine ⟨[⟨5,l,0,0,0,noSet⟩],(rs.length:Int),by simp,Wt.same 5 (Or.inl rfl) g5,fun fin ⟨n,hn⟩=>⟨n+1,?_⟩⟩
  rw [rfF,hby,e,if_pos ⟨by omega,by decide⟩,show A - a0+1=A+1 - a0 from by omega];exact hn
 ·refine ⟨[⟨6,l,0,0,0,noSet⟩],(rs.length:Int),by simp,Wt.same 6 (Or.inr (Or.inl rfl)) g5,fun fin ⟨n,hn⟩=>⟨n+1,?_⟩⟩
  rw [rfF,hby,e,if_neg (by simp),if_pos ⟨by omega,by decide⟩,show A - a0+1=A+1 - a0 from by omega];exact hn
 ·refine ⟨[⟨7,l,0,0,0,noSet⟩],(rs.length:Int),by simp,Wt.same 7 (Or.inr (Or.inr rfl)) g5,fun fin ⟨n,hn⟩=>⟨n+1,?_⟩⟩
  rw [rfF,hby,e,if_neg (by simp),if_neg (by simp),if_pos ⟨by omega,by decide⟩,show A - a0+1=A+1 - a0 from by omega];exact hn
theorem suf_times {t:ByteArray} {A:Nat} {W:Int} (h60:t.size≤60) (hA:A+4 < t.size) (c0:byteAt t A=123) (c1:decB (byteAt t (A+1))=true) (c2:byteAt t (A+2)=44) (c3:decB (byteAt t (A+3))=true) (c4:byteAt t (A+4)=125) (h1:1≤W) :
  SufI t A (A+5) W (max1 (W * (byteAt t (A+3) - 48))):=by
 have d1:48≤byteAt t (A+1)∧byteAt t (A+1)≤57:=by simpa [decB] using c1
 have d3:48≤byteAt t (A+3)∧byteAt t (A+3)≤57:=by simpa [decB] using c3
 have m0:0≤W * (byteAt t (A+3) - 48):=Int.mul_nonneg (by omega) (by omega)
 have m9:W * (byteAt t (A+3) - 48)≤W * 9:=Int.mul_le_mul_of_nonneg_left (by omega) (by omega)
 have e5:p2 (A+5 - A)=32:=by rw [show A+5 - A=5 from by omega];rfl
 have hmx:max1 (W * (byteAt t (A+3) - 48))≤W * 32:=by unfold max1;split<;>omega
 refine ⟨by omega,by omega,by unfold max1;split<;>omega,by rw [e5];exact hmx,?_,fun a0 E rs l g1 g2 g3 g4 g5=>?_⟩
 ·have s0:Seq' t noBar A (A+1):=Seq'.one (by omega) (by rw [c0];decide) (step_one (by omega) (by omega) (by omega) (by omega))
  have s1:Seq' t noBar (A+1) (A+2):=Seq'.one (by omega) (by simp only [noBar,Bool.and_eq_true,Bool.not_eq_true',beq_eq_false_iff_ne];omega) (step_one (by omega) (by omega) (by omega) (by omega))
  have s2:Seq' t noBar (A+2) (A+3):=Seq'.one (by omega) (by rw [c2];decide) (step_one (by omega) (by omega) (by omega) (by omega))
  have s3:Seq' t noBar (A+3) (A+4):=Seq'.one (by omega) (by simp only [noBar,Bool.and_eq_true,Bool.not_eq_true',beq_eq_false_iff_ne];omega) (step_one (by omega) (by omega) (by omega) (by omega))
  have s4:Seq' t noBar (A+4) (A+5):=Seq'.one (by omega) (by rw [c4];decide) (step_one (by omega) (by omega) (by omega) (by omega))
  exact Seq'.trans (by omega) s0 (Seq'.trans (by omega) s1 (Seq'.trans (by omega) s2 (Seq'.trans (by omega) s3 s4)))
 ·have hs:=size_ext (t:=t) (a:=a0) g3
  have hby:=byteAt_win (t:=t) g3 g1 (show A < E by omega)
  have hb1:byteAt (t.extract a0 E) (A - a0+1)=byteAt t (A+1):=by rw [show A - a0+1=A+1 - a0 from by omega];exact byteAt_win g3 (by omega) (by omega)
  have hb3:byteAt (t.extract a0 E) (A - a0+3)=byteAt t (A+3):=by rw [show A - a0+3=A+3 - a0 from by omega];exact byteAt_win g3 (by omega) (by omega)
  have hp32:p2 (A - a0) * 32≤wTop:=by
   have:=p2_top (n:=A - a0+5) (by omega)
   rw [p2_add] at this
   exact this
  refine ⟨[⟨8,l,0,byteAt t (A+1) - 48,byteAt t (A+3) - 48,noSet⟩],(rs.length:Int),by simp,Wt.times _ _ g5 m0 (by omega),fun fin ⟨n,hn⟩=>⟨n+1,?_⟩⟩
  rw [rfF,hby,c0,if_neg (by simp),if_neg (by simp),if_neg (by simp),if_pos ⟨by omega,by decide⟩,hb1,hb3,if_pos ⟨by omega,c1,c3⟩,show A - a0+5=A+5 - a0 from by omega]
  exact hn
theorem pie_of {t:ByteArray} {A C B:Nat} {W W1:Int} (h60:t.size≤60) (h:AtoI t A C W) (k:SufI t C B W W1):PieI t A B W1:=by
 obtain ⟨a1,a2,a3,a4,a5,a6,a7⟩:=h
 obtain ⟨b1,b2,b3,b4,b5,b6⟩:=k
 have hw:W * p2 (B - C)≤p2 (C - A) * p2 (B - C):=Int.mul_le_mul_of_nonneg_right a4 (by have:=p2_pos (B - C);omega)
 rw [←p2_add,show C - A+(B - C)=B - A from by omega] at hw
 refine ⟨by omega,b2,b3,by omega,Seq'.trans b1 (Seq'.one a1 a6 a5) b5,fun E hE hEs rs=>?_⟩
 obtain ⟨n,rs1,k,e1,e2,e3⟩:=a7 rs
 obtain ⟨rs2,k2,d1,d2,d3⟩:=b6 A E (rs++rs1) k (by omega) hE hEs a4 e3
 refine ⟨rs1++rs2,k2,by simp only [List.length_append];omega,by rw [←List.append_assoc];exact d2,fun fin hf=>?_⟩
 rw [←List.append_assoc] at hf
 obtain ⟨m,hm⟩:=d3 fin hf
 have hs:=size_ext (t:=t) (a:=A) hEs
 have hov:=a5 A E (Nat.le_refl _) (by omega) hEs 200 (by omega)
 rw [Nat.sub_self] at hov
 refine ⟨max n m+1,?_⟩
 rw [rfF,if_neg (by omega),hov]
 simp only [Option.bind_some]
 rw [if_pos (by omega),ext_ext (by omega),Nat.add_zero,show A+(C - A)=C from by omega,rfF_mono n (max n m) _ _ _ _ _ _ (by omega) e1]
 simp only [Option.bind_some]
 exact rfF_mono m (max n m) _ _ _ _ _ _ (by omega) hm
theorem ato_par {t:ByteArray} {A C:Nat} {W:Int} (hA:byteAt t A=40) (h:PatI t (A+1) C W) (hC:C < t.size) (hc:byteAt t C=41):AtoI t A (C+1) W:=by
 obtain ⟨b1,b2,b3,b4,b5,b6⟩:=h
 have hm:=p2_mono (show C - (A+1)≤C+1 - A by omega)
 refine ⟨by omega,hC,b3,by omega,step_par hA b5 b1 hC hc,by rw [hA];decide,fun rs=>?_⟩
 obtain ⟨n,rs1,k,e1,e2,e3⟩:=b6 rs
 have hs:=size_ext (t:=t) (a:=A) (b:=C+1) (by omega)
 have hb0:byteAt (t.extract A (C+1)) 0=40:=by rw [byteAt_ext (by omega) (by omega),Nat.add_zero];exact hA
 refine ⟨n+1,rs1,k,?_,by omega,e3⟩
 rw [rfF]
 ·rw [if_pos ⟨by omega,by rw [hb0];decide⟩,if_pos (by omega),hs,ext_ext (by omega),show A+(C+1 - A - 1)=C from by omega]
  exact e1
 all_goals (intro hh;omega)
theorem ato_leaf {t:ByteArray} {A B:Nat} {f:Nat→Bool} (hs:StepT t A B) (hAB:A < B) (hB:B≤t.size) (h40:byteAt t A≠40) (hnb:noBar (byteAt t A)=true) (hl:leafS (t.extract A B)=some ⟨2,0,0,0,0,f⟩):AtoI t A B 1:=by
 refine ⟨hAB,hB,by omega,p2_pos _,hs,hnb,fun rs=>⟨1,[⟨2,0,0,0,0,f⟩],(rs.length:Int),?_,by simp;omega,Wt.one _ _ (by simp)⟩⟩
 have hb0:byteAt (t.extract A B) 0=byteAt t A:=by rw [byteAt_ext hB (by omega),Nat.add_zero]
 rw [rfF]
 ·rw [if_neg (by rw [hb0];simp [h40]),hl]
  rfl
 all_goals (intro hh;omega)
end Go.Proofs.YtobfpgoepaeknaaGreat
namespace Go.Proofs.YtobfpgoepaeknaaGreat
theorem lt_pos (ns:List Nd) (h:ns≠[]):1≤lt' ns:=by
 unfold lt' lastW
 have hl:=trueAll_len ns
 have hp:=List.length_pos_iff.2 h
 rw [List.getLast?_eq_getElem?,List.getElem?_eq_getElem (by omega)]
 exact trueAll_pos ns _ (List.getElem_mem _)
theorem lt_two {st r1:List Nd} {e:List Nd} {K whole i:Int} (hK:K=2∨K=3) (hst:st≠[]) (h1:r1=st++e) (hr:r1≠[]) (hw:whole=(st.length:Int) - 1) (hi:i=(r1.length:Int) - 1) :
  lt' (r1++[⟨K,whole,i,0,0,0⟩])=lt' st+lt' r1:=by
 rw [lt_snoc]
 have a:wAt (trueAll r1) whole=lt' st:=by rw [h1,hw];exact wAt_last st e hst
 have b:wAt (trueAll r1) i=lt' r1:=by rw [hi];have:=wAt_last r1 [] hr;simpa using this
 have e0:rawW (trueAll r1) ⟨K,whole,i,0,0,0⟩=lt' st+lt' r1:=by
  unfold rawW
  rw [if_pos (by rcases hK with rfl | rfl<;>simp)]
  simp only
  rw [a,b]
 rw [e0]
 have:=lt_pos st hst
 have:=lt_pos r1 hr
 unfold max1
 rw [if_neg (by omega)]
theorem digit10_good {t:ByteArray} {s:S1} (hb:s.bad=false) (hk:s.k≤t.size) (hg:(readDigitS t 10 s).2.bad=false) :
  s.k < t.size∧decB (byteAt t s.k)=true∧readDigitS t 10 s=(byteAt t s.k - 48,⟨s.k+1,false⟩):=by
 unfold readDigitS digitOk at hg ⊢
 rw [digit10,Bool.not_not] at hg ⊢
 rcases pk_good hb hk with ⟨h1,h2⟩ | ⟨h1,h2⟩
 ·rw [h2] at hg ⊢
  by_cases hc:decB (byteAt t s.k)=true
  ·rw [if_pos hc,hb]
   refine ⟨h1,hc,?_⟩
   have:48≤byteAt t s.k∧byteAt t s.k≤57:=by simpa [decB] using hc
   unfold digitI
   rw [if_pos this]
  ·rw [if_neg hc] at hg;cases hg
 ·rw [h2,decB_neg,if_neg (by simp)] at hg;cases hg
theorem expect_good {t:ByteArray} {s:S1} {c:Int} (hb:s.bad=false) (hk:s.k≤t.size) (hc:0≤c) (hg:(expectS t c s).bad=false) :
  s.k < t.size∧byteAt t s.k=c∧expectS t c s=⟨s.k+1,false⟩:=by
 unfold expectS at hg ⊢
 rcases pk_good hb hk with ⟨h1,h2⟩ | ⟨h1,h2⟩
 ·by_cases h:(s.pk t == c)=true
  ·rw [if_pos h,hb];exact ⟨h1,by rw [←h2];simpa using h,rfl⟩
  ·rw [if_neg h] at hg;cases hg
 ·rw [h2,if_neg (by simp;omega)] at hg;cases hg
theorem suffix_good {t:ByteArray} {st:St} {whole:Int} (h60:t.size≤60) (hb:st.s.bad=false) (hk:st.s.k≤t.size) (hs:atSuffixB (st.s.pk t)=true) (hg:(readSuffixS t whole st).s.bad=false)
  (hne:st.ns≠[]) (hw:whole=(st.ns.length:Int) - 1):SufI t st.s.k (readSuffixS t whole st).s.k (lt' st.ns) (lt' (readSuffixS t whole st).ns):=by
 have hp:=lt_pos st.ns hne
 have hlt:st.s.k < t.size∧st.s.pk t=byteAt t st.s.k:=by
  rcases pk_good hb hk with h1 | ⟨_,h2⟩
  ·exact h1
  ·rw [h2] at hs;exact absurd hs (by decide)
 have ha:wAt (trueAll st.ns) whole=lt' st.ns:=by rw [hw];have:=wAt_last st.ns [] hne;simpa using this
 have star:∀ K:Int,K=4∨K=5∨K=6→lt' (st.ns++[⟨K,whole,0,0,0,0⟩])=lt' st.ns:=by
  intro K hK
  rw [lt_snoc]
  have e0:rawW (trueAll st.ns) ⟨K,whole,0,0,0,0⟩=lt' st.ns:=by
   unfold rawW
   rw [if_neg (by rcases hK with rfl | rfl | rfl<;>simp),if_pos (by rcases hK with rfl | rfl | rfl<;>simp)]
   exact ha
  rw [e0];unfold max1;rw [if_neg (by omega)]
 unfold readSuffixS at hg ⊢
 by_cases h1:(st.s.pk t == 42)=true
 ·rw [if_pos h1]
  show SufI t st.s.k (takeS t 42 st.s).k (lt' st.ns) (lt' (st.ns++[_]))
  rw [takeS_eq h1,star 4 (Or.inl rfl)]
  exact suf_star hlt.1 (Or.inl (by rw [←hlt.2];simpa using h1)) hp
 ·rw [if_neg h1] at hg ⊢
  by_cases h2:(st.s.pk t == 43)=true
  ·rw [if_pos h2]
   show SufI t st.s.k (takeS t 43 st.s).k (lt' st.ns) (lt' (st.ns++[_]))
   rw [takeS_eq h2,star 5 (Or.inr (Or.inl rfl))]
   exact suf_star hlt.1 (Or.inr (Or.inl (by rw [←hlt.2];simpa using h2))) hp
  ·rw [if_neg h2] at hg ⊢
   by_cases h3:(st.s.pk t == 63)=true
   ·rw [if_pos h3]
    show SufI t st.s.k (takeS t 63 st.s).k (lt' st.ns) (lt' (st.ns++[_]))
    rw [takeS_eq h3,star 6 (Or.inr (Or.inr rfl))]
    exact suf_star hlt.1 (Or.inr (Or.inr (by rw [←hlt.2];simpa using h3))) hp
   ·rw [if_neg h3] at hg ⊢
    have h4:(st.s.pk t == 123)=true:=by
     simp only [atSuffixB,Bool.or_eq_true] at hs
     rcases hs with ((hs | hs) | hs) | hs
     ·exact absurd hs h1
     ·exact absurd hs h2
     ·exact absurd hs h3
     ·exact hs
    have e123:byteAt t st.s.k=123:=by rw [←hlt.2];simpa using h4
    simp only [expectS_eq h4,hb] at hg ⊢
    have g5:(expectS t 125 (readDigitS t 10 (expectS t 44 (readDigitS t 10 ⟨st.s.k+1,false⟩).2)).2).bad=false:=hg
    have g4:=good_before (expectS_after t 125 _) g5
    have g3:=good_before (readDigitS_after t 10 _) g4
    have g2:=good_before (expectS_after t 44 _) g3
    obtain ⟨a1,a2,a3⟩:=digit10_good (t:=t) (s:=⟨st.s.k+1,false⟩) rfl (by simp only;omega) g2
    rw [a3] at g3 g4 g5 ⊢
    simp only at a1 a2 g3 g4 g5 ⊢
    obtain ⟨b1,b2,b3⟩:=expect_good (t:=t) (s:=⟨st.s.k+1+1,false⟩) (c:=44) rfl (by simp only;omega) (by omega) g3
    rw [b3] at g4 g5 ⊢
    simp only at b1 b2 g4 g5 ⊢
    obtain ⟨c1,c2,c3⟩:=digit10_good (t:=t) (s:=⟨st.s.k+1+1+1,false⟩) rfl (by simp only;omega) g4
    rw [c3] at g5 ⊢
    simp only at c1 c2 g5 ⊢
    obtain ⟨d1,d2,d3⟩:=expect_good (t:=t) (s:=⟨st.s.k+1+1+1+1,false⟩) (c:=125) rfl (by simp only;omega) (by omega) g5
    rw [d3]
    show SufI t st.s.k (st.s.k+1+1+1+1+1) (lt' st.ns) (lt' (st.ns++[⟨7,whole,0,byteAt t (st.s.k+1) - 48,byteAt t (st.s.k+1+1+1) - 48,0⟩]))
    have e0:lt' (st.ns++[⟨7,whole,0,byteAt t (st.s.k+1) - 48,byteAt t (st.s.k+1+1+1) - 48,0⟩])=max1 (lt' st.ns * (byteAt t (st.s.k+3) - 48)):=by
     rw [lt_snoc]
     unfold rawW
     rw [if_neg (by simp),if_neg (by simp),if_pos (by simp)]
     simp only
     rw [ha]
    rw [e0]
    exact suf_times h60 d1 e123 a2 b2 c2 d2 hp
def GoodT (t:ByteArray) (tag:Nat) (whole:Int) (st r:St):Prop :=
 match tag with
 | 0=>PatI t st.s.k r.s.k (lt' r.ns)
 | 1=>st.ns≠[]→whole=(st.ns.length:Int) - 1→∃ S,lt' r.ns=lt' st.ns+S∧Rest1 t st.s.k r.s.k S
 | 2=>BraI t st.s.k r.s.k (lt' r.ns)
 | 3=>st.ns≠[]→whole=(st.ns.length:Int) - 1→∃ S,lt' r.ns=lt' st.ns+S∧Rest3 t st.s.k r.s.k S
 | 4=>atAtomB (st.s.pk t)=true→PieI t st.s.k r.s.k (lt' r.ns)
 | 5=>st.ns≠[]→whole=(st.ns.length:Int) - 1→SufI t st.s.k r.s.k (lt' st.ns) (lt' r.ns)
 | _=>atAtomB (st.s.pk t)=true→AtoI t st.s.k r.s.k (lt' r.ns)
theorem facts_after {t:ByteArray} {tag:Nat} {whole:Int} {x:St} {r:St × Int} (h:Facts t tag whole x r):After x.s r.1.s∧r.1.s.k≤t.size:=by
 match tag with
 | 0=>exact ⟨h.1,h.2.1⟩
 | 1=>exact ⟨h.1.1,h.1.2.1⟩
 | 2=>exact ⟨h.1,h.2.1⟩
 | 3=>exact ⟨h.1.1,h.1.2.1⟩
 | 4=>exact ⟨h.1.1,h.1.2.1⟩
 | 5=>exact ⟨h.1.1,h.1.2.1⟩
 | tag+6=>exact ⟨h.1.1,h.1.2.1⟩
theorem BraJ.toI {t:ByteArray} {A B:Nat} {W:Int} (h:BraJ t A B W):BraI t A B W:=by
 obtain ⟨a1,a2,a3,a4,a5,a6⟩:=h
 refine ⟨Nat.le_of_lt a1,a2,a3,a4,a5,fun rs=>?_⟩
 obtain ⟨n,rs1,k,e1,e2,e3⟩:=a6 rs
 exact ⟨n,rs1,k,e1,by omega,e3⟩
theorem atom_noBar {c:Int} (h:atAtomB c=true):noBar c=true:=by
 simp only [noBar,Bool.and_eq_true,Bool.not_eq_true',beq_eq_false_iff_ne]
 constructor
 ·intro e;rw [e] at h;exact absurd h (by decide)
 ·intro e;rw [e] at h;exact absurd h (by decide)
theorem no_suffix {t:ByteArray} {f:Nat} {st:St} {r:St × Int} (hk:st.s.k≤t.size) (hb:st.s.bad=false) (h:rdF t f 4 0 st=some r) (ha:atAtomB (st.s.pk t)=true) (hg:r.1.s.bad=false) (hlt:r.1.s.k < t.size):atSuffixB (byteAt t r.1.s.k)=false:=by
 have o:=rdF_out t f 4 0 st r hk h ⟨0,0,0⟩ (by simp) (Or.inl rfl) hb ha
 obtain ⟨m,bk,g,hm,p⟩:=o.1 hg
 rcases pk_good hg (Nat.le_of_lt hlt) with ⟨_,e⟩ | ⟨e,_⟩
 ·rw [←e];exact p.2
 ·omega
theorem rdF_good (t:ByteArray) (h60:t.size≤60):∀ (f tag:Nat) (whole:Int) (st:St) (r:St × Int),st.s.k≤t.size→rdF t f tag whole st=some r→r.1.s.bad=false→GoodT t tag whole st r.1:=by
 intro f
 induction f with
 | zero=>intro tag whole st r _ h;simp [rdF] at h
 | succ f ih =>
  intro tag whole st r hk h hg
  match tag with
  | 0 =>
   simp only [rdF,Option.bind_eq_some_iff] at h
   obtain ⟨r1,h1,h2⟩:=h
   have f1:=facts_after (rdF_facts t f 2 _ _ _ hk h1)
   have f2:=facts_after (rdF_facts t f 1 _ _ _ f1.2 h2)
   have g1:=good_before f2.1 hg
   obtain ⟨_,ne1,l1⟩:=rdF_last t f 2 _ _ _ h1
   have q1:BraI t st.s.k r1.1.s.k (lt' r1.1.ns):=ih 2 _ _ _ hk h1 g1
   obtain ⟨S,e,q2⟩:=ih 1 _ _ _ f1.2 h2 hg ne1 l1
   show PatI t st.s.k r.1.s.k (lt' r.1.ns)
   rw [e]
   exact pat_join h60 q1 q2
  | 1 =>
   simp only [rdF] at h
   intro hne hw
   split at h
   ·rename_i hc
    simp only [Option.bind_eq_some_iff] at h
    obtain ⟨r1,h1,h2⟩:=h
    obtain ⟨hb,hlt⟩:=S1.pk_lt (t:=t) (s:=st.s) (by rw [beq_iff_eq] at hc;omega)
    have e124:byteAt t st.s.k=124:=by
     rcases pk_good hb hk with ⟨_,e⟩ | ⟨e,_⟩
     ·rw [←e];simpa using hc
     ·omega
    rw [takeS_eq hc] at h1
    have hk0:(st.at ⟨st.s.k+1,st.s.bad⟩).s.k≤t.size:=by simp only [St.at];omega
    have f1:=facts_after (rdF_facts t f 2 _ _ _ hk0 h1)
    have f2:=facts_after (rdF_facts t f 1 _ (r1.1.add ⟨3,whole,r1.2,0,0,0⟩) _ f1.2 h2)
    have g1:r1.1.s.bad=false:=good_before f2.1 hg
    obtain ⟨⟨e1,he1⟩,ne1,l1⟩:=rdF_last t f 2 _ _ _ h1
    have q1:BraI t (st.s.k+1) r1.1.s.k (lt' r1.1.ns):=ih 2 _ _ _ hk0 h1 g1
    obtain ⟨S,e,q2⟩:=ih 1 _ (r1.1.add ⟨3,whole,r1.2,0,0,0⟩) _ f1.2 h2 hg (add_last _ _).1 (add_last _ _).2
    have hsum:lt' (r1.1.ns++[⟨3,whole,r1.2,0,0,0⟩])=lt' st.ns+lt' r1.1.ns:=lt_two (Or.inr rfl) hne he1 ne1 hw l1
    have e':lt' r.1.ns=lt' (r1.1.ns++[⟨3,whole,r1.2,0,0,0⟩])+S:=e
    have hp:=pat_join h60 q1 (show Rest1 t r1.1.s.k r.1.s.k S from q2)
    exact ⟨lt' r1.1.ns+S,by rw [e',hsum];omega,Or.inr ⟨by have:=hp.1;omega,e124,hp⟩⟩
   ·simp only [Option.some.injEq] at h;subst h
    exact ⟨0,(Int.add_zero _).symm,Or.inl ⟨rfl,rfl⟩⟩
  | 2 =>
   simp only [rdF] at h
   split at h
   ·rename_i hc
    simp only [Option.bind_eq_some_iff] at h
    obtain ⟨r1,h1,h2⟩:=h
    have f1:=facts_after (rdF_facts t f 4 _ _ _ hk h1)
    have f2:=facts_after (rdF_facts t f 3 _ _ _ f1.2 h2)
    have g1:=good_before f2.1 hg
    have g0:=good_before f1.1 g1
    obtain ⟨_,ne1,l1⟩:=rdF_last t f 4 _ _ _ h1
    have q1:PieI t st.s.k r1.1.s.k (lt' r1.1.ns):=ih 4 _ _ _ hk h1 g1 hc
    obtain ⟨S,e,q2⟩:=ih 3 _ _ _ f1.2 h2 hg ne1 l1
    show BraI t st.s.k r.1.s.k (lt' r.1.ns)
    rw [e]
    exact (br_join h60 q1 q2 (fun hlt=>no_suffix hk g0 h1 hc g1 (by have:=f2.2;omega))).toI
   ·simp only [Option.some.injEq] at h;subst h
    show BraI t st.s.k st.s.k (lt' (st.ns++[⟨0,0,0,0,0,0⟩]))
    have e0:lt' (st.ns++[⟨0,0,0,0,0,0⟩])=1:=by rw [lt_snoc];rfl
    rw [e0]
    refine ⟨Nat.le_refl _,hk,by omega,p2_pos _,Seq'.refl _ _ _,fun rs=>⟨1,[⟨1,0,0,0,0,noSet⟩],(rs.length:Int),?_,by simp,Wt.one _ _ (by simp)⟩⟩
    have hs:=size_ext (t:=t) (a:=st.s.k) hk
    rw [rfF,if_pos (by omega)]
  | 3 =>
   simp only [rdF] at h
   intro hne hw
   split at h
   ·rename_i hc
    simp only [Option.bind_eq_some_iff] at h
    obtain ⟨r1,h1,h2⟩:=h
    have f1:=facts_after (rdF_facts t f 4 _ _ _ hk h1)
    have f2:=facts_after (rdF_facts t f 3 _ (r1.1.add ⟨2,whole,r1.2,0,0,0⟩) _ f1.2 h2)
    have g1:r1.1.s.bad=false:=good_before f2.1 hg
    have g0:=good_before f1.1 g1
    obtain ⟨⟨e1,he1⟩,ne1,l1⟩:=rdF_last t f 4 _ _ _ h1
    have q1:PieI t st.s.k r1.1.s.k (lt' r1.1.ns):=ih 4 _ _ _ hk h1 g1 hc
    obtain ⟨S,e,q2⟩:=ih 3 _ (r1.1.add ⟨2,whole,r1.2,0,0,0⟩) _ f1.2 h2 hg (add_last _ _).1 (add_last _ _).2
    have hsum:lt' (r1.1.ns++[⟨2,whole,r1.2,0,0,0⟩])=lt' st.ns+lt' r1.1.ns:=lt_two (Or.inl rfl) hne he1 ne1 hw l1
    have e':lt' r.1.ns=lt' (r1.1.ns++[⟨2,whole,r1.2,0,0,0⟩])+S:=e
    have hj:=br_join h60 q1 (show Rest3 t r1.1.s.k r.1.s.k S from q2) (fun hlt=>no_suffix hk g0 h1 hc g1 (by have:=f2.2;omega))
    exact ⟨lt' r1.1.ns+S,by rw [e',hsum];omega,Or.inr hj⟩
   ·simp only [Option.some.injEq] at h;subst h
    exact ⟨0,(Int.add_zero _).symm,Or.inl ⟨rfl,rfl⟩⟩
  | 4 =>
   simp only [rdF,Option.bind_eq_some_iff] at h
   obtain ⟨r1,h1,h2⟩:=h
   intro ha
   have f1:=facts_after (rdF_facts t f 6 _ _ _ hk h1)
   have f2:=facts_after (rdF_facts t f 5 _ _ _ f1.2 h2)
   have g1:=good_before f2.1 hg
   obtain ⟨_,ne1,l1⟩:=rdF_last t f 6 _ _ _ h1
   have q1:AtoI t st.s.k r1.1.s.k (lt' r1.1.ns):=ih 6 _ _ _ hk h1 g1 ha
   exact pie_of h60 q1 (ih 5 _ _ _ f1.2 h2 hg ne1 l1)
  | 5 =>
   simp only [rdF] at h
   intro hne hw
   split at h
   ·rename_i hc
    obtain ⟨a1,a2,a3,a4,a5⟩:=readSuffixS_facts (whole:=whole) hk hc
    have f2:=facts_after (rdF_facts t f 5 _ _ _ a2 h)
    have g1:=good_before f2.1 hg
    have g0:=good_before a1 g1
    obtain ⟨n,hn⟩:=suffix_ns t whole st
    have q1:=suffix_good h60 g0 hk hc g1 hne hw
    exact q1.trans (ih 5 _ _ _ a2 h hg (by rw [hn];simp) (by rw [a4];simp [St.num]))
   ·simp only [Option.some.injEq] at h;subst h
    exact SufI.refl hk (lt_pos _ hne)
  | tag+6 =>
   simp only [rdF] at h
   intro ha
   show AtoI t st.s.k r.1.s.k (lt' r.1.ns)
   split at h
   ·rename_i hc
    simp only [Option.bind_eq_some_iff,Option.some.injEq] at h
    obtain ⟨r1,h1,rfl⟩:=h
    obtain ⟨hb,hlt⟩:=S1.pk_lt (t:=t) (s:=st.s) (by rw [beq_iff_eq] at hc;omega)
    have e40:byteAt t st.s.k=40:=by
     rcases pk_good hb hk with ⟨_,e⟩ | ⟨e,_⟩
     ·rw [←e];simpa using hc
     ·omega
    rw [takeS_eq hc] at h1
    have hk0:(st.at ⟨st.s.k+1,st.s.bad⟩).s.k≤t.size:=by simp only [St.at];omega
    have f1:=facts_after (rdF_facts t f 0 _ _ _ hk0 h1)
    have hg':(expectS t 41 r1.1.s).bad=false:=hg
    have g1:r1.1.s.bad=false:=good_before (expectS_after t 41 _) hg'
    obtain ⟨x1,x2,x3⟩:=expect_good g1 f1.2 (by omega) hg'
    have q1:PatI t (st.s.k+1) r1.1.s.k (lt' r1.1.ns):=ih 0 _ _ _ hk0 h1 g1
    show AtoI t st.s.k (expectS t 41 r1.1.s).k (lt' r1.1.ns)
    rw [x3]
    exact ato_par e40 q1 x1 x2
   ·rename_i hc
    simp only [Option.some.injEq] at h;subst h
    have hg':(readLeafS t st).s.bad=false:=hg
    have hb:=good_before (readLeafS_facts (t:=t) hk).1 hg'
    obtain ⟨l1,l2,l3,l4,l5⟩:=leaf_good hb hk ha (by simpa using hc) hg'
    obtain ⟨ff,hff⟩:=l5 h60
    obtain ⟨s,hs⟩:=leaf_ns t st
    have e0:lt' (readLeafS t st).ns=1:=by rw [hs,lt_snoc];rfl
    rw [e0]
    refine ato_leaf l1 l2 l3 l4 ?_ hff
    rcases pk_good hb hk with ⟨_,e⟩ | ⟨_,e⟩
    ·rw [←e];exact atom_noBar ha
    ·rw [e] at ha;exact absurd ha (by decide)
theorem refOk_all (t:ByteArray) (y:St) (i:Int) (h60:t.size≤60) (h:Rds t 0 0 x0 (y,i)):RefOk t y:=by
 have hp:=place_meets h
 refine ⟨hp.1,fun hn=>⟨hp.2 hn,?_⟩⟩
 obtain ⟨f,hf⟩:=h
 have hk0:x0.s.k≤t.size:=Nat.zero_le _
 have hky:y.s.k≤t.size:=(rdF_facts t f 0 _ _ _ hk0 hf).2.1
 have hb:y.s.bad=false:=by
  cases hbb:y.s.bad
  ·rfl
  ·exact absurd (Or.inl hbb) hn
 have hk:y.s.k=t.size:=by
  have:¬y.s.k < t.size:=fun hh=>hn (Or.inr hh)
  omega
 have q:PatI t 0 y.s.k (lt' y.ns):=rdF_good t h60 f 0 0 x0 (y,i) hk0 hf hb
 obtain ⟨_,_,q3,_,_,q6⟩:=q
 obtain ⟨n,rs1,k,e1,e2,e3⟩:=q6 []
 obtain ⟨m,hm⟩:=e3
 rw [hk,ByteArray.extract_zero_size] at e1
 obtain ⟨hd,hl⟩:=rdF_ok t f 0 0 x0 (y,i) hf (by intro n hn;simp [x0] at hn)
 have hne:y.ns≠[]:=by intro e;rw [e] at hl;simp [lays] at hl
 refine ⟨n,([]++rs1,k),m,lt' y.ns,e1,by simp;omega,hm,?_⟩
 rw [lastW_cl y.ns hd hne]
 rfl
end Go.Proofs.YtobfpgoepaeknaaGreat
namespace Go.Proofs.YtobfpgoepaeknaaGreat
open Go.RowKit
theorem ret_bool {a b:Bool} (h:a=b):Ending.returned (.bool a)=.returned (.bool b):=by rw [h]
theorem ret_int {k:IntKind} {a b:Int} (h:a=b):Ending.returned (.int k a)=.returned (.int k b):=by rw [h]
theorem hide {p:Prop} (h:p):Hid p:=h
theorem unhide {p:Prop} (h:Hid p):p:=h
set_option maxHeartbeats 400000 in
theorem isMark_any (b:Int) (w:World) :
  Calls Tryz.prog 163 #[.int .i64 b] w fun e w'=>e=.returned (.bool (isMarkB b))∧w'=w:=by
 go_enter Tryz.func163,Tryz.ntmps163
 go_wp2
 all_goals
  go_ret
  exact ⟨ret_bool (by simp_all [isMarkB]),rfl⟩
set_option maxHeartbeats 400000 in
theorem isPlain_any (b:Int) (w:World) :
  Calls Tryz.prog 157 #[.int .i64 b] w fun e w'=>e=.returned (.bool (isPlainB b))∧w'=w:=by
 go_enter Tryz.func157,Tryz.ntmps157
 go_wp2_with (go_at_call 163;refine (isMark_any _ _).mono ?_;rintro e w' ⟨rfl,rfl⟩)
 all_goals
  go_ret
  exact ⟨ret_bool (by simp_all [isPlainB];try (intros;omega)),rfl⟩
set_option maxHeartbeats 400000 in
theorem isPlainInSet_any (b:Int) (w:World) :
  Calls Tryz.prog 178 #[.int .i64 b] w fun e w'=>e=.returned (.bool (isPlainInSetB b))∧w'=w:=by
 go_enter Tryz.func178,Tryz.ntmps178
 go_wp2
 all_goals
  go_ret
  exact ⟨ret_bool (by simp_all [isPlainInSetB];try (intros;omega)),rfl⟩
set_option maxHeartbeats 400000 in
theorem mayBeEscaped_any (b:Int) (w:World) :
  Calls Tryz.prog 177 #[.int .i64 b] w fun e w'=>e=.returned (.bool (mayBeEscapedB b))∧w'=w:=by
 go_enter Tryz.func177,Tryz.ntmps177
 go_wp2_with (go_at_call 163;refine (isMark_any _ _).mono ?_;rintro e w' ⟨rfl,rfl⟩)
 all_goals
  go_ret
  exact ⟨ret_bool (by simp_all [mayBeEscapedB]),rfl⟩
set_option maxHeartbeats 400000 in
theorem digit_any (b:Int) (w:World) (h0:-1≤b) (h1:b≤255) :
  Calls Tryz.prog 175 #[.int .i64 b] w fun e w'=>e=.returned (.int .i64 (digitI b))∧w'=w:=by
 go_enter Tryz.func175,Tryz.ntmps175
 go_wp2
 all_goals
  go_ret
  exact ⟨ret_int (by simp_all [digitI];try omega),rfl⟩
end Go.Proofs.YtobfpgoepaeknaaGreat
namespace Go.Proofs.YtobfpgoepaeknaaGreat
open Go.RowKit
theorem w64 (n:Int) (h:0≤n∧n≤65536):wrap64 n=n:=by unfold wrap64;omega
def Rd1 (w:World) (b:Nat) (t:ByteArray) (s:S1) (nv sv:Value):Prop :=
 w.heap[b]?=some (.cells #[.string t,.int .i64 (s.k:Int),.bool s.bad,nv,sv] 124 (0,0))
def Post1 (w w':World) (b:Nat) (t:ByteArray) (s:S1) (nv sv:Value):Prop :=
 w.grownBy w' (some b)∧Rd1 w' b t s nv sv
section
variable {w w' : World} {b : Nat} {t : ByteArray} {s s' : S1} {nv sv : Value}
theorem Rd1.cells (h:Rd1 w b t s nv sv) :
  w.cell? ⟨b,0,none⟩=some (.string t)∧w.cell? ⟨b,1,none⟩=some (.int .i64 (s.k:Int))∧w.cell? ⟨b,2,none⟩=some (.bool s.bad) ∧
  w.cell? ⟨b,3,none⟩=some nv∧w.cell? ⟨b,4,none⟩=some sv:=by
 unfold Rd1 at h
 simp [World.cell?,h]
theorem Rd1.unfrozen (h:Rd1 w b t s nv sv) :
  w.frozen? ⟨b,1,none⟩=false∧w.frozen? ⟨b,2,none⟩=false∧w.frozen? ⟨b,3,none⟩=false∧w.frozen? ⟨b,4,none⟩=false:=by
 unfold Rd1 at h
 simp [World.frozen?,h]
theorem Rd1.lt (h:Rd1 w b t s nv sv):b < w.heap.size:=(Array.getElem?_eq_some_iff.1 h).1
theorem grownBy_refl (w:World) (r:Option Nat):w.grownBy w r:=⟨rfl,rfl,rfl,Nat.le_refl _,fun _ _ _=>rfl⟩
theorem grownBy_trans {w w1 w2:World} {r:Option Nat} (h:w.grownBy w1 r) (k:w1.grownBy w2 r):w.grownBy w2 r :=
 ⟨k.os.trans h.os,k.tape.trans h.tape,k.output.trans h.output,Nat.le_trans h.size k.size,
  fun i hi hr=>(k.block i (Nat.lt_of_lt_of_le hi h.size) hr).trans (h.block i hi hr)⟩
theorem grownBy_drewN {w w1:World} {r:Option Nat} (h:w.grownBy w1 r) (n:Nat):w.grownBy (w1.drewN n) r :=
 ⟨h.os,h.tape,h.output,h.size,h.block⟩
theorem grownBy_setCell {w w1:World} {b o:Nat} (h:w.grownBy w1 (some b)) (v:Value):w.grownBy (w1.setCell ⟨b,o,none⟩ v) (some b) :=
 grownBy_trans h ⟨rfl,rfl,rfl,by simp [World.setCell],fun k _ hk=>Below.heap_setCell _ _ _ _ (by simpa using hk)⟩
theorem grownBy_alloc {w w1:World} {r:Option Nat} (h:w.grownBy w1 r) (o:Obj):w.grownBy (w1.alloc o) r :=
 grownBy_trans h (World.grownBy_alloc w1 o r)
theorem Post1.refl (h:Rd1 w b t s nv sv):Post1 w w b t s nv sv:=⟨grownBy_refl _ _,h⟩
theorem Post1.drewN (h:Post1 w w' b t s nv sv) (n:Nat):Post1 w (w'.drewN n) b t s nv sv:=⟨grownBy_drewN h.1 n,h.2⟩
theorem Post1.trans {w1 w2:World} (h:Post1 w w1 b t s nv sv) (k:Post1 w1 w2 b t s' nv sv):Post1 w w2 b t s' nv sv :=
 ⟨grownBy_trans h.1 k.1,k.2⟩
theorem Post1.step (h:Post1 w w' b t s nv sv):Post1 w (w'.setCell ⟨b,1,none⟩ (.int .i64 ((s.k:Int)+1))) b t ⟨s.k+1,s.bad⟩ nv sv:=by
 refine ⟨grownBy_setCell h.1 _,?_⟩
 have hr:=h.2
 unfold Rd1 at hr ⊢
 simp only [World.setCell,Array.getElem?_modify,if_pos,hr]
 simp
theorem Post1.mark (h:Post1 w w' b t s nv sv):Post1 w (w'.setCell ⟨b,2,none⟩ (.bool true)) b t ⟨s.k,true⟩ nv sv:=by
 refine ⟨grownBy_setCell h.1 _,?_⟩
 have hr:=h.2
 unfold Rd1 at hr ⊢
 simp only [World.setCell,Array.getElem?_modify,if_pos,hr]
 simp
end
set_option maxHeartbeats 400000 in
theorem peek_any (w:World) (b:Nat) (t:ByteArray) (s:S1) (nv sv:Value) (h:Rd1 w b t s nv sv)
  (_ht:t.size≤60) (hk:s.k≤t.size) :
  Calls Tryz.prog 146 #[.pointer (some ⟨b,0,none⟩)] w fun e w'=>e=.returned (.int .i64 (s.pk t))∧∃ n,w'=w.drewN n:=by
 obtain ⟨c0,c1,c2,-,-⟩:=h.cells
 obtain ⟨k,bad⟩:=s
 simp only at c1 c2 hk
 have e:S1.pk t ⟨k,bad⟩=pk t k bad:=rfl
 rw [e]
 clear e h
 cases bad
 ·by_cases hlt:k < t.size
  ·have hd:decide ((k:Int) < 0)=false:=by simp
   have hd2:decide ((t.size:Int)≤(k:Int))=false:=by simp;omega
   have hl:(k:Int) < (t.size:Int):=by omega
   go_enter Tryz.func146,Tryz.ntmps146
   go_wp2
   go_quiet (fail)
   go_wp2
   go_quiet (fail)
   go_wp2
   go_ret
   exact ⟨ret_int (by rw [w64 _ (by have:=t[k].toNat_lt;omega)];simp [pk,hlt]),_,World.drewN_drewN _ _ _⟩
  ·have hd:decide ((k:Int) < 0)=false:=by simp
   have hd2:decide ((t.size:Int)≤(k:Int))=true:=by simp;omega
   go_enter Tryz.func146,Tryz.ntmps146
   go_wp2
   go_quiet (fail)
   go_wp2
   go_ret
   exact ⟨ret_int (by simp [pk,hlt]),_,rfl⟩
 ·go_enter Tryz.func146,Tryz.ntmps146
  go_wp2
  go_quiet (fail)
  go_wp2
  go_ret
  exact ⟨ret_int (by simp [pk]),_,rfl⟩
set_option maxHeartbeats 400000 in
theorem take_any (w:World) (b:Nat) (t:ByteArray) (s:S1) (nv sv:Value) (c:Int) (h:Rd1 w b t s nv sv)
  (ht:t.size≤60) (hk:s.k≤t.size) :
  Calls Tryz.prog 104 #[.pointer (some ⟨b,0,none⟩),.int .i64 c] w fun e w' =>
   e=.returned (.bool (s.pk t == c))∧Post1 w w' b t (takeS t c s) nv sv:=by
 obtain ⟨c0,c1,c2,-,-⟩:=h.cells
 obtain ⟨f1,f2,-,-⟩:=h.unfrozen
 have hp:=peek_any w b t s nv sv h ht hk
 have HP:=hide hp
 clear hp
 by_cases hc:s.pk t=c
 ·have hb:(s.pk t != c)=false:=by simp [hc]
  have HC:=hide hc
  clear hc
  go_enter Tryz.func104,Tryz.ntmps104
  go_wp2_with (go_at_call 146;refine (unhide HP).mono ?_;rintro e w' ⟨rfl,n,rfl⟩)
  go_ret
  refine ⟨ret_bool (by simp [unhide HC]),?_⟩
  have:takeS t c s=⟨s.k+1,s.bad⟩:=by simp [takeS,unhide HC]
  rw [this]
  exact ((Post1.refl h).drewN n).step
 ·have hb:(s.pk t != c)=true:=by simp [hc]
  go_enter Tryz.func104,Tryz.ntmps104
  go_wp2_with (go_at_call 146;refine (unhide HP).mono ?_;rintro e w' ⟨rfl,n,rfl⟩)
  go_ret
  refine ⟨ret_bool (by simp [hc]),?_⟩
  have:takeS t c s=s:=by simp [takeS,hc]
  rw [this]
  exact (Post1.refl h).drewN n
set_option maxHeartbeats 400000 in
theorem expect_any (w:World) (b:Nat) (t:ByteArray) (s:S1) (nv sv:Value) (c:Int) (h:Rd1 w b t s nv sv)
  (ht:t.size≤60) (hk:s.k≤t.size) :
  Calls Tryz.prog 164 #[.pointer (some ⟨b,0,none⟩),.int .i64 c] w fun e w' =>
   e=.returned (.tuple #[])∧Post1 w w' b t (expectS t c s) nv sv:=by
 have HP:=hide (take_any w b t s nv sv c h ht hk)
 by_cases hc:s.pk t=c
 ·have hb:(s.pk t == c)=true:=by simp [hc]
  have HC:=hide hc
  clear hc
  go_enter Tryz.func164,Tryz.ntmps164
  go_wp2_with (go_at_call 104;refine (unhide HP).mono ?_;rintro e w1 ⟨rfl,hw1⟩)
  go_end0
  refine ⟨rfl,?_⟩
  have e1:takeS t c s=expectS t c s:=by simp [takeS,expectS,unhide HC]
  rw [e1] at hw1
  exact hw1
 ·have hb:(s.pk t == c)=false:=by simp [hc]
  have e1:takeS t c s=s:=by simp [takeS,hc]
  have e2:expectS t c s=⟨s.k,true⟩:=by simp [expectS,hc]
  rw [e1] at HP
  rw [e2]
  clear e1 e2 hc
  go_enter Tryz.func164,Tryz.ntmps164
  go_wp2_with fail
  refine (unhide HP).mono ?_
  rintro e w1 ⟨rfl,hw1⟩
  obtain ⟨c0,c1,c2,-,-⟩:=hw1.2.cells
  obtain ⟨f1,f2,-,-⟩:=hw1.2.unfrozen
  go_wp2
  go_end0
  exact ⟨rfl,hw1.mark⟩
set_option maxHeartbeats 400000 in
theorem readDigit_any (w:World) (b:Nat) (t:ByteArray) (s:S1) (nv sv:Value) (c:Int) (h:Rd1 w b t s nv sv)
  (ht:t.size≤60) (hk:s.k≤t.size) :
  Calls Tryz.prog 170 #[.pointer (some ⟨b,0,none⟩),.int .i64 c] w fun e w' =>
   e=.returned (.int .i64 (readDigitS t c s).1)∧Post1 w w' b t (readDigitS t c s).2 nv sv:=by
 obtain ⟨c0,c1,c2,-,-⟩:=h.cells
 obtain ⟨f1,f2,-,-⟩:=h.unfrozen
 have HP:=hide (peek_any w b t s nv sv h ht hk)
 have hbd:=S1.pk_bd t s
 have HD:=hide (fun w=>digit_any (s.pk t) w hbd.1 hbd.2)
 by_cases hc:digitOk t c s=true
 ·have e1:readDigitS t c s=(digitI (s.pk t),⟨s.k+1,s.bad⟩):=by simp [readDigitS,hc]
  rw [e1]
  have hd:=digitOk_pos hc
  have g1:0≤digitI (s.pk t):=hd.2.1
  have g2:digitI (s.pk t) < c:=hd.2.2
  clear e1 hc hd hbd
  generalize digitI (s.pk t)=d at *
  go_enter Tryz.func170,Tryz.ntmps170
  go_wp2_with (first
   | (go_at_call 146;refine (unhide HP).mono ?_;rintro e w' ⟨rfl,n,rfl⟩)
   | (go_at_call 175;refine (unhide HD _).mono ?_;rintro e w' ⟨rfl,rfl⟩))
  go_ret
  exact ⟨rfl,((Post1.refl h).drewN n).step⟩
 ·have e1:readDigitS t c s=(0,⟨s.k,true⟩):=by simp [readDigitS,hc]
  rw [e1]
  have g1:digitI (s.pk t) < 0∨c≤digitI (s.pk t):=by simp [digitOk] at hc;omega
  clear e1 hc hbd
  generalize digitI (s.pk t)=d at *
  rcases g1 with g1 | g1
  ·go_enter Tryz.func170,Tryz.ntmps170
   go_wp2_with (first
    | (go_at_call 146;refine (unhide HP).mono ?_;rintro e w' ⟨rfl,n,rfl⟩)
    | (go_at_call 175;refine (unhide HD _).mono ?_;rintro e w' ⟨rfl,rfl⟩))
   go_ret
   exact ⟨rfl,((Post1.refl h).drewN n).mark⟩
  ·by_cases g0:d < 0
   all_goals
    go_enter Tryz.func170,Tryz.ntmps170
    go_wp2_with (first
     | (go_at_call 146;refine (unhide HP).mono ?_;rintro e w' ⟨rfl,n,rfl⟩)
     | (go_at_call 175;refine (unhide HD _).mono ?_;rintro e w' ⟨rfl,rfl⟩))
    go_ret
    exact ⟨rfl,((Post1.refl h).drewN n).mark⟩
set_option maxHeartbeats 400000 in
theorem atAtom_any (w:World) (b:Nat) (t:ByteArray) (s:S1) (nv sv:Value) (h:Rd1 w b t s nv sv)
  (ht:t.size≤60) (hk:s.k≤t.size) :
  Calls Tryz.prog 144 #[.pointer (some ⟨b,0,none⟩)] w fun e w' =>
   e=.returned (.bool (atAtomB (s.pk t)))∧∃ n,w'=w.drewN n:=by
 have HP:=hide (peek_any w b t s nv sv h ht hk)
 clear h hk ht
 generalize s.pk t=x at *
 go_enter Tryz.func144,Tryz.ntmps144
 go_wp2_with (first
  | (go_at_call 146;refine (unhide HP).mono ?_;rintro e w' ⟨rfl,n,rfl⟩)
  | (go_at_call 157;refine (isPlain_any _ _).mono ?_;rintro e w' ⟨rfl,rfl⟩))
 all_goals
  go_ret
  exact ⟨ret_bool (by simp_all [atAtomB]),_,rfl⟩
set_option maxHeartbeats 400000 in
theorem atSuffix_any (w:World) (b:Nat) (t:ByteArray) (s:S1) (nv sv:Value) (h:Rd1 w b t s nv sv)
  (ht:t.size≤60) (hk:s.k≤t.size) :
  Calls Tryz.prog 159 #[.pointer (some ⟨b,0,none⟩)] w fun e w' =>
   e=.returned (.bool (atSuffixB (s.pk t)))∧∃ n,w'=w.drewN n:=by
 have HP:=hide (peek_any w b t s nv sv h ht hk)
 clear h hk ht
 generalize s.pk t=x at *
 go_enter Tryz.func159,Tryz.ntmps159
 go_wp2_with (go_at_call 146;refine (unhide HP).mono ?_;rintro e w' ⟨rfl,n,rfl⟩)
 all_goals
  go_ret
  exact ⟨ret_bool (by simp_all [atSuffixB]),_,rfl⟩
end Go.Proofs.YtobfpgoepaeknaaGreat
namespace Go.Proofs.YtobfpgoepaeknaaGreat
open Go.RowKit
set_option maxHeartbeats 400000 in
theorem readEscape_any (w:World) (b:Nat) (t:ByteArray) (s:S1) (nv sv:Value) (h:Rd1 w b t s nv sv)
  (ht:t.size≤60) (hk:s.k≤t.size) :
  Calls Tryz.prog 174 #[.pointer (some ⟨b,0,none⟩)] w fun e w' =>
   e=.returned (.int .i64 (readEscapeS t s).1)∧Post1 w w' b t (readEscapeS t s).2 nv sv:=by
 have HE:=hide (expect_any w b t s nv sv 92 h ht hk)
 have hk1:=expectS_le (t:=t) (c:=92) (s:=s) (by omega) hk
 by_cases hc:mayBeEscapedB ((expectS t 92 s).pk t)=true
 ·have e1:readEscapeS t s=((expectS t 92 s).pk t,⟨(expectS t 92 s).k+1,(expectS t 92 s).bad⟩):=by simp [readEscapeS,hc]
  rw [e1]
  clear e1
  generalize expectS t 92 s=s1 at *
  go_enter Tryz.func174,Tryz.ntmps174
  go_wp2_with fail
  refine (unhide HE).mono ?_
  rintro e w1 ⟨rfl,hw1⟩
  have HP:=hide (peek_any w1 b t s1 nv sv hw1.2 ht hk1)
  obtain ⟨c0,c1,c2,-,-⟩:=hw1.2.cells
  obtain ⟨f1,f2,-,-⟩:=hw1.2.unfrozen
  go_wp2_with fail
  refine (unhide HP).mono ?_
  rintro e w2 ⟨rfl,n,rfl⟩
  go_wp2_with (go_at_call 177;refine (mayBeEscaped_any _ _).mono ?_;rintro e w' ⟨rfl,rfl⟩)
  go_ret
  exact ⟨rfl,(hw1.drewN n).step⟩
 ·have hc':mayBeEscapedB ((expectS t 92 s).pk t)=false:=by simpa using hc
  have e1:readEscapeS t s=(16 * (readDigitS t 16 (expectS t 92 s)).1+(readDigitS t 16 (readDigitS t 16 (expectS t 92 s)).2).1,(readDigitS t 16 (readDigitS t 16 (expectS t 92 s)).2).2):=by
   simp [readEscapeS,hc]
  rw [e1]
  clear e1 hc
  generalize expectS t 92 s=s1 at *
  go_enter Tryz.func174,Tryz.ntmps174
  go_wp2_with fail
  refine (unhide HE).mono ?_
  rintro e w1 ⟨rfl,hw1⟩
  have HP:=hide (peek_any w1 b t s1 nv sv hw1.2 ht hk1)
  go_wp2_with fail
  refine (unhide HP).mono ?_
  rintro e w2 ⟨rfl,n,rfl⟩
  go_wp2_with (go_at_call 177;refine (mayBeEscaped_any _ _).mono ?_;rintro e w' ⟨rfl,rfl⟩)
  refine (readDigit_any _ b t s1 nv sv 16 (hw1.drewN n).2 ht hk1).mono ?_
  rintro e w3 ⟨rfl,hw3⟩
  have hk2:=readDigitS_le (t:=t) (c:=16) (s:=s1) hk1
  have hb2:=readDigitS_bd t 16 s1 (by omega)
  generalize hr2:readDigitS t 16 s1=r2 at *
  obtain ⟨d2,s2⟩:=r2
  have Hr2:=hide hr2
  clear hr2
  simp only at hk2 hw3 hb2
  go_wp2_with fail
  refine (readDigit_any _ b t s2 nv sv 16 hw3.2 ht hk2).mono ?_
  rintro e w4 ⟨rfl,hw4⟩
  have hb4:=readDigitS_bd t 16 s2 (by omega)
  generalize hr4:readDigitS t 16 s2=r4 at *
  obtain ⟨d4,s4⟩:=r4
  have Hr4:=hide hr4
  clear hr4
  simp only at hw4 hb4
  go_wp2
  go_ret
  rw [unhide Hr2,unhide Hr4]
  exact ⟨rfl,((hw1.drewN n).trans hw3).trans hw4⟩
set_option maxHeartbeats 400000 in
theorem readByte_any (w:World) (b:Nat) (t:ByteArray) (s:S1) (nv sv:Value) (h:Rd1 w b t s nv sv)
  (ht:t.size≤60) (hk:s.k≤t.size) :
  Calls Tryz.prog 168 #[.pointer (some ⟨b,0,none⟩)] w fun e w' =>
   e=.returned (.int .i64 (readByteS t s).1)∧Post1 w w' b t (readByteS t s).2 nv sv:=by
 have HP:=hide (peek_any w b t s nv sv h ht hk)
 have HE:=hide (fun n=>readEscape_any (w.drewN n) b t s nv sv ((Post1.refl h).drewN n).2 ht hk)
 obtain ⟨c0,c1,c2,-,-⟩:=h.cells
 obtain ⟨f1,f2,-,-⟩:=h.unfrozen
 by_cases hc:(s.pk t == 92)=true
 ·have e1:readByteS t s=readEscapeS t s:=by simp only [readByteS,hc,if_true]
  rw [e1]
  clear e1
  go_enter Tryz.func168,Tryz.ntmps168
  go_wp2_with fail
  refine (unhide HP).mono ?_
  rintro e w2 ⟨rfl,n,rfl⟩
  go_wp2_with fail
  refine (unhide HE n).mono ?_
  rintro e w3 ⟨rfl,hw3⟩
  go_wp2
  go_ret
  exact ⟨rfl,((Post1.refl h).drewN n).trans hw3⟩
 ·have hc':(s.pk t == 92)=false:=by simpa using hc
  by_cases hd:isPlainB (s.pk t)=true
  ·have e1:readByteS t s=(s.pk t,⟨s.k+1,s.bad⟩):=by simp only [readByteS,hc',hd];rfl
   rw [e1]
   clear e1 hc
   go_enter Tryz.func168,Tryz.ntmps168
   go_wp2_with fail
   refine (unhide HP).mono ?_
   rintro e w2 ⟨rfl,n,rfl⟩
   go_wp2_with (go_at_call 157;refine (isPlain_any _ _).mono ?_;rintro e w' ⟨rfl,rfl⟩)
   go_ret
   exact ⟨rfl,((Post1.refl h).drewN n).step⟩
  ·have hd':isPlainB (s.pk t)=false:=by simpa using hd
   have e1:readByteS t s=(0,⟨s.k,true⟩):=by simp only [readByteS,hc',hd'];rfl
   rw [e1]
   clear e1 hc hd
   go_enter Tryz.func168,Tryz.ntmps168
   go_wp2_with fail
   refine (unhide HP).mono ?_
   rintro e w2 ⟨rfl,n,rfl⟩
   go_wp2_with (go_at_call 157;refine (isPlain_any _ _).mono ?_;rintro e w' ⟨rfl,rfl⟩)
   go_ret
   exact ⟨rfl,((Post1.refl h).drewN n).mark⟩
set_option maxHeartbeats 400000 in
theorem readSetByte_any (w:World) (b:Nat) (t:ByteArray) (s:S1) (nv sv:Value) (h:Rd1 w b t s nv sv)
  (ht:t.size≤60) (hk:s.k≤t.size) :
  Calls Tryz.prog 176 #[.pointer (some ⟨b,0,none⟩)] w fun e w' =>
   e=.returned (.int .i64 (readSetByteS t s).1)∧Post1 w w' b t (readSetByteS t s).2 nv sv:=by
 have HP:=hide (peek_any w b t s nv sv h ht hk)
 have HE:=hide (fun n=>readEscape_any (w.drewN n) b t s nv sv ((Post1.refl h).drewN n).2 ht hk)
 obtain ⟨c0,c1,c2,-,-⟩:=h.cells
 obtain ⟨f1,f2,-,-⟩:=h.unfrozen
 by_cases hc:(s.pk t == 92)=true
 ·have e1:readSetByteS t s=readEscapeS t s:=by simp only [readSetByteS,hc,if_true]
  rw [e1]
  clear e1
  go_enter Tryz.func176,Tryz.ntmps176
  go_wp2_with fail
  refine (unhide HP).mono ?_
  rintro e w2 ⟨rfl,n,rfl⟩
  go_wp2_with fail
  refine (unhide HE n).mono ?_
  rintro e w3 ⟨rfl,hw3⟩
  go_wp2
  go_ret
  exact ⟨rfl,((Post1.refl h).drewN n).trans hw3⟩
 ·have hc':(s.pk t == 92)=false:=by simpa using hc
  by_cases hd:isPlainInSetB (s.pk t)=true
  ·have e1:readSetByteS t s=(s.pk t,⟨s.k+1,s.bad⟩):=by simp only [readSetByteS,hc',hd];rfl
   rw [e1]
   clear e1 hc
   go_enter Tryz.func176,Tryz.ntmps176
   go_wp2_with fail
   refine (unhide HP).mono ?_
   rintro e w2 ⟨rfl,n,rfl⟩
   go_wp2_with (go_at_call 178;refine (isPlainInSet_any _ _).mono ?_;rintro e w' ⟨rfl,rfl⟩)
   go_ret
   exact ⟨rfl,((Post1.refl h).drewN n).step⟩
  ·have hd':isPlainInSetB (s.pk t)=false:=by simpa using hd
   have e1:readSetByteS t s=(0,⟨s.k,true⟩):=by simp only [readSetByteS,hc',hd'];rfl
   rw [e1]
   clear e1 hc hd
   go_enter Tryz.func176,Tryz.ntmps176
   go_wp2_with fail
   refine (unhide HP).mono ?_
   rintro e w2 ⟨rfl,n,rfl⟩
   go_wp2_with (go_at_call 178;refine (isPlainInSet_any _ _).mono ?_;rintro e w' ⟨rfl,rfl⟩)
   go_ret
   exact ⟨rfl,((Post1.refl h).drewN n).mark⟩
end Go.Proofs.YtobfpgoepaeknaaGreat
