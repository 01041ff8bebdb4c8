/-
  Plain mathematics: atoms that are put together: escapes, sets, plain bytes.
  The small functions of the statements without the document's answer; Match of a text that is put together.
-/
import Derived.Test.YtobfpgoepaeknaaGreatM23
import Derived.Test.YtobfpgoepaeknaaGreatM22
import Derived.Deep.QuietTactic
import Derived.BigQuiet
namespace Go.Proofs.YtobfpgoepaeknaaGreat
def hexd (k:Nat):Nat:=if k < 10 then 48+k else 87+k
def escN (b:Nat):List Nat:=[92,hexd (b / 16),hexd (b % 16)]
theorem hexd_facts:∀ k,k < 16→hexB (hexd k:Int)=true∧mayBeEscapedB (hexd k:Int)=false∧digitI (hexd k:Int)=(k:Int):=by decide
def Gy (x:List Nat) (v:Int):Prop:=Lead x∧(∀ c y,x=c ::y→c≠93∧c≠45∧c≠94)∧∀ t A,AtW t A x→SB t A (A+x.length)∧sbV t A=v∧∀ s:Sc,8≤s.mode→∃ bk,Go' t A s (A+x.length) ⟨toS s,s.depth,bk⟩
theorem esc_sb {t:ByteArray} {A b:Nat} (hb:b < 256) (h:AtW t A (escN b)):SB t A (A+3)∧sbV t A=(b:Int)∧byteAt t A=92∧∀ x d bk,goesS x 92=(true,⟨2,d,bk⟩)→Go' t A x (A+3) ⟨bk,d,bk⟩:=by
 obtain ⟨b0,l0,a1⟩:=h.head
 obtain ⟨b1,l1,a2⟩:=a1.head
 obtain ⟨b2,l2,_⟩:=a2.head
 obtain ⟨p1,p2,p3⟩:=hexd_facts (b / 16) (by omega)
 obtain ⟨q1,q2,q3⟩:=hexd_facts (b % 16) (by omega)
 have b0':byteAt t A=92:=b0
 refine ⟨Or.inr (Or.inl ⟨b0',by rw [b1];exact p2,l2,by rw [b1];exact p1,by rw [show A+2=A+1+1 from rfl,b2];exact q1,rfl⟩),?_,b0',fun x d bk hg=>?_⟩
 ·unfold sbV
  rw [if_pos b0',b1,if_neg (by rw [p2];simp),show A+2=A+1+1 from rfl,b2,p3,q3]
  omega
 ·have g0:Go' t A x (A+1) ⟨2,d,bk⟩:=Go'.step (by rw [b0'];exact hg)
  have g1:Go' t (A+1) ⟨2,d,bk⟩ (A+1+1) ⟨3,d,bk⟩:=Go'.step (by rw [b1,goes2 rfl,p1,p2];rfl)
  have g2:Go' t (A+1+1) ⟨3,d,bk⟩ (A+1+1+1) ⟨bk,d,bk⟩:=Go'.step (by rw [b2,goes3 rfl,q1])
  exact (g0.trans g1).trans g2
theorem Gy.esc {b:Nat} (hb:b < 256):Gy (escN b) (b:Int):=by
 refine ⟨⟨92,_,rfl,by decide⟩,fun c y h=>by simp [escN] at h;omega,fun t A h=>?_⟩
 obtain ⟨s1,s2,s3,s4⟩:=esc_sb hb h
 exact ⟨s1,s2,fun s hs=>⟨toS s,s4 s _ _ (in_92 hs)⟩⟩
theorem Gy.plain {c:Nat} (hc:isPlainInSetB (c:Int)=true) (hs:atSuffixB (c:Int)=false):Gy [c] (c:Int):=by
 have hc':=hc
 simp only [isPlainInSetB,Bool.and_eq_true,Bool.not_eq_true',Bool.or_eq_false_iff,beq_eq_false_iff_ne,decide_eq_true_eq] at hc'
 refine ⟨⟨c,[],rfl,hs⟩,fun c' y h=>by simp at h;omega,fun t A h=>?_⟩
 obtain ⟨b0,l0,_⟩:=h.head
 refine ⟨Or.inr (Or.inr ⟨by rw [b0];omega,by rw [b0];omega,l0,rfl⟩),by unfold sbV;rw [if_neg (by rw [b0];omega),b0],fun s hs=>⟨s.back,Go'.step (by rw [b0];exact in_plain hs hc)⟩⟩
def Gm (x:List Nat) (G:(Nat→Bool)→Nat→Bool):Prop:=(∃ c y,x=c ::y∧c≠94∧c≠45)∧∀ t A,AtW t A (x++[93]) →
 Items t A (A+x.length)∧ItemsV t A (A+x.length) G∧∀ md d bk,(md=8∨md=9∨md=10∨md=12)→∃ md' bk',(md'=10∨md'=12)∧Go' t A ⟨md,d,bk⟩ (A+x.length) ⟨md',d,bk'⟩
theorem Gy.first {x:List Nat} {v:Int} (h:Gy x v) (y:List Nat):∃ c z,x++y=c ::z∧c≠94∧c≠45:=by
 obtain ⟨c,z,rfl,_⟩:=h.1
 exact ⟨c,z++y,rfl,(h.2.1 c z rfl).2.2,(h.2.1 c z rfl).2.1⟩
theorem toS_ten {md d bk:Int} (h:md=8∨md=9∨md=10∨md=12):toS ⟨md,d,bk⟩=10:=by
 unfold toS;rw [if_neg];simp;omega
theorem Gm.one {x:List Nat} {v:Int} (h:Gy x v):Gm x (fun f=>addR f v v):=by
 refine ⟨by have:=h.first [];rw [List.append_nil] at this;exact this,fun t A ha=>?_⟩
 obtain ⟨ax,ac⟩:=ha.app
 obtain ⟨b0,l0,_⟩:=ac.head
 obtain ⟨s1,s2,s3⟩:=h.2.2 t A ax
 refine ⟨Items.one s1 (by rw [b0];decide) (Items.none l0 b0),?_,fun md d bk hm=>?_⟩
 ·have:=ItemsV.one s1 (by rw [b0];decide) (ItemsV.none l0 b0)
  rw [s2] at this;exact this
 ·obtain ⟨bk',g⟩:=s3 ⟨md,d,bk⟩ (by simp only;omega)
  rw [toS_ten hm] at g
  exact ⟨10,bk',Or.inl rfl,g⟩
theorem Gm.two {x y:List Nat} {v u:Int} (h:Gy x v) (k:Gy y u):Gm (x++45 ::y) (fun f=>addR f v u):=by
 refine ⟨h.first _,fun t A ha=>?_⟩
 rw [List.append_assoc] at ha
 obtain ⟨ax,ay⟩:=ha.app
 obtain ⟨b0,l0,a1⟩:=ay.head
 obtain ⟨a2,ac⟩:=AtW.app (x:=y) (y:=[93]) a1
 obtain ⟨b1,l1,_⟩:=ac.head
 obtain ⟨s1,s2,s3⟩:=h.2.2 t A ax
 obtain ⟨r1,r2,r3⟩:=k.2.2 t _ a2
 have e:A+(x++45 ::y).length=A+x.length+1+y.length:=by simp;omega
 rw [e]
 refine ⟨Items.two s1 b0 r1 (Items.none l1 b1),?_,fun md d bk hm=>?_⟩
 ·have:=ItemsV.two s1 b0 r1 (ItemsV.none l1 b1)
  rw [s2,r2] at this;exact this
 ·obtain ⟨bk',g⟩:=s3 ⟨md,d,bk⟩ (by simp only;omega)
  rw [toS_ten hm] at g
  have g1:Go' t (A+x.length) ⟨10,d,bk'⟩ (A+x.length+1) ⟨11,d,bk'⟩:=Go'.step (by rw [b0];rfl)
  obtain ⟨bk2,g2⟩:=r3 ⟨11,d,bk'⟩ (by simp only;omega)
  exact ⟨12,bk2,Or.inr rfl,(g.trans g1).trans g2⟩
theorem Gm.cons {x y:List Nat} {v:Int} {G:(Nat→Bool)→Nat→Bool} (h:Gy x v) (k:Gm y G):Gm (x++y) (fun f=>G (addR f v v)):=by
 refine ⟨h.first _,fun t A ha=>?_⟩
 rw [List.append_assoc] at ha
 obtain ⟨ax,ay⟩:=ha.app
 obtain ⟨s1,s2,s3⟩:=h.2.2 t A ax
 obtain ⟨i1,i2,i3⟩:=k.2 t _ ay
 obtain ⟨c,z,rfl,_,h45⟩:=k.1
 have b0:=ay.head.1
 rw [List.length_append,←Nat.add_assoc]
 refine ⟨Items.one s1 (by rw [b0];omega) i1,?_,fun md d bk hm=>?_⟩
 ·have:=ItemsV.one s1 (by rw [b0];omega) i2
  rw [s2] at this;exact this
 ·obtain ⟨bk',g⟩:=s3 ⟨md,d,bk⟩ (by simp only;omega)
  rw [toS_ten hm] at g
  obtain ⟨md2,bk2,hm2,g2⟩:=i3 10 d bk' (Or.inr (Or.inr (Or.inl rfl)))
  exact ⟨md2,bk2,hm2,g.trans g2⟩
theorem step_set {t:ByteArray} {A E:Nat} (h91:byteAt t A=91) (it:Items t (A+1) E):StepT t A (E+1):=by
 have h1':=it.1
 intro a b h1 h2 h3 f hf
 have hs:=size_ext (a:=a) h3
 obtain ⟨f,rfl⟩:∃ f',f=f'+1:=⟨f - 1,by omega⟩
 rw [ovF,if_pos (by omega),byteAt_win h3 h1 (by omega),if_neg (by simp [h91]),if_pos (by simp [h91]),show A - a+1=A+1 - a from by omega]
 exact (it.2.2 a b (by omega) (by omega) h3).1 f (by omega)
theorem step_not {t:ByteArray} {A E:Nat} (h91:byteAt t A=91) (h94:byteAt t (A+1)=94) (it:Items t (A+2) E):StepT t A (E+1):=by
 have h1':=it.1
 intro a b h1 h2 h3 f hf
 have hs:=size_ext (a:=a) h3
 obtain ⟨f,rfl⟩:∃ f',f=f'+2:=⟨f - 2,by omega⟩
 rw [ovF,if_pos (by omega),byteAt_win h3 h1 (by omega),if_neg (by simp [h91]),if_pos (by simp [h91]),show A - a+1=A+1 - a from by omega]
 rw [ovF,if_pos (by omega),byteAt_win h3 (by omega) (by omega),if_neg (by simp [h94]),if_neg (by simp [h94]),show A+1 - a+1=A+2 - a from by omega]
 exact (it.2.2 a b (by omega) (by omega) h3).1 f (by omega)
theorem Ga.leaf {x:List Nat} {f:Nat→Bool} (hl:Lead x) (h:∀ t A,t.size≤60→AtW t A x→StepT t A (A+x.length)∧byteAt t A≠40∧noBar (byteAt t A)=true∧leafS (t.extract A (A+x.length))=some ⟨2,0,0,0,0,f⟩∧ScanA t A (A+x.length)):Ga x (Re.set f).val:=by
 refine ⟨hl,fun t A h60 ha=>?_⟩
 obtain ⟨h1,h2,h3,h4,h5⟩:=h t A h60 ha
 obtain ⟨c,z,rfl,_⟩:=hl
 exact ⟨atoV_leaf h1 (by simp) (by have:=ha.1;omega) h2 h3 h4,h5⟩
theorem Ga.esc {b:Nat} (hb:b < 256):Ga (escN b) (Re.set (addR noSet (b:Int) (b:Int))).val:=by
 refine Ga.leaf ⟨92,_,rfl,by decide⟩ fun t A h60 ha=>?_
 obtain ⟨s1,s2,s3,s4⟩:=esc_sb hb ha
 have hB:A+3≤t.size:=ha.1
 refine ⟨step_escape s1 s3,by rw [s3];decide,by rw [s3];decide,?_,fun m d bk hm hd=>⟨1,s4 _ _ _ (by rw [goes_out hm];rfl)⟩⟩
 show leafS (t.extract A (A+3))=_
 have hs:=size_ext (t:=t) (a:=A) hB
 have b0:byteAt (t.extract A (A+3)) 0=92:=by rw [byteAt_ext hB (by omega),Nat.add_zero];exact s3
 have hv:=s1.val (Nat.le_refl _) (Nat.le_refl _) hB
 rw [Nat.sub_self,s2] at hv
 unfold leafS
 rw [if_pos (by omega),b0,if_neg (by decide),if_neg (by decide),hv]
 rfl
theorem Ga.mark {c:Nat} (hc:mayBeEscapedB (c:Int)=true):Ga [92,c] (Re.set (addR noSet (c:Int) (c:Int))).val:=by
 refine Ga.leaf ⟨92,_,rfl,by decide⟩ fun t A h60 ha=>?_
 obtain ⟨b0,l0,a1⟩:=ha.head
 obtain ⟨b1,l1,_⟩:=a1.head
 have s3:byteAt t A=92:=b0
 have hB:A+2≤t.size:=ha.1
 have s1:SB t A (A+2):=Or.inl ⟨s3,l1,by rw [b1];exact hc,rfl⟩
 have s2:sbV t A=(c:Int):=by unfold sbV;rw [if_pos s3,b1,if_pos hc]
 refine ⟨step_escape s1 s3,by rw [s3];decide,by rw [s3];decide,?_,fun m d bk hm hd=>⟨1,?_⟩⟩
 ·show leafS (t.extract A (A+2))=_
  have hs:=size_ext (t:=t) (a:=A) hB
  have b0:byteAt (t.extract A (A+2)) 0=92:=by rw [byteAt_ext hB (by omega),Nat.add_zero];exact s3
  have hv:=s1.val (Nat.le_refl _) (Nat.le_refl _) hB
  rw [Nat.sub_self,s2] at hv
  unfold leafS
  rw [if_pos (by omega),b0,if_neg (by decide),if_neg (by decide),hv]
  rfl
 ·have g0:Go' t A ⟨m,d,bk⟩ (A+1) ⟨2,d,1⟩:=Go'.step (by rw [s3,goes_out hm];rfl)
  have g1:Go' t (A+1) ⟨2,d,1⟩ (A+1+1) ⟨1,d,1⟩:=Go'.step (by rw [b1,goes2 rfl,hc];rfl)
  exact g0.trans g1
theorem Ga.plain {c:Nat} (hc:isPlainB (c:Int)=true):Ga [c] (Re.set (addR noSet (c:Int) (c:Int))).val:=by
 have hc':=hc
 simp only [isPlainB,isMarkB,Bool.and_eq_true,Bool.not_eq_true',Bool.or_eq_false_iff,beq_eq_false_iff_ne,decide_eq_true_eq] at hc'
 refine Ga.leaf ⟨c,[],rfl,by unfold atSuffixB;simp;omega⟩ fun t A h60 ha=>?_
 obtain ⟨b0,l0,_⟩:=ha.head
 have hB:A+1≤t.size:=ha.1
 have s1:SB t A (A+1):=Or.inr (Or.inr ⟨by rw [b0];omega,by rw [b0];omega,l0,rfl⟩)
 have s2:sbV t A=(c:Int):=by unfold sbV;rw [if_neg (by rw [b0];omega),b0]
 refine ⟨step_one l0 (by rw [b0];omega) (by rw [b0];omega) (by rw [b0];omega),by rw [b0];omega,by rw [b0];simp only [noBar,Bool.and_eq_true,Bool.not_eq_true',beq_eq_false_iff_ne];omega,?_,fun m d bk hm hd=>⟨bk,Go'.step (by rw [b0];exact out_plain hm (Or.inl hc))⟩⟩
 show leafS (t.extract A (A+1))=_
 have hs:=size_ext (t:=t) (a:=A) hB
 have b0':byteAt (t.extract A (A+1)) 0=(c:Int):=by rw [byteAt_ext hB (by omega),Nat.add_zero];exact b0
 have hv:=s1.val (Nat.le_refl _) (Nat.le_refl _) hB
 rw [Nat.sub_self,s2] at hv
 unfold leafS
 rw [if_pos (by omega),b0',if_neg (by simp;omega),if_neg (by simp;omega),hv]
 rfl
theorem Ga.dot:Ga [46] (Re.set fun _=>true).val:=by
 refine Ga.leaf ⟨46,[],rfl,by decide⟩ fun t A h60 ha=>?_
 obtain ⟨b0,l0,_⟩:=ha.head
 have b0:byteAt t A=46:=b0
 have hB:A+1≤t.size:=ha.1
 refine ⟨step_one l0 (by rw [b0];decide) (by rw [b0];decide) (by rw [b0];decide),by rw [b0];decide,by rw [b0];decide,?_,fun m d bk hm hd=>⟨bk,Go'.step (by rw [b0];exact out_plain hm (Or.inr rfl))⟩⟩
 show leafS (t.extract A (A+1))=_
 have hs:=size_ext (t:=t) (a:=A) hB
 have b0':byteAt (t.extract A (A+1)) 0=46:=by rw [byteAt_ext hB (by omega),Nat.add_zero];exact b0
 unfold leafS
 rw [if_pos (by omega),b0',if_pos (by decide)]
theorem goes_91 {m d bk:Int} (h:m=0∨m=1):goesS ⟨m,d,bk⟩ 91=(true,⟨8,d,bk⟩):=by rw [goes_out h];rfl
theorem goes_93 {m d bk:Int} (h:m=10∨m=12):goesS ⟨m,d,bk⟩ 93=(true,⟨1,d,bk⟩):=by
 rcases h with rfl | rfl<;>rfl
theorem Ga.set {x:List Nat} {G:(Nat→Bool)→Nat→Bool} (h:Gm x G):Ga (91 ::(x++[93])) (Re.set (G noSet)).val:=by
 refine Ga.leaf ⟨91,_,rfl,by decide⟩ fun t A h60 ha=>?_
 obtain ⟨b0,l0,a1⟩:=ha.head
 have b0:byteAt t A=91:=b0
 obtain ⟨i1,i2,i3⟩:=h.2 t _ a1
 obtain ⟨ax,ac⟩:=a1.app
 obtain ⟨b1,l1,_⟩:=ac.head
 obtain ⟨c,z,rfl,h94,_⟩:=h.1
 have c1:byteAt t (A+1)=(c:Int):=ax.head.1
 have e:A+(91 ::(c ::z++[93])).length=A+1+(c ::z).length+1:=by simp;omega
 rw [e]
 refine ⟨step_set b0 i1,by rw [b0];decide,by rw [b0];decide,?_,fun m d bk hm hd=>?_⟩
 ·have hB:A+1+(c ::z).length+1≤t.size:=l1
  have hs:=size_ext (t:=t) (a:=A) hB
  have b0':byteAt (t.extract A (A+1+(c ::z).length+1)) 0=91:=by rw [byteAt_ext hB (by omega),Nat.add_zero];exact b0
  have b1':byteAt (t.extract A (A+1+(c ::z).length+1)) 1=(c:Int):=by rw [byteAt_ext hB (by simp;omega)];exact c1
  have hi:=i2.2.2 A (A+1+(c ::z).length+1) (by omega) (by omega) hB 61 (by omega) noSet
  rw [show A+1 - A=1 from by omega] at hi
  unfold leafS
  rw [if_pos (by omega),b0',if_neg (by decide),if_pos (by decide),if_pos (by omega),b1',if_neg (by simp;omega),hi]
  rfl
 ·have g0:Go' t A ⟨m,d,bk⟩ (A+1) ⟨8,d,bk⟩:=Go'.step (by rw [b0];exact goes_91 hm)
  obtain ⟨md',bk',hm',g1⟩:=i3 8 d bk (Or.inl rfl)
  exact ⟨bk',(g0.trans g1).trans (Go'.step (by rw [b1];exact goes_93 hm'))⟩
theorem Ga.not {x:List Nat} {G:(Nat→Bool)→Nat→Bool} (h:Gm x G):Ga (91 ::94 ::(x++[93])) (Re.set fun j=>!G noSet j).val:=by
 refine Ga.leaf ⟨91,_,rfl,by decide⟩ fun t A h60 ha=>?_
 obtain ⟨b0,l0,a1⟩:=ha.head
 have b0:byteAt t A=91:=b0
 obtain ⟨c1,l2,a2⟩:=a1.head
 have c1:byteAt t (A+1)=94:=c1
 obtain ⟨i1,i2,i3⟩:=h.2 t _ a2
 obtain ⟨ax,ac⟩:=a2.app
 obtain ⟨b1,l1,_⟩:=ac.head
 have e:A+(91 ::94 ::(x++[93])).length=A+1+1+x.length+1:=by simp;omega
 rw [e]
 refine ⟨step_not b0 c1 i1,by rw [b0];decide,by rw [b0];decide,?_,fun m d bk hm hd=>?_⟩
 ·have hB:A+1+1+x.length+1≤t.size:=l1
  have hs:=size_ext (t:=t) (a:=A) hB
  have b0':byteAt (t.extract A (A+1+1+x.length+1)) 0=91:=by rw [byteAt_ext hB (by omega),Nat.add_zero];exact b0
  have b1':byteAt (t.extract A (A+1+1+x.length+1)) 1=94:=by rw [byteAt_ext hB (by omega)];exact c1
  have hi:=i2.2.2 A (A+1+1+x.length+1) (by omega) (by omega) hB 61 (by omega) noSet
  rw [show A+1+1 - A=2 from by omega] at hi
  unfold leafS
  rw [if_pos (by omega),b0',if_neg (by decide),if_pos (by decide),if_pos (by omega),b1',if_pos (by decide),hi]
  rfl
 ·have g0:Go' t A ⟨m,d,bk⟩ (A+1) ⟨8,d,bk⟩:=Go'.step (by rw [b0];exact goes_91 hm)
  have g0':Go' t (A+1) ⟨8,d,bk⟩ (A+1+1) ⟨9,d,bk⟩:=Go'.step (by rw [c1];rfl)
  obtain ⟨md',bk',hm',g1⟩:=i3 9 d bk (Or.inr (Or.inl rfl))
  exact ⟨bk',((g0.trans g0').trans g1).trans (Go'.step (by rw [b1];exact goes_93 hm'))⟩
end Go.Proofs.YtobfpgoepaeknaaGreat
namespace Go.Proofs.YtobfpgoepaeknaaGreat
open Go.RowKit
attribute [local go_sem ↓] Go.wp_at_zero Go.wp_at_succ
theorem bytesN_app (a b:ByteArray):bytesN (a++b)=bytesN a++bytesN b:=by simp [bytesN]
theorem atW_all (p:ByteArray):AtW p 0 (bytesN p):=by
 refine ⟨by rw [bytesN_len];omega,fun i c hi=>?_⟩
 have hl:=(List.getElem?_eq_some_iff.1 hi).1
 have hl':i < p.size:=by rw [bytesN_len] at hl;exact hl
 rw [Nat.zero_add,byteAt_eq hl',←bytesN_at p i hl' hl]
 rw [List.getElem?_eq_getElem hl] at hi
 rw [Option.some.inj hi]
def digitsB:ByteArray:={ data:=#[48,49,50,51,52,53,54,55,56,57,97,98,99,100,101,102] }
theorem digits_at:∀ k,k < 16→bytesN (digitsB.extract k (k+1))=[hexd k]:=by decide
theorem below_drewN {B:Nat} {a w:World} (h:Below B a w) (n:Nat):Below B a (w.drewN n):=⟨h.os,h.tape,h.output,h.size,h.block⟩
end Go.Proofs.YtobfpgoepaeknaaGreat
