/-
  table.allBelow.
  policies.formulaReader: begin, take.
  policies.checkFormula.
  What an image is.
-/
import Derived.Test.YtobfpgoepaeknaaGreatPO02
import Derived.WalkKit
import Derived.Deep.QuietTactic
namespace Go.Proofs.YtobfpgoepaeknaaGreat
namespace Mc
open Go.RowKit
attribute [local go_sem ↓] Go.wp_at_zero Go.wp_at_succ
def blw (t:ByteArray) (c:Nat):Bool:=(List.range t.size).all fun i=>decide (bt t i < c)
theorem blw_true {t:ByteArray} {c:Nat}:blw t c=true↔∀ i,i < t.size→bt t i < c:=by
 unfold blw;rw [List.all_eq_true]
 constructor
 ·intro h i hi;simpa using h i (List.mem_range.2 hi)
 ·intro h i hi;simpa using h i (List.mem_range.1 hi)
set_option maxRecDepth 20000 in
set_option maxHeartbeats 1000000 in
theorem allBelow_any (w:World) (t:ByteArray) (c:Nat) (ht:t.size≤100000) (hc:c≤1000) :
  Calls Tryz.prog 129 #[.string t,.int .i64 (c:Int)] w fun e w'=>e=.returned (.bool (blw t c))∧w'=w:=by
 have htI:(t.size:Int)≤100000:=by omega
 have hcI:(c:Int)≤1000:=by omega
 go_enter Tryz.func129,Tryz.ntmps129
 go_wp2_with fail
 go_loop [5] (fun ix=>∃ i:Nat,ix=.int .i64 (i:Int)∧Hid (i≤t.size∧∀ j,j < i→bt t j < c)) (fun ix=>lenLeft t.size ix)
 case atStart=>exact ⟨0,rfl,Nat.zero_le _,fun j hj=>by omega⟩
 case round =>
  obtain ⟨i,rfl,HH⟩:=hrel
  obtain ⟨hi,hj⟩:=unhide HH
  clear HH
  by_cases hlt:i < t.size
  ·have hltI:(i:Int) < (t.size:Int):=by omega
   have hb:=bt_at t i
   have hbI:((bt t i:Nat):Int) < 256:=by have:=bt_le t i;omega
   have h0:(0:Int)≤(i:Int):=by omega
   have h1:((i:Int)).toNat=i:=by omega
   by_cases hbl:bt t i < c
   ·have hblI:((bt t i:Nat):Int) < (c:Int):=by omega
    have HJ:Hid (∀ j,j < i+1→bt t j < c):=fun j hj'=>by
     by_cases e:j=i
     ·rw [e];exact hbl
     ·exact hj j (by omega)
    have HLT:=hide hlt
    clear hi hj hbl
    go_wp2_with fail
    go_round
    case rel=>exact ⟨i+1,by go_num,unhide HLT,unhide HJ⟩
    case measure=>have:=unhide HLT;simp [lenLeft,intOf];omega
   ·have hblI:¬((bt t i:Nat):Int) < (c:Int):=by omega
    have hblJ:(c:Int)≤((bt t i:Nat):Int):=by omega
    have HE:Hid (blw t c=false):=by
     show _=_
     cases he:blw t c
     ·rfl
     ·exact absurd (blw_true.1 he i hlt) hbl
    clear hi hj hbl
    go_wp2_with fail
    go_ret
    rw [unhide HE]
    exact ⟨rfl,rfl⟩
  ·have hltI:¬(i:Int) < (t.size:Int):=by omega
   have HE:Hid (blw t c=true):=blw_true.2 fun j hj'=>hj j (by omega)
   clear hi hj
   go_wp2_with fail
   go_ret
   rw [unhide HE]
   exact ⟨rfl,rfl⟩
end Mc
end Go.Proofs.YtobfpgoepaeknaaGreat
namespace Go.Proofs.YtobfpgoepaeknaaGreat
namespace Mc
open Go.RowKit
attribute [local go_sem ↓] Go.wp_at_zero Go.wp_at_succ
def fbeg (R b:Nat):Option Nat:=if 97≤b∧b < 97+R then some 2 else if b=33 then some 0 else if 48≤b∧b≤57 then some 1 else none
def ftake (R o d b:Nat):Option (Nat × Nat) :=
 if d=0 then (fbeg R b).map fun d'=>(o,d')
 else if d=1 then (if b=40 then some (o+1,0) else none)
 else if o=0 then none
 else if b=41 then some (o - 1,d)
 else (fbeg R b).map fun d'=>(o,d')
structure FB (w:World) (g R o d:Nat):Prop where
 heap:w.heap[g]?=some (.cells #[.int .i64 (R:Int),.int .i64 (o:Int),.int .i64 (d:Int)] 160 (0,0))
section
variable {w : World} {g R o d : Nat}
theorem FB.c0 (h:FB w g R o d):w.cell? ⟨g,0,none⟩=some (.int .i64 (R:Int)):=by rw [cell_of_row _ _ _ _ _ _ h.heap];rfl
theorem FB.c1 (h:FB w g R o d):w.cell? ⟨g,1,none⟩=some (.int .i64 (o:Int)):=by rw [cell_of_row _ _ _ _ _ _ h.heap];rfl
theorem FB.c2 (h:FB w g R o d):w.cell? ⟨g,2,none⟩=some (.int .i64 (d:Int)):=by rw [cell_of_row _ _ _ _ _ _ h.heap];rfl
theorem FB.fz (h:FB w g R o d) (k:Nat):w.frozen? ⟨g,k,none⟩=false:=frozen_of_row _ _ _ _ _ h.heap
theorem FB.due (h:FB w g R o d) (d':Nat):FB (w.setCell ⟨g,2,none⟩ (.int .i64 (d':Int))) g R o d':=⟨by rw [heap_setCell_same _ _ _ _ _ _ h.heap];rfl⟩
theorem FB.opn (h:FB w g R o d) (o':Nat):FB (w.setCell ⟨g,1,none⟩ (.int .i64 (o':Int))) g R o' d:=⟨by rw [heap_setCell_same _ _ _ _ _ _ h.heap];rfl⟩
end
def FrmA (w:World) (g R:Nat) (r:Option (Nat × Nat)) (e:Ending) (w':World):Prop :=
 match r with
 | some p=>e=.returned (.bool true)∧Fr [g] w w'∧FB w' g R p.1 p.2
 | none=>e=.returned (.bool false)∧Fr [g] w w'
set_option maxRecDepth 20000 in
set_option maxHeartbeats 1000000 in
theorem begin_any (w:World) (g R o d b:Nat) (h:FB w g R o d) (hR:R≤100) (hb:b < 256) :
  Calls Tryz.prog 128 #[.pointer (some ⟨g,0,none⟩),.int .i64 (b:Int)] w (FrmA w g R ((fbeg R b).map fun d'=>(o,d'))):=by
 have c0:=h.c0
 have c2:=h.c2
 have f2:=h.fz 2
 have HH:=hide h
 have hRI:(R:Int)≤100:=by omega
 have hbI:(b:Int) < 256:=by omega
 unfold fbeg
 by_cases h1:97≤b∧b < 97+R
 ·rw [if_pos h1]
  have i1:(97:Int)≤(b:Int):=by omega
  have i2:(b:Int) < 97+(R:Int):=by omega
  clear h h1
  go_enter Tryz.func128,Tryz.ntmps128
  go_wp2_with fail
  go_ret
  exact ⟨rfl,(Fr.refl [g] w).set (Or.inl (by simp)) _ _,(unhide HH).due 2⟩
 ·rw [if_neg h1]
  have hd:(b:Int) < 97∨(97:Int)≤(b:Int)∧¬(b:Int) < 97+(R:Int):=by omega
  by_cases h2:b=33
  ·subst h2
   rw [if_pos rfl]
   clear h h1 hd
   go_enter Tryz.func128,Tryz.ntmps128
   go_wp2_with fail
   go_ret
   exact ⟨rfl,(Fr.refl [g] w).set (Or.inl (by simp)) _ _,(unhide HH).due 0⟩
  ·rw [if_neg h2]
   have h2I:¬(b:Int)=33:=by omega
   by_cases h3:48≤b∧b≤57
   ·rw [if_pos h3]
    have i1:(48:Int)≤(b:Int):=by omega
    have i2:(b:Int)≤57:=by omega
    have i3:(b:Int) < 97:=by omega
    clear h h1 h2 h3 hd
    go_enter Tryz.func128,Tryz.ntmps128
    go_wp2_with fail
    go_ret
    exact ⟨rfl,(Fr.refl [g] w).set (Or.inl (by simp)) _ _,(unhide HH).due 1⟩
   ·rw [if_neg h3]
    have h3I:(b:Int) < 48∨(48:Int)≤(b:Int)∧¬(b:Int)≤57:=by omega
    clear h h1 h2 h3
    have hall:(b:Int) < 48∧(b:Int) < 97∨((48:Int)≤(b:Int)∧¬(b:Int)≤57∧(b:Int) < 97)∨((48:Int)≤(b:Int)∧¬(b:Int)≤57∧(97:Int)≤(b:Int)∧¬(b:Int) < 97+(R:Int)):=by omega
    clear hd h3I
    rcases hall with ⟨k1,k2⟩ | ⟨k1,k2,k3⟩ | ⟨k1,k2,k3,k4⟩
    all_goals
     go_enter Tryz.func128,Tryz.ntmps128
     go_wp2_with fail
     go_ret
     exact ⟨rfl,Fr.refl [g] w⟩
set_option maxRecDepth 20000 in
set_option maxHeartbeats 1000000 in
theorem ftake_any (w:World) (g R o d b:Nat) (h:FB w g R o d) (hR:R≤100) (hb:b < 256) (ho:o≤1000) (hd:d≤2) :
  Calls Tryz.prog 86 #[.pointer (some ⟨g,0,none⟩),.int .i64 (b:Int)] w (FrmA w g R (ftake R o d b)):=by
 have c1:=h.c1
 have c2:=h.c2
 have f1:=h.fz 1
 have f2:=h.fz 2
 have HH:=hide h
 have HBG:=hide (begin_any w g R o d b h hR hb)
 have hbI:(b:Int) < 256:=by omega
 have hoI:(o:Int)≤1000:=by omega
 unfold ftake
 by_cases h0:d=0
 ·subst h0
  rw [if_pos rfl]
  clear h
  go_enter Tryz.func86,Tryz.ntmps86
  go_wp2_with fail
  refine (unhide HBG).mono ?_
  intro e w1 hr
  cases hx:(fbeg R b).map fun d'=>(o,d') with
  | none =>
   rw [hx] at hr
   obtain ⟨rfl,hf⟩:=hr
   have HF:=hide hf
   clear hf
   go_wp2_with fail
   go_ret
   rw [hx]
   exact ⟨rfl,unhide HF⟩
  | some p =>
   rw [hx] at hr
   obtain ⟨rfl,hf,hfb⟩:=hr
   have HF:=hide hf
   have HFB:=hide hfb
   clear hf hfb
   go_wp2_with fail
   go_ret
   rw [hx]
   exact ⟨rfl,unhide HF,unhide HFB⟩
 ·rw [if_neg h0]
  by_cases h1:d=1
  ·subst h1
   rw [if_pos rfl]
   by_cases h40:b=40
   ·subst h40
    rw [if_pos rfl]
    have hw:IntKind.i64.wrap ((o:Int)+1)=((o+1:Nat):Int):=wrap_i64 (o+1) (by omega)
    clear h h0
    go_enter Tryz.func86,Tryz.ntmps86
    go_wp2_with fail
    go_ret
    exact ⟨rfl,((Fr.refl [g] w).set (Or.inl (by simp)) _ _).set (Or.inl (by simp)) _ _,((unhide HH).opn (o+1)).due 0⟩
   ·rw [if_neg h40]
    have h40I:¬(b:Int)=40:=by omega
    clear h h0
    go_enter Tryz.func86,Tryz.ntmps86
    go_wp2_with fail
    go_ret
    exact ⟨rfl,Fr.refl [g] w⟩
  ·rw [if_neg h1]
   have hd2:d=2:=by omega
   subst hd2
   by_cases ho0:o=0
   ·subst ho0
    rw [if_pos rfl]
    clear h h0 h1
    go_enter Tryz.func86,Tryz.ntmps86
    go_wp2_with fail
    go_ret
    exact ⟨rfl,Fr.refl [g] w⟩
   ·rw [if_neg ho0]
    have ho0I:¬(o:Int)=0:=by omega
    by_cases h41:b=41
    ·subst h41
     rw [if_pos rfl]
     have e1:(o:Int) - 1=((o - 1:Nat):Int):=by omega
     have hw:IntKind.i64.wrap ((o - 1:Nat):Int)=((o - 1:Nat):Int):=wrap_i64 (o - 1) (by omega)
     have HQ:=hide ((unhide HH).opn (o - 1))
     clear h h0 h1
     generalize o - 1=q at *
     go_enter Tryz.func86,Tryz.ntmps86
     go_wp2_with fail
     go_ret
     exact ⟨rfl,(Fr.refl [g] w).set (Or.inl (by simp)) _ _,unhide HQ⟩
    ·rw [if_neg h41]
     have h41I:¬(b:Int)=41:=by omega
     clear h h0 h1
     go_enter Tryz.func86,Tryz.ntmps86
     go_wp2_with fail
     refine (unhide HBG).mono ?_
     intro e w1 hr
     cases hx:(fbeg R b).map fun d'=>(o,d') with
     | none =>
      rw [hx] at hr
      obtain ⟨rfl,hf⟩:=hr
      have HF:=hide hf
      clear hf
      go_wp2_with fail
      go_ret
      rw [hx]
      exact ⟨rfl,unhide HF⟩
     | some p =>
      rw [hx] at hr
      obtain ⟨rfl,hf,hfb⟩:=hr
      have HF:=hide hf
      have HFB:=hide hfb
      clear hf hfb
      go_wp2_with fail
      go_ret
      rw [hx]
      exact ⟨rfl,unhide HF,unhide HFB⟩
end Mc
end Go.Proofs.YtobfpgoepaeknaaGreat
namespace Go.Proofs.YtobfpgoepaeknaaGreat
namespace Mc
open Go.RowKit
attribute [local go_sem ↓] Go.wp_at_zero Go.wp_at_succ
def fscan (R:Nat) (T:ByteArray):Nat→Nat→Nat→Nat→Option Nat
 | 0,i,o,d=>if 0 < o∨d≠2 then some i else none
 | n+1,i,o,d=>match ftake R o d (bt T i) with
  | none=>some i
  | some p=>fscan R T n (i+1) p.1 p.2
def fans:Option Nat→Nat × Nat
 | none=>(0,0)
 | some k=>(6,k)
def fcheck (R:Nat) (T:ByteArray):Nat × Nat:=if 40 < T.size then (6,40) else fans (fscan R T T.size 0 0 0)
theorem fbeg_le {R b d:Nat} (h:fbeg R b=some d):d≤2:=by
 unfold fbeg at h
 split at h
 ·cases h;decide
 ·split at h
  ·cases h;decide
  ·split at h
   ·cases h;decide
   ·cases h
theorem ftake_le {R o d b:Nat} {p:Nat × Nat} (h:ftake R o d b=some p) (hd:d≤2):p.1≤o+1∧p.2≤2:=by
 have key:∀ q,((fbeg R b).map fun d'=>(o,d'))=some q→q.1≤o+1∧q.2≤2:=fun q hq=>by
  cases hf:fbeg R b with
  | none=>rw [hf] at hq;cases hq
  | some d'=>rw [hf] at hq;cases hq;exact ⟨by simp,fbeg_le hf⟩
 unfold ftake at h
 split at h
 ·exact key p h
 ·split at h
  ·split at h
   ·cases h;exact ⟨Nat.le_refl _,Nat.zero_le _⟩
   ·cases h
  ·split at h
   ·cases h
   ·split at h
    ·cases h;exact ⟨by simp only [];omega,hd⟩
    ·exact key p h
set_option maxRecDepth 20000 in
set_option maxHeartbeats 1000000 in
theorem checkFormula_any (w:World) (T:ByteArray) (R:Nat) (hR:R≤100) (hT:T.size≤9223372036854775807) :
  Calls Tryz.prog 52 #[.string T,.int .i64 (R:Int)] w fun e w'=>e=.returned (.tuple #[.int .i64 ((fcheck R T).1:Int),.int .i64 ((fcheck R T).2:Int)])∧Below w.heap.size w w':=by
 have hTI:(T.size:Int)≤9223372036854775807:=by omega
 have hRI:(R:Int)≤100:=by omega
 unfold fcheck
 by_cases h40:40 < T.size
 ·rw [if_pos h40]
  have h40I:(40:Int) < (T.size:Int):=by omega
  go_enter Tryz.func52,Tryz.ntmps52
  go_wp2_with fail
  go_ret2
  exact ⟨rfl,Below.refl _ _⟩
 ·rw [if_neg h40]
  have h40I:(T.size:Int)≤40:=by omega
  have HR:=hide hR
  have H40:Hid (T.size≤40):=by show _≤_;omega
  clear hR h40 hT
  have hr0:fscan R T T.size 0 0 0=fscan R T T.size 0 0 0:=rfl
  generalize hr:fscan R T T.size 0 0 0=r at hr0 ⊢
  clear hr0
  have HRR:=hide hr
  clear hr
  go_enter Tryz.func52,Tryz.ntmps52
  go_wp2_with fail
  have HF0:Hid (Fr [] w (w.alloc (Obj.cells #[.int .i64 (R:Int),.int .i64 0,.int .i64 0] 160))∧FB (w.alloc (Obj.cells #[.int .i64 (R:Int),.int .i64 0,.int .i64 0] 160)) w.heap.size R 0 0):=⟨Fr.ofAlloc _ _,⟨heap_alloc_new _ _⟩⟩
  go_loopw [7] (fun ix wr=>∃ (i o d:Nat),ix=.int .i64 (i:Int)∧Hid (i≤T.size∧o≤i∧d≤2∧Fr [] w wr∧FB wr w.heap.size R o d∧fscan R T (T.size - i) i o d=r)) (fun ix _=>lenLeft T.size ix)
  case atStart=>exact ⟨0,0,0,rfl,Nat.zero_le _,Nat.le_refl _,Nat.zero_le _,(unhide HF0).1,(unhide HF0).2,unhide HRR⟩
  case round =>
   clear HF0
   rename World=>wr
   obtain ⟨i,o,d,rfl,HH⟩:=hrel
   obtain ⟨hi,ho,hd,hfr,hfb,he⟩:=unhide HH
   clear HH
   by_cases hlt:i < T.size
   ·have hltI:(i:Int) < (T.size:Int):=by omega
    have hb:=bt_at T i
    have hbI:((bt T i:Nat):Int) < 256:=by have:=bt_le T i;omega
    have h0:(0:Int)≤(i:Int):=by omega
    have h1:((i:Int)).toNat=i:=by omega
    have HTK:=hide (ftake_any wr w.heap.size R o d (bt T i) hfb (unhide HR) (bt_le T i) (by have:=unhide H40;omega) hd)
    rw [show T.size - i=(T.size - (i+1))+1 by omega,fscan] at he
    have HLT:=hide hlt
    have HFR:=hide hfr
    cases hx:ftake R o d (bt T i) with
    | none =>
     rw [hx] at he HTK
     have HE:Hid (some i=r):=he
     clear hi ho hd hfr hfb he
     go_wp2_with fail
     refine (unhide HTK).mono ?_
     rintro e w2 ⟨rfl,hf2⟩
     have HF2:=hide hf2
     clear hf2
     go_wp2_with fail
     go_ret2
     rw [←show some i=r from unhide HE]
     exact ⟨rfl,((unhide HFR).and (unhide HF2) (fun x hx=>Or.inr (by simp at hx;omega))).below (fun x hx=>by cases hx)⟩
    | some p =>
     rw [hx] at he HTK
     have hle:=ftake_le hx hd
     have HE:Hid (i+1≤T.size∧p.1≤i+1∧p.2≤2∧fscan R T (T.size - (i+1)) (i+1) p.1 p.2=r):=⟨hlt,by omega,hle.2,he⟩
     clear hi ho hd hfr hfb he hle hx
     go_wp2_with fail
     refine (unhide HTK).mono ?_
     rintro e w2 ⟨rfl,hf2,hfb2⟩
     have HF2:=hide hf2
     have HFB2:=hide hfb2
     clear hf2 hfb2
     go_wp2_with fail
     go_roundw
     case rel =>
      obtain ⟨r1,r2,r3,r4⟩:=unhide HE
      exact ⟨i+1,p.1,p.2,by go_num,r1,r2,r3,(unhide HFR).and (unhide HF2) (fun x hx=>Or.inr (by simp at hx;omega)),unhide HFB2,r4⟩
     case measure=>have:=unhide HLT;simp [lenLeft,intOf];omega
   ·have hi2:i=T.size:=by omega
    subst hi2
    rw [Nat.sub_self,fscan] at he
    have HFR:=hide hfr
    have c1:=hfb.c1
    have c2:=hfb.c2
    by_cases hbad:0 < o∨d≠2
    ·rw [if_pos hbad] at he
     have HE:=hide he
     have hbI:(0:Int) < (o:Int)∨¬(0:Int) < (o:Int)∧¬(d:Int)=2:=by omega
     clear hi ho hd hfr hfb he hbad
     rcases hbI with k1 | ⟨k1,k2⟩
     all_goals
      go_wp2_with fail
      go_ret2
      rw [←unhide HE]
      exact ⟨rfl,(unhide HFR).below (fun x hx=>by cases hx)⟩
    ·rw [if_neg hbad] at he
     have HE:=hide he
     have ho0:o=0:=by omega
     have hd2:d=2:=by omega
     subst ho0
     subst hd2
     clear hi ho hd hfr hfb he hbad
     go_wp2_with fail
     go_ret2
     rw [←unhide HE]
     exact ⟨rfl,(unhide HFR).below (fun x hx=>by cases hx)⟩
end Mc
end Go.Proofs.YtobfpgoepaeknaaGreat
namespace Go.Proofs.YtobfpgoepaeknaaGreat
namespace Mc
open Go.RowKit
theorem bt_ext (T:ByteArray) (a b k:Nat):bt (T.extract a b) k=if a+k < b then bt T (a+k) else 0:=by
 have hs:(T.extract a b).size=min b T.size - a:=ByteArray.size_extract
 unfold bt
 by_cases h:k < (T.extract a b).size
 ·rw [dif_pos h,if_pos (by omega),dif_pos (by omega)]
  rw [ByteArray.getElem_extract]
 ·rw [dif_neg h]
  by_cases h2:a+k < b
  ·rw [if_pos h2,dif_neg (by omega)]
  ·rw [if_neg h2]
theorem bt_rest (T:ByteArray) (a k:Nat):bt (T.extract a T.size) k=bt T (a+k):=by
 rw [bt_ext]
 split
 ·rfl
 ·next h=>rw [bt_end h]
theorem ext_ext (T:ByteArray) (a b:Nat):(T.extract a T.size).extract b (T.extract a T.size).size=T.extract (a+b) T.size:=by
 rw [ByteArray.extract_extract,ByteArray.size_extract]
 congr 1
 omega
def tabAt (x:ByteArray) (p:Nat):TabN:=⟨bt x p,bt x (p+1),fun b=>bt x (p+2+b),fun q=>decide (bt x (p+258+q)=1),fun q c=>bt x (p+258+bt x p+(q * bt x (p+1)+c))⟩
def tsz (x:ByteArray) (p:Nat):Nat:=258+bt x p+bt x p * bt x (p+1)
structure TOk (x:ByteArray) (p:Nat):Prop where
 s1:1≤bt x p
 s2:bt x p≤24
 c1:1≤bt x (p+1)
 c2:bt x (p+1)≤24
 size:p+tsz x p≤x.size
 cl:∀ b,b < 256→bt x (p+2+b) < bt x (p+1)
 gr:∀ q,q < bt x p→bt x (p+258+q) < 2
 nx:∀ k,k < bt x p * bt x (p+1)→bt x (p+258+bt x p+k) < bt x p
theorem TOk.ok {x:ByteArray} {p:Nat} (h:TOk x p):(tabAt x p).Ok:=by
 refine ⟨h.s1,h.c1,h.s2,h.c2,h.cl,fun q c hq hc=>h.nx _ ?_⟩
 have h1:(q+1) * bt x (p+1)≤bt x p * bt x (p+1):=Nat.mul_le_mul_right _ hq
 rw [Nat.add_mul,Nat.one_mul] at h1
 have:c < bt x (p+1):=hc
 omega
theorem tabAt_rest (x:ByteArray) (a p:Nat):tabAt (x.extract a x.size) p=tabAt x (a+p):=by
 unfold tabAt
 simp only [bt_rest,Nat.add_assoc]
theorem tsz_rest (x:ByteArray) (a p:Nat):tsz (x.extract a x.size) p=tsz x (a+p):=by
 unfold tsz
 simp only [bt_rest,Nat.add_assoc]
theorem TOk_rest {x:ByteArray} {a p:Nat} (ha:a≤x.size):TOk (x.extract a x.size) p↔TOk x (a+p):=by
 have e:(x.extract a x.size).size=x.size - a:=by rw [ByteArray.size_extract];omega
 constructor
 ·rintro ⟨h1,h2,h3,h4,h5,h6,h7,h8⟩
  simp only [bt_rest,tsz_rest,e,←Nat.add_assoc] at h1 h2 h3 h4 h5 h6 h7 h8
  exact ⟨h1,h2,h3,h4,by omega,h6,h7,h8⟩
 ·rintro ⟨h1,h2,h3,h4,h5,h6,h7,h8⟩
  refine ⟨?_,?_,?_,?_,?_,?_,?_,?_⟩<;>simp only [bt_rest,tsz_rest,e,←Nat.add_assoc]<;>first | assumption | omega
theorem tsz_pos (x:ByteArray) (p:Nat):258≤tsz x p:=by unfold tsz;omega
theorem TOk.tsz_le {x:ByteArray} {p:Nat} (h:TOk x p):tsz x p≤858:=by
 unfold tsz
 have:bt x p * bt x (p+1)≤24 * 24:=Nat.mul_le_mul h.s2 h.c2
 have:=h.s2
 omega
def tpos (x:ByteArray) (p:Nat):Nat→Nat
 | 0=>p
 | i+1=>tpos x p i+tsz x (tpos x p i)
def TsOk (x:ByteArray) (p r:Nat):Prop:=(∀ i,i < r→TOk x (tpos x p i))∧tpos x p r=x.size
theorem tpos_le {x:ByteArray} {p:Nat} (hp:p≤x.size):∀ i,(∀ j,j < i→TOk x (tpos x p j))→tpos x p i≤x.size
 | 0,_=>hp
 | i+1,h=>(h i (by omega)).size
theorem tpos_bound {x:ByteArray} {p:Nat}:∀ i,(∀ j,j < i→TOk x (tpos x p j))→tpos x p i≤p+858 * i
 | 0,_=>by rw [tpos];omega
 | i+1,h=>by
  have:=tpos_bound i (fun j hj=>h j (by omega))
  have:=(h i (by omega)).tsz_le
  rw [tpos];omega
def imF (x:ByteArray):ByteArray:=x.extract 5 (5+bt x 4)
structure ImOk (x:ByteArray):Prop where
 len:5≤x.size
 b0:bt x 0=86
 b1:bt x 1=80
 n:bt x 2≤16
 r1:1≤bt x 3
 r2:bt x 3≤4
 f1:1≤bt x 4
 f2:bt x 4≤40
 fl:5+bt x 4≤x.size
 fm:fscan (bt x 3) (imF x) (imF x).size 0 0 0=none
 ts:TsOk x (5+bt x 4) (bt x 3)
def imT (x:ByteArray) (i:Nat):TabN:=tabAt x (tpos x (5+bt x 4) i)
end Mc
end Go.Proofs.YtobfpgoepaeknaaGreat
