/-
  veilref.digit, veilref.formPlace.
  The document's answer: Compile.
  What is compiled is an image.
  veilref.tableSize.
-/
import Derived.Test.YtobfpgoepaeknaaGreatPO03
import Derived.Test.YtobfpgoepaeknaaGreatPO22
namespace Go.Proofs.YtobfpgoepaeknaaGreat
namespace Mc
open Go.RowKit
attribute [local go_sem ↓] Go.wp_at_zero Go.wp_at_succ
def fpl:Option Nat→Int
 | none=>-1
 | some k=>(k:Int)
def isD (b:Nat):Bool:=decide (48≤b∧b≤57)
set_option maxRecDepth 20000 in
theorem digit_any (w:World) (b:Nat):Calls Tryz.prog 84 #[.int .u8 (b:Int)] w fun e w'=>e=.returned (.bool (isD b))∧w'=w:=by
 unfold isD
 have hc:(48≤(b:Int)∧(b:Int)≤57∧(48≤b∧b≤57))∨(48≤(b:Int)∧57 < (b:Int)∧¬(48≤b∧b≤57))∨((b:Int) < 48∧(b:Int) < 48∧¬(48≤b∧b≤57)):=by omega
 rcases hc with ⟨i1,i2,i3⟩ | ⟨i1,i2,i3⟩ | ⟨i1,i2,i3⟩
 ·rw [decide_eq_true i3]
  clear i3
  go_enter Tryz.func84,Tryz.ntmps84
  go_wp2
  go_ret
  exact ⟨rfl,rfl⟩
 ·rw [decide_eq_false i3]
  clear i3
  go_enter Tryz.func84,Tryz.ntmps84
  go_wp2
  go_ret
  exact ⟨by simpa using i2,rfl⟩
 ·rw [decide_eq_false i3]
  clear i3
  go_enter Tryz.func84,Tryz.ntmps84
  go_wp2
  go_ret
  exact ⟨rfl,rfl⟩
theorem ft0 (R o b:Nat):ftake R o 0 b=(fbeg R b).map fun d'=>(o,d'):=by unfold ftake;rw [if_pos rfl]
theorem ft2 {R o b:Nat} (ho:o≠0) (hb:b≠41):ftake R o 2 b=(fbeg R b).map fun d'=>(o,d'):=by unfold ftake;rw [if_neg (by decide),if_neg (by decide),if_neg ho,if_neg hb]
theorem ft41 {R o:Nat} (ho:o≠0):ftake R o 2 41=some (o - 1,2):=by unfold ftake;rw [if_neg (by decide),if_neg (by decide),if_neg ho,if_pos rfl]
theorem fb_let {R b:Nat} (h1:97≤b) (h2:b < 97+R):fbeg R b=some 2:=by unfold fbeg;rw [if_pos ⟨h1,h2⟩]
theorem fb_bang (R:Nat):fbeg R 33=some 0:=by unfold fbeg;rw [if_neg (by omega),if_pos rfl]
theorem fb_dig {R b:Nat} (h1:48≤b) (h2:b≤57):fbeg R b=some 1:=by unfold fbeg;rw [if_neg (by omega),if_neg (by omega),if_pos ⟨h1,h2⟩]
theorem fb_no {R b:Nat} (h1:¬(97≤b∧b < 97+R)) (h2:b≠33) (h3:¬(48≤b∧b≤57)):fbeg R b=none:=by unfold fbeg;rw [if_neg h1,if_neg h2,if_neg h3]
def NH (d:Nat) (nd hd:Bool):Prop:=(d=0∧nd=true∧hd=false)∨(d=1∧hd=true)∨(d=2∧nd=false∧hd=false)
theorem fscan_none {R:Nat} {T:ByteArray} {i o d:Nat} (hi:i < T.size) (h:ftake R o d (bt T i)=none):fscan R T (T.size - i) i o d=some i:=by
 rw [show T.size - i=(T.size - (i+1))+1 by omega,fscan,h]
theorem fscan_some {R:Nat} {T:ByteArray} {i o d o' d':Nat} (hi:i < T.size) (h:ftake R o d (bt T i)=some (o',d')):fscan R T (T.size - i) i o d=fscan R T (T.size - (i+1)) (i+1) o' d':=by
 rw [show T.size - i=(T.size - (i+1))+1 by omega,fscan,h]
def FpI (R:Nat) (T:ByteArray) (i o d:Nat) (nd hd:Bool):Prop:=i≤T.size∧o≤i∧NH d nd hd∧fscan R T (T.size - i) i o d=fscan R T T.size 0 0 0
theorem FpI.next {R:Nat} {T:ByteArray} {i o d:Nat} {nd hd:Bool} (h:FpI R T i o d nd hd) (hi:i < T.size) {o' d':Nat} (ht:ftake R o d (bt T i)=some (o',d')) (ho:o'≤o+1) {nd' hd':Bool} (hn:NH d' nd' hd'):FpI R T (i+1) o' d' nd' hd':=by
 obtain ⟨h1,h2,h3,h4⟩:=h
 exact ⟨hi,by omega,hn,by rw [←fscan_some hi ht];exact h4⟩
theorem FpI.stop {R:Nat} {T:ByteArray} {i o d:Nat} {nd hd:Bool} (h:FpI R T i o d nd hd) (hi:i < T.size) (ht:ftake R o d (bt T i)=none):(i:Int)=fpl (fscan R T T.size 0 0 0):=by
 obtain ⟨h1,h2,h3,h4⟩:=h
 rw [←h4,fscan_none hi ht];rfl
set_option maxRecDepth 20000 in
set_option maxHeartbeats 4000000 in
theorem formPlace_any (w:World) (T:ByteArray) (R:Nat) (hR:R≤100) (hT:T.size≤100000) :
  Calls Tryz.prog 48 #[.string T,.int .i64 (R:Int)] w fun e w'=>e=.returned (.int .i64 (fpl (fscan R T T.size 0 0 0)))∧w'=w:=by
 have hTI:(T.size:Int)≤100000:=by omega
 have hRI:(R:Int)≤100:=by omega
 go_enter Tryz.func48,Tryz.ntmps48
 go_wp2_with fail
 go_loop [5,6,7,8] (fun ox nx hx ix=>∃ (i o d:Nat) (nd hd:Bool),ox=.int .i64 (o:Int)∧nx=.bool nd∧hx=.bool hd∧ix=.int .i64 (i:Int)∧Hid (FpI R T i o d nd hd)) (fun _ _ _ ix=>lenLeft T.size ix)
 case atStart=>exact ⟨0,0,0,true,false,rfl,rfl,rfl,rfl,Nat.zero_le _,Nat.zero_le _,Or.inl ⟨rfl,rfl,rfl⟩,rfl⟩
 case round =>
  obtain ⟨i,o,d,nd,hd,rfl,rfl,rfl,rfl,HH⟩:=hrel
  obtain ⟨hi,hoi,hnh,hsc⟩:=unhide HH
  have hoI:(o:Int)≤100000:=by omega
  have ho0:(0:Int)≤(o:Int):=by omega
  by_cases hlt:i < T.size
  ·have hltI:(i:Int) < (T.size:Int):=by omega
   have HLT:=hide hlt
   have hbt:=bt_at T i
   have hbI:((bt T i:Nat):Int) < 256:=by have:=bt_le T i;omega
   have h0:(0:Int)≤(i:Int):=by omega
   have h1:((i:Int)).toNat=i:=by omega
   have HDG:=hide (digit_any w (bt T i))
   have HNX:=hide (fun (o' d':Nat) (nd' hd':Bool)=>(unhide HH).next hlt (o':=o') (d':=d') (nd':=nd') (hd':=hd'))
   have HST:=hide ((unhide HH).stop hlt)
   have e1:97≤bt T i→((bt T i:Nat):Int) - 97=((bt T i - 97:Nat):Int):=fun h=>by omega
   have w1:IntKind.u8.wrap ((bt T i - 97:Nat):Int)=((bt T i - 97:Nat):Int):=u8_wrap _ (by have:=bt_le T i;omega)
   have hbq:bt T i < 256:=bt_le T i
   generalize bt T i=b at *
   generalize hdg:isD b=dg at *
   unfold isD at hdg
   clear hi hoi hsc HH hlt
   rcases hnh with ⟨rfl,rfl,rfl⟩ | ⟨rfl,rfl⟩ | ⟨rfl,rfl,rfl⟩
   ·skip
    have hc:(97≤(b:Int)∧b < 97+R∧((b - 97:Nat):Int) < (R:Int))∨(b:Int)=33∨(48≤(b:Int)∧(b:Int)≤57∧dg=true)∨(97≤(b:Int)∧¬b < 97+R∧¬((b - 97:Nat):Int) < (R:Int)∧dg=false)∨((b:Int) < 97∧¬(b:Int)=33∧¬(48≤b∧b≤57)∧(b:Int)=41∧dg=false)∨((b:Int) < 97∧¬(b:Int)=33∧¬(48≤b∧b≤57)∧¬(b:Int)=41∧dg=false):=by
     by_cases hh:48≤b∧b≤57
     ·rw [decide_eq_true hh] at hdg;subst hdg;simp;omega
     ·rw [decide_eq_false hh] at hdg;subst hdg;simp;omega
    rcases hc with ⟨i1,i2,i3⟩ | i1 | ⟨i1,i2,i3⟩ | ⟨i1,i2,i3,i4⟩ | ⟨i1,i2,i3,i4,i5⟩ | ⟨i1,i2,i3,i4,i5⟩
    ·have e2:=e1 (by omega)
     have HN:=hide (unhide HNX o 2 false false (by rw [ft0,fb_let (by omega) (by omega)];rfl) (by omega) (Or.inr (Or.inr ⟨rfl,rfl,rfl⟩)))
     clear HNX HST hdg e1 hbq
     go_wp2_with fail
     refine (unhide HDG).mono ?_
     rintro e w' ⟨rfl,hww⟩
     obtain rfl:w=w':=hww.symm
     clear hww
     go_wp2_with fail
     go_round
     case rel=>exact ⟨i+1,o,2,false,false,rfl,rfl,rfl,by go_num,unhide HN⟩
     case measure=>have:=unhide HLT;simp [lenLeft,intOf];omega
    ·obtain rfl:b=33:=by omega
     have HN:=hide (unhide HNX o 0 true false (by rw [ft0,fb_bang];rfl) (by omega) (Or.inl ⟨rfl,rfl,rfl⟩))
     clear HNX HST hdg e1 hbq
     go_wp2_with fail
     refine (unhide HDG).mono ?_
     rintro e w' ⟨rfl,hww⟩
     obtain rfl:w=w':=hww.symm
     clear hww
     go_wp2_with fail
     go_round
     case rel=>exact ⟨i+1,o,0,true,false,rfl,rfl,rfl,by go_num,unhide HN⟩
     case measure=>have:=unhide HLT;simp [lenLeft,intOf];omega
    ·subst i3
     have HN:=hide (unhide HNX o 1 true true (by rw [ft0,fb_dig (by omega) (by omega)];rfl) (by omega) (Or.inr (Or.inl ⟨rfl,rfl⟩)))
     clear HNX HST hdg e1 hbq
     go_wp2_with fail
     refine (unhide HDG).mono ?_
     rintro e w' ⟨rfl,hww⟩
     obtain rfl:w=w':=hww.symm
     clear hww
     go_wp2_with fail
     go_round
     case rel=>exact ⟨i+1,o,1,true,true,rfl,rfl,rfl,by go_num,unhide HN⟩
     case measure=>have:=unhide HLT;simp [lenLeft,intOf];omega
    ·subst i4
     have e2:=e1 (by omega)
     have HA:=hide (unhide HST (by rw [ft0,fb_no (by omega) (by omega) (by omega)];rfl))
     clear HNX HST hdg e1 hbq
     go_wp2_with fail
     refine (unhide HDG).mono ?_
     rintro e w' ⟨rfl,hww⟩
     obtain rfl:w=w':=hww.symm
     clear hww
     go_wp2_with fail
     go_ret
     exact ⟨ret_int (unhide HA),rfl⟩
    ·subst i5
     obtain rfl:b=41:=by omega
     have HA:=hide (unhide HST (by rw [ft0,fb_no (by omega) (by omega) (by omega)];rfl))
     clear HNX HST hdg e1 hbq
     go_wp2_with fail
     refine (unhide HDG).mono ?_
     rintro e w' ⟨rfl,hww⟩
     obtain rfl:w=w':=hww.symm
     clear hww
     go_wp2_with fail
     go_ret
     exact ⟨ret_int (unhide HA),rfl⟩
    ·subst i5
     have HA:=hide (unhide HST (by rw [ft0,fb_no (by omega) (by omega) (by omega)];rfl))
     clear HNX HST hdg e1 hbq
     go_wp2_with fail
     refine (unhide HDG).mono ?_
     rintro e w' ⟨rfl,hww⟩
     obtain rfl:w=w':=hww.symm
     clear hww
     go_wp2_with fail
     go_ret
     exact ⟨ret_int (unhide HA),rfl⟩
   ·have hc:((b:Int)=40∧b=40)∨(¬(b:Int)=40∧b≠40):=by omega
    rcases hc with ⟨i1,rfl⟩ | ⟨i1,i2⟩
    ·have HN:=hide (unhide HNX (o+1) 0 true false (by simp [ftake]) (by omega) (Or.inl ⟨rfl,rfl,rfl⟩))
     clear HNX HST hdg e1 w1 hbq
     go_wp2_with fail
     refine (unhide HDG).mono ?_
     rintro e w' ⟨rfl,hww⟩
     obtain rfl:w=w':=hww.symm
     clear hww
     go_wp2_with fail
     go_round
     case rel=>exact ⟨i+1,o+1,0,true,false,by go_num,rfl,rfl,by go_num,unhide HN⟩
     case measure=>have:=unhide HLT;simp [lenLeft,intOf];omega
    ·have HA:=hide (unhide HST (by simp [ftake,i2]))
     clear HNX HST hdg e1 w1 hbq
     go_wp2_with fail
     refine (unhide HDG).mono ?_
     rintro e w' ⟨rfl,hww⟩
     obtain rfl:w=w':=hww.symm
     clear hww
     go_wp2_with fail
     go_ret
     exact ⟨ret_int (unhide HA),rfl⟩
   ·by_cases ho:o=0
    ·subst ho
     have HA:=hide (unhide HST (by simp [ftake]))
     clear HNX HST hdg e1 hbq
     go_wp2_with fail
     refine (unhide HDG).mono ?_
     rintro e w' ⟨rfl,hww⟩
     obtain rfl:w=w':=hww.symm
     clear hww
     go_wp2_with fail
     go_ret
     exact ⟨ret_int (unhide HA),rfl⟩
    have hoP:(0:Int) < (o:Int):=by omega
    have hoN:¬(o:Int)=0:=by omega
    have hc:(97≤(b:Int)∧b < 97+R∧((b - 97:Nat):Int) < (R:Int))∨(b:Int)=33∨(48≤(b:Int)∧(b:Int)≤57∧dg=true)∨((b:Int)=41∧dg=false)∨(97≤(b:Int)∧¬b < 97+R∧¬((b - 97:Nat):Int) < (R:Int)∧dg=false)∨((b:Int) < 97∧¬(b:Int)=33∧¬(48≤b∧b≤57)∧¬(b:Int)=41∧dg=false):=by
     by_cases hh:48≤b∧b≤57
     ·rw [decide_eq_true hh] at hdg;subst hdg;simp;omega
     ·rw [decide_eq_false hh] at hdg;subst hdg;simp;omega
    rcases hc with ⟨i1,i2,i3⟩ | i1 | ⟨i1,i2,i3⟩ | ⟨i1,i2⟩ | ⟨i1,i2,i3,i4⟩ | ⟨i1,i2,i3,i4,i5⟩
    ·have e2:=e1 (by omega)
     have HN:=hide (unhide HNX o 2 false false (by rw [ft2 (by omega) (by omega),fb_let (by omega) (by omega)];rfl) (by omega) (Or.inr (Or.inr ⟨rfl,rfl,rfl⟩)))
     clear HNX HST hdg e1 hbq
     go_wp2_with fail
     refine (unhide HDG).mono ?_
     rintro e w' ⟨rfl,hww⟩
     obtain rfl:w=w':=hww.symm
     clear hww
     go_wp2_with fail
     go_round
     case rel=>exact ⟨i+1,o,2,false,false,rfl,rfl,rfl,by go_num,unhide HN⟩
     case measure=>have:=unhide HLT;simp [lenLeft,intOf];omega
    ·obtain rfl:b=33:=by omega
     have HN:=hide (unhide HNX o 0 true false (by rw [ft2 (by omega) (by omega),fb_bang];rfl) (by omega) (Or.inl ⟨rfl,rfl,rfl⟩))
     clear HNX HST hdg e1 hbq
     go_wp2_with fail
     refine (unhide HDG).mono ?_
     rintro e w' ⟨rfl,hww⟩
     obtain rfl:w=w':=hww.symm
     clear hww
     go_wp2_with fail
     go_round
     case rel=>exact ⟨i+1,o,0,true,false,rfl,rfl,rfl,by go_num,unhide HN⟩
     case measure=>have:=unhide HLT;simp [lenLeft,intOf];omega
    ·subst i3
     have HN:=hide (unhide HNX o 1 false true (by rw [ft2 (by omega) (by omega),fb_dig (by omega) (by omega)];rfl) (by omega) (Or.inr (Or.inl ⟨rfl,rfl⟩)))
     clear HNX HST hdg e1 hbq
     go_wp2_with fail
     refine (unhide HDG).mono ?_
     rintro e w' ⟨rfl,hww⟩
     obtain rfl:w=w':=hww.symm
     clear hww
     go_wp2_with fail
     go_round
     case rel=>exact ⟨i+1,o,1,false,true,rfl,rfl,rfl,by go_num,unhide HN⟩
     case measure=>have:=unhide HLT;simp [lenLeft,intOf];omega
    ·obtain rfl:b=41:=by omega
     subst i2
     have e3:(o:Int) - 1=((o - 1:Nat):Int):=by omega
     have w3:=wrap_i64 (o - 1) (by omega)
     have HN:=hide (unhide HNX (o - 1) 2 false false (ft41 (by omega)) (by omega) (Or.inr (Or.inr ⟨rfl,rfl,rfl⟩)))
     clear HNX HST hdg e1 hbq
     go_wp2_with fail
     refine (unhide HDG).mono ?_
     rintro e w' ⟨rfl,hww⟩
     obtain rfl:w=w':=hww.symm
     clear hww
     go_wp2_with fail
     go_round
     case rel=>exact ⟨i+1,(o - 1),2,false,false,by go_num,rfl,rfl,by go_num,unhide HN⟩
     case measure=>have:=unhide HLT;simp [lenLeft,intOf];omega
    ·subst i4
     have e2:=e1 (by omega)
     have HA:=hide (unhide HST (by rw [ft2 (by omega) (by omega),fb_no (by omega) (by omega) (by omega)];rfl))
     clear HNX HST hdg e1 hbq
     go_wp2_with fail
     refine (unhide HDG).mono ?_
     rintro e w' ⟨rfl,hww⟩
     obtain rfl:w=w':=hww.symm
     clear hww
     go_wp2_with fail
     go_ret
     exact ⟨ret_int (unhide HA),rfl⟩
    ·subst i5
     have HA:=hide (unhide HST (by rw [ft2 (by omega) (by omega),fb_no (by omega) (by omega) (by omega)];rfl))
     clear HNX HST hdg e1 hbq
     go_wp2_with fail
     refine (unhide HDG).mono ?_
     rintro e w' ⟨rfl,hww⟩
     obtain rfl:w=w':=hww.symm
     clear hww
     go_wp2_with fail
     go_ret
     exact ⟨ret_int (unhide HA),rfl⟩
  ·have hi2:i=T.size:=by omega
   have hltI:¬(i:Int) < (T.size:Int):=by omega
   have hz:T.size - i=0:=by omega
   rw [hz,fscan] at hsc
   rcases hnh with ⟨rfl,rfl,rfl⟩ | ⟨rfl,rfl⟩ | ⟨rfl,rfl,rfl⟩
   ·rw [if_pos (Or.inr (by decide))] at hsc
    have HA:Hid ((T.size:Int)=fpl (fscan R T T.size 0 0 0)):=by show _=_;rw [←hsc,hi2];rfl
    clear hi hoi hsc hz HH hi2
    go_wp2_with fail
    go_ret
    exact ⟨ret_int (unhide HA),rfl⟩
   ·rw [if_pos (Or.inr (by decide))] at hsc
    have HA:Hid ((T.size:Int)=fpl (fscan R T T.size 0 0 0)):=by show _=_;rw [←hsc,hi2];rfl
    clear hi hoi hsc hz HH hi2
    cases nd
    all_goals
     go_wp2_with fail
     go_ret
     exact ⟨ret_int (unhide HA),rfl⟩
   ·by_cases ho:o=0
    ·subst ho
     rw [if_neg (by decide)] at hsc
     have HA:Hid ((-1:Int)=fpl (fscan R T T.size 0 0 0)):=by show _=_;rw [←hsc];rfl
     clear hi hoi hsc hz HH hi2
     go_wp2_with fail
     go_ret
     exact ⟨ret_int (unhide HA),rfl⟩
    ·rw [if_pos (Or.inl (by omega))] at hsc
     have hoP:(0:Int) < (o:Int):=by omega
     have HA:Hid ((T.size:Int)=fpl (fscan R T T.size 0 0 0)):=by show _=_;rw [←hsc,hi2];rfl
     clear hi hoi hsc hz HH hi2 ho
     go_wp2_with fail
     go_ret
     exact ⟨ret_int (unhide HA),rfl⟩
end Mc
end Go.Proofs.YtobfpgoepaeknaaGreat
namespace Go.Proofs.YtobfpgoepaeknaaGreat
namespace Mc
open Go.RowKit
attribute [local go_sem ↓] Go.wp_at_zero Go.wp_at_succ
def TabsOk:Prop:=∀ (p t:ByteArray) (er:Int),PatA p t er→∀ w:World,Calls Tryz.prog 7 #[.string p] w fun e w'=>e=.returned (.tuple #[.string t,.int .i64 er])∧Below w.heap.size w w'
set_option maxRecDepth 20000 in
set_option maxHeartbeats 4000000 in
theorem RCompile_main (hTO:TabsOk) (w:World) (p:ByteArray) (N:Nat) (hp:p.size≤284) (hn:N≤16) (hl:1≤(cutL p).length∧(cutL p).length≤4) (i0:Nat) (hi0:i0≤(cutL p).length) (t:Nat→ByteArray) (ht:∀ j,j < i0→PatA ((cutL p).getD j ByteArray.empty) (t j) 0∧(t j).size≤1000) (s:ByteArray) (er at_:Int)
  (hbad:i0 < (cutL p).length→er≠0∧PatA ((cutL p).getD i0 ByteArray.empty) ⟨#[]⟩ er∧s=⟨#[]⟩∧at_=(i0:Int))
  (hfin:i0=(cutL p).length→((fcheck (cutL p).length (cutR p)).1=6∧s=⟨#[]⟩∧er=6∧at_=((fcheck (cutL p).length (cutR p)).2:Int))∨((fcheck (cutL p).length (cutR p)).1=0∧s=imB N (cutR p) (cutL p).length t∧er=0∧at_=0)) :
  Calls Tryz.prog 27 #[.string p,.int .i64 (N:Int)] w fun e w'=>e=.returned (.tuple #[.string s,.int .i64 er,.int .i64 at_])∧Below w.heap.size w w':=by
 have hpI:(p.size:Int)≤284:=by omega
 have hn1:(0:Int)≤(N:Int):=by omega
 have hn2:(N:Int)≤16:=by omega
 have HCU:=hide (cut_any w p hp)
 have HFZ:Hid ((cutR p).size≤284):=Nat.le_trans (cutR_sz p) hp
 have HTO:=hide hTO
 have HN:=hide hn
 clear hp hn hTO
 generalize cutL p=L at *
 generalize cutR p=f at *
 have hl1:(1:Int)≤(L.length:Int):=by omega
 have hl4:(L.length:Int)≤4:=by omega
 have HL:=hide hl
 have HI0:=hide hi0
 have HT:=hide ht
 have HBAD:=hide hbad
 have HFIN:=hide hfin
 clear hl hi0 ht hbad hfin
 go_enter Tryz.func27,Tryz.ntmps27
 go_wp2_with fail
 refine (unhide HCU).mono ?_
 rintro e w1 ⟨va,vc,rfl,hC⟩
 have HB1:=hide hC.below
 have HR1:=hide hC.row
 clear hC HCU
 go_wp2_with fail
 go_loopw [9,10] (fun sx ix wr=>∃ i:Nat,sx=.string (joinT t i)∧ix=.int .i64 (i:Int)∧Hid (i≤i0∧Below w1.heap.size w1 wr)) (fun _ ix _=>L.length - (intOf ix).toNat)
 case atStart=>exact ⟨0,rfl,rfl,Nat.zero_le _,Below.refl _ _⟩
 case round =>
  rename World=>wr
  obtain ⟨i,rfl,rfl,HH⟩:=hrel
  obtain ⟨hi,hb⟩:=unhide HH
  clear HH
  have hjz:=joinT_size t i (fun j hj=>(unhide HT j (by omega)).2)
  have hi4:i≤4:=by have:=unhide HI0;have:=unhide HL;omega
  by_cases hlt:i < L.length
  ·have hiI:(i:Int) < (L.length:Int):=by omega
   have hi0':(0:Int)≤(i:Int):=by omega
   have hi1:((i:Int)).toNat=i:=by omega
   obtain ⟨gl,rfl,hgl,k0⟩:=((unhide HR1).below hb).at hlt
   by_cases hii:i < i0
   ·have hpt:=unhide HT i hii
    have HTB:=hide (unhide HTO _ _ _ hpt.1 wr)
    have hz:¬9223372036854775807 < (joinT t i).size+(t i).size:=by have:=hpt.2;omega
    have HNX:Hid (joinT t i++t i=joinT t (i+1)):=rfl
    have HB:=hide hb
    have HII:=hide hii
    have HLT:=hide hlt
    generalize joinT t i=jt at *
    generalize t i=ti at *
    generalize L.getD i ByteArray.empty=q at *
    clear hi hb hjz hlt hii hpt hi4
    go_wp2_with fail
    refine (unhide HTB).mono ?_
    rintro e w3 ⟨rfl,hb3⟩
    have HB3:=hide (below_tr (unhide HB) hb3)
    clear hb3 HTB k0
    go_wp2_with fail
    go_roundw
    case rel=>exact ⟨i+1,congrArg Value.string (unhide HNX),by go_num,unhide HII,unhide HB3⟩
    case measure=>have:=unhide HLT;simp [intOf];omega
   ·have hie:i=i0:=by omega
    subst hie
    obtain ⟨her,hpa,rfl,rfl⟩:=unhide HBAD hlt
    have her':¬er=0:=her
    have HTB:=hide (unhide HTO _ _ _ hpa wr)
    have HB:=hide hb
    generalize joinT t i=jt at *
    generalize L.getD i ByteArray.empty=q at *
    clear hi hb hjz hlt hii hi4 her hpa
    go_wp2_with fail
    refine (unhide HTB).mono ?_
    rintro e w3 ⟨rfl,hb3⟩
    have HB3:=hide (below_tr (unhide HB1) (below_tr (unhide HB) hb3))
    clear hb3 HTB k0
    go_wp2_with fail
    refine bodyPost_ret (v:=.tuple #[.string ⟨#[]⟩,.int .i64 er,.int .i64 (i:Int)]) (by simp [results,Tryz.results27,go_sem]) rfl ?_
    exact ⟨rfl,unhide HB3⟩
  ·have hie:i=L.length:=by have:=unhide HI0;omega
   subst hie
   have hi0e:i0=L.length:=by have:=unhide HI0;omega
   have hff:=unhide HFIN hi0e
   have HBW:=hide (below_tr (unhide HB1) hb)
   clear hi hlt hi0e
   unfold fcheck at hff
   by_cases h40:40 < f.size
   ·have hfI:(40:Int) < (f.size:Int):=by omega
    rw [if_pos h40] at hff
    obtain ⟨-,rfl,rfl,rfl⟩:(6:Nat)=6∧s=⟨#[]⟩∧er=6∧at_=((40:Nat):Int):=by
     rcases hff with h | h
     ·exact h
     ·exact absurd h.1 (by decide)
    clear hff hjz h40 hb hi4
    generalize joinT t L.length=jt at *
    go_wp2_with fail
    refine bodyPost_ret (v:=.tuple #[.string ⟨#[]⟩,.int .i64 6,.int .i64 40]) (by simp [results,Tryz.results27,go_sem]) rfl ?_
    exact ⟨rfl,unhide HBW⟩
   ·have hfI:(f.size:Int)≤40:=by omega
    rw [if_neg h40] at hff
    have HFP:=hide (formPlace_any wr f L.length (by have:=unhide HL;omega) (by omega))
    have HF40:Hid (f.size≤40):=by show _≤_;omega
    cases hfs:fscan L.length f f.size 0 0 0 with
    | some k =>
     rw [hfs] at hff
     obtain ⟨-,rfl,rfl,rfl⟩:(6:Nat)=6∧s=⟨#[]⟩∧er=6∧at_=((k:Nat):Int):=by
      rcases hff with h | h
      ·exact h
      ·exact absurd h.1 (by simp [fans])
     rw [hfs] at HFP
     have hk0:(0:Int)≤(k:Int):=by omega
     have hfp:fpl (some k)=(k:Int):=rfl
     rw [hfp] at HFP
     clear hff hjz h40 hb hi4 hfs hfp
     generalize joinT t L.length=jt at *
     go_wp2_with fail
     refine (unhide HFP).mono ?_
     rintro e w3 ⟨rfl,rfl⟩
     go_wp2_with fail
     refine bodyPost_ret (v:=.tuple #[.string ⟨#[]⟩,.int .i64 6,.int .i64 (k:Int)]) (by simp [results,Tryz.results27,go_sem]) rfl ?_
     exact ⟨rfl,unhide HBW⟩
    | none =>
     rw [hfs] at hff
     obtain ⟨-,rfl,rfl,rfl⟩:(0:Nat)=0∧s=imB N f L.length t∧er=0∧at_=0:=by
      rcases hff with h | h
      ·exact absurd h.1 (by simp [fans])
      ·exact h
     rw [hfs] at HFP
     have hfp:fpl none=-1:=rfl
     rw [hfp] at HFP
     have hw1:=wrapB N (by have:=unhide HN;omega)
     have hw2:=wrapB L.length (by have:=unhide HL;omega)
     have hw3:=wrapB f.size (by omega)
     have hrow:URow (wr.alloc (.cells #[.int .u8 (N:Int),.int .u8 (L.length:Int),.int .u8 (f.size:Int)] 5)) 0 (.slice (some ⟨wr.heap.size,0,none⟩) [N,L.length,f.size].length 3) [N,L.length,f.size]:=⟨rfl,.inr ⟨_,3,_,rfl,Nat.zero_le _,heap_alloc_new _ _,Nat.le_refl _,by unfold maxLen;omega,rfl,rfl⟩⟩
     have hcv:=conv_row hrow (fun x hx=>by have:=unhide HN;have:=unhide HL;simp at hx;omega)
     simp only [List.length_cons,List.length_nil] at hcv
     have hz0:(strN [N,L.length,f.size]).size=3:=strN_size' _
     have HIM:Hid (⟨#[86,80]⟩++strN [N,L.length,f.size]++f++joinT t L.length=imB N f L.length t):=rfl
     have HB3:=hide ((unhide HBW).alloc (unhide HBW).size (.cells #[.int .u8 (N:Int),.int .u8 (L.length:Int),.int .u8 (f.size:Int)] 5))
     clear hff h40 hb hfs hfp hrow
     generalize joinT t L.length=jt at *
     generalize strN [N,L.length,f.size]=s3 at *
     have hz1:¬9223372036854775807 < 2+s3.size:=by omega
     have hz2:¬9223372036854775807 < 2+s3.size+f.size:=by have:=unhide HF40;omega
     have hz3:¬9223372036854775807 < 2+s3.size+f.size+jt.size:=by have:=unhide HF40;omega
     clear hjz hi4
     go_wp2_with fail
     refine (unhide HFP).mono ?_
     rintro e w3 ⟨rfl,rfl⟩
     go_wp2_with fail
     refine bodyPost_ret (v:=.tuple #[.string (imB N f L.length t),.int .i64 0,.int .i64 0]) (by rw [←unhide HIM];simp [results,Tryz.results27,go_sem]) rfl ?_
     exact ⟨rfl,unhide HB3⟩
set_option maxRecDepth 20000 in
set_option maxHeartbeats 2000000 in
theorem RCompile_of (hTO:TabsOk) (w:World) {p:ByteArray} {n:Int} {s:ByteArray} {er at_:Int} (hx:p.size≤9223372036854775807) (h:CpA p n s er at_) :
  Calls Tryz.prog 27 #[.string p,.int .i64 n] w fun e w'=>e=.returned (.tuple #[.string s,.int .i64 er,.int .i64 at_])∧Below w.heap.size w w':=by
 rcases h with ⟨hE,rfl⟩ | ⟨N,ts,hO,rfl,rfl,rfl⟩
 ·rcases hE with ⟨h,rfl,rfl⟩ | ⟨h,hn,rfl,rfl⟩ | ⟨h,hn,hl,rfl,rfl⟩ | ⟨h,hn,hl,i,hi,hb,he,hp,rfl⟩ | ⟨h,hn,hl,hb,hf,rfl,rfl⟩
  ·have hI:(284:Int) < (p.size:Int):=by omega
   have hxI:(p.size:Int)≤9223372036854775807:=by omega
   clear h hx
   go_enter Tryz.func27,Tryz.ntmps27
   go_wp2_with fail
   exact bodyPost_ret (v:=.tuple #[.string ⟨#[]⟩,.int .i64 1,.int .i64 0]) (by simp [results,Tryz.results27,go_sem]) rfl ⟨rfl,Below.refl _ _⟩
  ·have hI:(p.size:Int)≤284:=by omega
   have hsc:n < 0∨(0≤n∧16 < n):=by omega
   clear h hx hn
   rcases hsc with i1 | ⟨i1,i2⟩
   all_goals
    go_enter Tryz.func27,Tryz.ntmps27
    go_wp2_with fail
    exact bodyPost_ret (v:=.tuple #[.string ⟨#[]⟩,.int .i64 4,.int .i64 0]) (by simp [results,Tryz.results27,go_sem]) rfl ⟨rfl,Below.refl _ _⟩
  ·have hI:(p.size:Int)≤284:=by omega
   have HCU:=hide (cut_any w p h)
   have hls:((cutL p).length:Int) < 1∨((1:Int)≤((cutL p).length:Int)∧(4:Int) < ((cutL p).length:Int)):=by omega
   obtain ⟨n1,n2⟩:=hn
   clear h hx hl
   generalize cutL p=L at *
   generalize cutR p=f at *
   rcases hls with hl1 | ⟨hl1,hl4⟩
   all_goals
    go_enter Tryz.func27,Tryz.ntmps27
    go_wp2_with fail
    refine (unhide HCU).mono ?_
    rintro e w1 ⟨va,vc,rfl,hC⟩
    have HB1:=hide hC.below
    clear hC HCU
    go_wp2_with fail
    exact bodyPost_ret (v:=.tuple #[.string ⟨#[]⟩,.int .i64 5,.int .i64 0]) (by simp [results,Tryz.results27,go_sem]) rfl ⟨rfl,unhide HB1⟩
  ·obtain ⟨N,rfl⟩:=Int.eq_ofNat_of_zero_le hn.1
   have hc:∃ t:Nat→ByteArray,∀ j,j < i→PatA ((cutL p).getD j ByteArray.empty) (t j) 0∧(t j).size≤1000:=⟨fun j=>if hj:j < i then Classical.choose (hb j hj) else ⟨#[]⟩,fun j hj=>by simp only [dif_pos hj];exact Classical.choose_spec (hb j hj)⟩
   obtain ⟨t,ht⟩:=hc
   exact RCompile_main hTO w p N h (by omega) hl i (by omega) t ht _ _ _ (fun _=>⟨he,hp,rfl,rfl⟩) (fun e=>by omega)
  ·obtain ⟨N,rfl⟩:=Int.eq_ofNat_of_zero_le hn.1
   have hc:∃ t:Nat→ByteArray,∀ j,j < (cutL p).length→PatA ((cutL p).getD j ByteArray.empty) (t j) 0∧(t j).size≤1000:=⟨fun j=>if hj:j < (cutL p).length then Classical.choose (hb j hj) else ⟨#[]⟩,fun j hj=>by simp only [dif_pos hj];exact Classical.choose_spec (hb j hj)⟩
   obtain ⟨t,ht⟩:=hc
   exact RCompile_main hTO w p N h (by omega) hl _ (Nat.le_refl _) t ht _ _ _ (fun e=>by omega) (fun _=>.inl ⟨hf,rfl,rfl,rfl⟩)
 ·obtain rfl:=hO.n_
  exact RCompile_main hTO w p N hO.sz hO.n16 ⟨hO.l1,hO.l4⟩ _ (Nat.le_refl _) (fun j=>tbS (ts j)) (fun j hj=>⟨hO.pat j hj,tbS_le (hO.ok j hj)⟩) _ _ _ (fun e=>by omega) (fun _=>.inr ⟨hO.form,rfl,rfl,rfl⟩)
end Mc
end Go.Proofs.YtobfpgoepaeknaaGreat
namespace Go.Proofs.YtobfpgoepaeknaaGreat
namespace Mc
open Go.RowKit
theorem bt_appB (a b:ByteArray) (k:Nat):bt (a++b) k=if k < a.size then bt a k else bt b (k - a.size):=by
 have hs:(a++b).size=a.size+b.size:=ByteArray.size_append
 unfold bt
 by_cases h:k < a.size
 ·rw [if_pos h,dif_pos (by omega),dif_pos h,ByteArray.getElem_append_left h]
 ·rw [if_neg h]
  by_cases h2:k - a.size < b.size
  ·rw [dif_pos (by omega),dif_pos h2,ByteArray.getElem_append_right (by omega)]
  ·rw [dif_neg (by omega),dif_neg h2]
theorem bt_strN {xs:List Nat} (h:∀ x∈xs,x < 256) (k:Nat):bt (strN xs) k=xs.getD k 0:=by
 unfold bt
 by_cases hk:k < (strN xs).size
 ·rw [dif_pos hk]
  have hk2:k < xs.length:=by rwa [strN_size'] at hk
  have e:(strN xs)[k]'hk=(xs.map UInt8.ofNat)[k]'(by rw [List.length_map];exact hk2):=rfl
  rw [e,List.getElem_map,u8_ofNat (h _ (List.getElem_mem _)),List.getD_eq_getElem?_getD,List.getElem?_eq_getElem hk2];rfl
 ·rw [dif_neg hk,List.getD_eq_getElem?_getD,List.getElem?_eq_none (by rw [strN_size'] at hk;omega)];rfl
theorem gD_l {l r:List Nat} {k:Nat} (h:k < l.length):(l++r).getD k 0=l.getD k 0:=by
 rw [List.getD_eq_getElem?_getD,List.getD_eq_getElem?_getD,List.getElem?_append_left h]
theorem gD_r {l r:List Nat} {k:Nat} (h:l.length≤k):(l++r).getD k 0=r.getD (k - l.length) 0:=by
 rw [List.getD_eq_getElem?_getD,List.getD_eq_getElem?_getD,List.getElem?_append_right h]
theorem gD_map {f:Nat→Nat} {n k:Nat} (h:k < n):((List.range n).map f).getD k 0=f k:=by
 rw [List.getD_eq_getElem?_getD,List.getElem?_map,List.getElem?_range h];rfl
section
variable {t : TabN}
theorem lay_lt (h:t.Ok):∀ x∈layTab t.S t.C t.cl t.gr t.nx,x < 256:=fun x hx=>by
 have h1:=h.s2
 have h2:=h.c2
 unfold layTab at hx
 rcases List.mem_append.1 hx with hx | hx
 ·rcases List.mem_append.1 hx with hx | hx
  ·rcases List.mem_append.1 hx with hx | hx
   ·simp at hx;omega
   ·obtain ⟨b,hb,rfl⟩:=List.mem_map.1 hx
    have:=h.cl b (List.mem_range.1 hb)
    omega
  ·obtain ⟨b,hb,rfl⟩:=List.mem_map.1 hx
   split<;>omega
 ·obtain ⟨i,hi,hx⟩:=List.mem_flatMap.1 hx
  obtain ⟨c,hc,rfl⟩:=List.mem_map.1 hx
  have:=h.nx i c (List.mem_range.1 hi) (List.mem_range.1 hc)
  omega
theorem tbS_0 (h:t.Ok):bt (tbS t) 0=t.S:=by
 unfold tbS;rw [bt_strN (lay_lt h)];rfl
theorem tbS_1 (h:t.Ok):bt (tbS t) 1=t.C:=by
 unfold tbS;rw [bt_strN (lay_lt h)];rfl
theorem tbS_cl (h:t.Ok) {b:Nat} (hb:b < 256):bt (tbS t) (2+b)=t.cl b:=by
 unfold tbS
 rw [bt_strN (lay_lt h)]
 unfold layTab
 rw [gD_l (by simp;omega),gD_l (by simp;omega),gD_r (by simp),show 2+b - [t.S,t.C].length=b by simp,gD_map hb]
theorem tbS_gr (h:t.Ok) {q:Nat} (hq:q < t.S):bt (tbS t) (258+q)=if t.gr q then 1 else 0:=by
 unfold tbS
 rw [bt_strN (lay_lt h)]
 unfold layTab
 rw [gD_l (by simp;omega),gD_r (by simp),show 258+q - ([t.S,t.C]++(List.range 256).map t.cl).length=q by simp,gD_map hq]
theorem tbS_nx (h:t.Ok) {q c:Nat} (hq:q < t.S) (hc:c < t.C):bt (tbS t) (258+t.S+(q * t.C+c))=t.nx q c:=by
 unfold tbS
 rw [bt_strN (lay_lt h)]
 unfold layTab
 have hlen:([t.S,t.C]++(List.range 256).map t.cl++(List.range t.S).map (fun i=>if t.gr i then (1:Nat) else 0)).length=258+t.S:=by simp;omega
 rw [gD_r (by rw [hlen];omega),hlen,Nat.add_sub_cancel_left]
 exact flat_getD _ _ _ _ _ hq hc
end
def Stand (x:ByteArray) (p:Nat) (y:ByteArray):Prop:=∀ k,k < y.size→bt x (p+k)=bt y k
structure SameT (a t:TabN):Prop where
 S:a.S=t.S
 C:a.C=t.C
 cl:∀ b,b < 256→a.cl b=t.cl b
 gr:∀ q,q < t.S→a.gr q=t.gr q
 nx:∀ q c,q < t.S→c < t.C→a.nx q c=t.nx q c
theorem stand_tab {x:ByteArray} {p:Nat} {t:TabN} (h:t.Ok) (hs:Stand x p (tbS t)) (hl:p+(tbS t).size≤x.size):TOk x p∧tsz x p=(tbS t).size∧SameT (tabAt x p) t:=by
 have hz:=tbS_size t
 have e0:bt x p=t.S:=by have:=hs 0 (by omega);rw [Nat.add_zero] at this;rw [this,tbS_0 h]
 have e1:bt x (p+1)=t.C:=by rw [hs 1 (by omega),tbS_1 h]
 have ec:∀ b,b < 256→bt x (p+2+b)=t.cl b:=fun b hb=>by rw [Nat.add_assoc,hs _ (by omega),tbS_cl h hb]
 have eg:∀ q,q < t.S→bt x (p+258+q)=if t.gr q then 1 else 0:=fun q hq=>by rw [Nat.add_assoc,hs _ (by omega),tbS_gr h hq]
 have en:∀ q c,q < t.S→c < t.C→bt x (p+258+t.S+(q * t.C+c))=t.nx q c:=fun q c hq hc=>by
  have h1:(q+1) * t.C≤t.S * t.C:=Nat.mul_le_mul_right _ hq
  rw [Nat.add_mul,Nat.one_mul] at h1
  rw [show p+258+t.S+(q * t.C+c)=p+(258+t.S+(q * t.C+c)) by omega,hs _ (by omega),tbS_nx h hq hc]
 have ez:tsz x p=(tbS t).size:=by unfold tsz;rw [e0,e1,hz]
 refine ⟨⟨by rw [e0];exact h.s1,by rw [e0];exact h.s2,by rw [e1];exact h.c1,by rw [e1];exact h.c2,by rw [ez];exact hl,fun b hb=>by rw [ec b hb,e1];exact h.cl b hb,fun q hq=>?_,fun k hk=>?_⟩,ez,⟨e0,e1,ec,fun q hq=>?_,fun q c hq hc=>?_⟩⟩
 ·rw [e0] at hq
  rw [eg q hq]
  split<;>omega
 ·rw [e0,e1] at hk
  rw [e0]
  have hC:0 < t.C:=h.c1
  have hq:k / t.C < t.S:=by rw [Nat.div_lt_iff_lt_mul hC];exact hk
  have hc:k % t.C < t.C:=Nat.mod_lt _ hC
  have e:k / t.C * t.C+k % t.C=k:=by rw [Nat.mul_comm];exact Nat.div_add_mod _ _
  have:=en _ _ hq hc
  rw [e] at this
  rw [this]
  exact h.nx _ _ hq hc
 ·show decide (bt x (p+258+q)=1)=t.gr q
  rw [eg q hq]
  cases t.gr q<;>simp
 ·show bt x (p+258+bt x p+(q * bt x (p+1)+c))=t.nx q c
  rw [e0,e1];exact en q c hq hc
section
variable {N m : Nat} {f : ByteArray} {ts : Nat → TabN}
theorem imB_size (N:Nat) (f:ByteArray) (m:Nat) (ts:Nat→ByteArray):(imB N f m ts).size=5+f.size+(joinT ts m).size:=by
 unfold imB
 rw [ByteArray.size_append,ByteArray.size_append,strN_size'];rfl
theorem imB_head {k:Nat} (hk:k < 5) (hN:N≤16) (hm:m≤4) (hf:f.size≤40) (T:Nat→ByteArray):bt (imB N f m T) k=[86,80,N,m,f.size].getD k 0:=by
 have hz:(strN [86,80,N,m,f.size]).size=5:=strN_size' _
 unfold imB
 rw [bt_appB,if_pos (by rw [ByteArray.size_append,hz];omega),bt_appB,if_pos (by rw [hz];exact hk),bt_strN (fun x hx=>by simp at hx;omega)]
theorem joinT_stand (T:Nat→ByteArray):∀ (m i:Nat),i < m→Stand (joinT T m) (joinT T i).size (T i)
 | 0,i,hi=>by omega
 | m+1,i,hi=>fun k hk=>by
  show bt (joinT T m++T m) _=_
  by_cases h:i < m
  ·have ih:=joinT_stand T m i h k hk
   have hle:∀ m,i < m→(joinT T i).size+(T i).size≤(joinT T m).size:=fun m=>by
    induction m with
    | zero=>intro h;omega
    | succ m ihm =>
     intro h
     rw [joinT,ByteArray.size_append]
     by_cases h2:i < m
     ·have:=ihm h2;omega
     ·have:i=m:=by omega
      subst this;omega
   have:=hle m h
   rw [bt_appB,if_pos (by omega)]
   exact ih
  ·have:i=m:=by omega
   subst this
   rw [bt_appB,if_neg (by omega),Nat.add_sub_cancel_left]
theorem joinT_mono (T:Nat→ByteArray) {i:Nat}:∀ m,i < m→(joinT T i).size+(T i).size≤(joinT T m).size
 | 0,h=>by omega
 | m+1,h=>by
  rw [joinT,ByteArray.size_append]
  by_cases h2:i < m
  ·have:=joinT_mono T m h2;omega
  ·have:i=m:=by omega
   subst this;omega
theorem imB_ok (hN:N≤16) (h1:1≤m) (h4:m≤4) (hf:(fcheck m f).1=0) (hok:∀ j,j < m→(ts j).Ok) :
  ImOk (imB N f m (fun j=>tbS (ts j)))∧imF (imB N f m (fun j=>tbS (ts j)))=f∧bt (imB N f m (fun j=>tbS (ts j))) 2=N∧bt (imB N f m (fun j=>tbS (ts j))) 3=m∧∀ j,j < m→SameT (imT (imB N f m (fun j=>tbS (ts j))) j) (ts j):=by
 obtain ⟨hf40,hfs⟩:=fcheck_ok.1.1 hf
 have hf1:1≤f.size:=by
  cases hz:f.size with
  | zero=>rw [hz] at hfs;unfold fscan at hfs;rw [if_pos (Or.inr (by decide))] at hfs;cases hfs
  | succ k=>omega
 obtain ⟨T,hT⟩:∃ T:Nat→ByteArray,T=fun j=>tbS (ts j):=⟨_,rfl⟩
 have hTj:∀ j,T j=tbS (ts j):=fun j=>by rw [hT]
 rw [←hT]
 have hsz:=imB_size N f m T
 have b2:bt (imB N f m T) 2=N:=imB_head (by omega) hN h4 hf40 T
 have b3:bt (imB N f m T) 3=m:=imB_head (by omega) hN h4 hf40 T
 have b4:bt (imB N f m T) 4=f.size:=imB_head (by omega) hN h4 hf40 T
 have hz5:(strN [86,80,N,m,f.size]).size=5:=strN_size' _
 have himf:imF (imB N f m T)=f:=by
  unfold imF
  rw [b4]
  apply ByteArray.ext
  apply Array.ext
  ·show ((imB N f m T).extract 5 (5+f.size)).size=f.size
   rw [ByteArray.size_extract];omega
  ·intro k hk1 hk2
   have hk3:k < f.size:=hk2
   have e:=bt_ext (imB N f m T) 5 (5+f.size) k
   rw [if_pos (by omega)] at e
   have e2:bt (imB N f m T) (5+k)=bt f k:=by
    unfold imB
    rw [bt_appB,if_pos (by rw [ByteArray.size_append,hz5];omega),bt_appB,if_neg (by rw [hz5];omega),hz5,Nat.add_sub_cancel_left]
   rw [e2,←bt_at f k hk3,←bt_at _ k hk1] at e
   exact UInt8.toNat.inj e
 have hst:∀ i,i < m→Stand (imB N f m T) (5+f.size+(joinT T i).size) (T i):=fun i hi k hk=>by
  have h5:=joinT_stand T m i hi k hk
  unfold imB
  rw [bt_appB,if_neg (by rw [ByteArray.size_append,hz5];omega),ByteArray.size_append,hz5,show 5+f.size+(joinT T i).size+k - (5+f.size)=(joinT T i).size+k by omega]
  exact h5
 have hfit:∀ i,i < m→5+f.size+(joinT T i).size+(T i).size≤(imB N f m T).size:=fun i hi=>by have:=joinT_mono T m hi;omega
 have hpos:∀ i,i≤m→tpos (imB N f m T) (5+f.size) i=5+f.size+(joinT T i).size:=fun i=>by
  induction i with
  | zero=>intro _;rfl
  | succ i ih =>
   intro hi
   have e:=ih (by omega)
   have g:=(stand_tab (hok i (by omega)) (by rw [←hTj];exact hst i (by omega)) (by rw [←hTj];exact hfit i (by omega))).2.1
   rw [tpos,e,g,joinT,ByteArray.size_append,hTj];omega
 refine ⟨⟨by omega,imB_head (by omega) hN h4 hf40 T,imB_head (by omega) hN h4 hf40 T,by omega,by omega,by omega,by omega,by omega,by omega,by rw [himf,b3];exact hfs,?_⟩,himf,b2,b3,fun j hj=>?_⟩
 ·rw [b4,b3]
  refine ⟨fun i hi=>?_,?_⟩
  ·rw [hpos i (by omega)]
   exact (stand_tab (hok i hi) (by rw [←hTj];exact hst i hi) (by rw [←hTj];exact hfit i hi)).1
  ·rw [hpos m (Nat.le_refl _),hsz]
 ·unfold imT
  rw [b4,hpos j (by omega)]
  exact (stand_tab (hok j hj) (by rw [←hTj];exact hst j hj) (by rw [←hTj];exact hfit j hj)).2.2
end
end Mc
end Go.Proofs.YtobfpgoepaeknaaGreat
namespace Go.Proofs.YtobfpgoepaeknaaGreat
namespace Mc
open Go.RowKit
attribute [local go_sem ↓] Go.wp_at_zero Go.wp_at_succ
def bnd (S C j:Nat):Nat:=if j < 258 then C else if j < 258+S then 2 else S
theorem TOk_bnd {x:ByteArray} {p:Nat} (h1:1≤bt x p) (h2:bt x p≤24) (h3:1≤bt x (p+1)) (h4:bt x (p+1)≤24) (h5:p+tsz x p≤x.size) :
  TOk x p↔∀ j,2≤j→j < tsz x p→bt x (p+j) < bnd (bt x p) (bt x (p+1)) j:=by
 constructor
 ·intro h j hj1 hj2
  unfold bnd
  by_cases a:j < 258
  ·rw [if_pos a]
   have:=h.cl (j - 2) (by omega)
   rwa [show p+2+(j - 2)=p+j by omega] at this
  ·rw [if_neg a]
   by_cases b:j < 258+bt x p
   ·rw [if_pos b]
    have:=h.gr (j - 258) (by omega)
    rwa [show p+258+(j - 258)=p+j by omega] at this
   ·rw [if_neg b]
    have:=h.nx (j - 258 - bt x p) (by unfold tsz at hj2;omega)
    rwa [show p+258+bt x p+(j - 258 - bt x p)=p+j by omega] at this
 ·intro h
  refine ⟨h1,h2,h3,h4,h5,fun b hb=>?_,fun q hq=>?_,fun k hk=>?_⟩
  ·have:=h (2+b) (by omega) (by unfold tsz;omega)
   unfold bnd at this
   rw [if_pos (by omega)] at this
   rwa [Nat.add_assoc]
  ·have:=h (258+q) (by omega) (by unfold tsz;omega)
   unfold bnd at this
   rw [if_neg (by omega),if_pos (by omega)] at this
   rwa [Nat.add_assoc]
  ·have:=h (258+bt x p+k) (by omega) (by unfold tsz;omega)
   unfold bnd at this
   rw [if_neg (by omega),if_neg (by omega)] at this
   rwa [show p+258+bt x p+k=p+(258+bt x p+k) by omega]
def TsA (x:ByteArray) (p:Nat) (e:Ending):Prop:=∃ n:Nat,e=.returned (.int .i64 (n:Int))∧((TOk x p∧n=tsz x p)∨(¬TOk x p∧n=0))
set_option maxRecDepth 20000 in
set_option maxHeartbeats 2000000 in
theorem tableSize_any (w:World) (x:ByteArray) (p:Nat) (hx:x.size≤9223372036854775807) (hp:p≤x.size) (hp2:p≤100000) :
  Calls Tryz.prog 85 #[.string x,.int .i64 (p:Int)] w fun e w'=>TsA x p e∧w'=w:=by
 have hxI:(x.size:Int)≤9223372036854775807:=by omega
 have hpI:(p:Int)≤100000:=by omega
 have e2:(p:Int)+2=((p+2:Nat):Int):=by omega
 have w2:=wrap_i64 (p+2) (by omega)
 by_cases h2:x.size < p+2
 ·have hI:(x.size:Int) < ((p+2:Nat):Int):=by omega
  have HF:Hid (¬TOk x p):=fun h=>by have:=h.size;have:=tsz_pos x p;omega
  clear hx hp hp2 h2
  generalize p+2=y at *
  go_enter Tryz.func85,Tryz.ntmps85
  go_wp2_with fail
  go_ret
  exact ⟨⟨0,rfl,.inr ⟨unhide HF,rfl⟩⟩,rfl⟩
 ·have hI:((p+2:Nat):Int)≤(x.size:Int):=by omega
  have e1:(p:Int)+1=((p+1:Nat):Int):=by omega
  have w1:=wrap_i64 (p+1) (by omega)
  have n0:((p:Int)).toNat=p:=by omega
  have n1:(((p+1:Nat):Int)).toNat=p+1:=by omega
  have l0:(p:Int) < (x.size:Int):=by omega
  have l1:((p+1:Nat):Int) < (x.size:Int):=by omega
  have m0:p < x.size:=by omega
  have m1:p+1 < x.size:=by omega
  have b0:=bt_at x p
  have b1:=bt_at x (p+1)
  have b0I:((bt x p:Nat):Int) < 256:=by have:=bt_le x p;omega
  have b1I:((bt x (p+1):Nat):Int) < 256:=by have:=bt_le x (p+1);omega
  have hts:tsz x p=258+bt x p+bt x p * bt x (p+1):=rfl
  have HBN:=hide (TOk_bnd (x:=x) (p:=p))
  have HS1:=hide (fun h:TOk x p=>h.s1)
  have HS2:=hide (fun h:TOk x p=>h.s2)
  have HC1:=hide (fun h:TOk x p=>h.c1)
  have HC2:=hide (fun h:TOk x p=>h.c2)
  have HSZ:=hide (fun h:TOk x p=>h.size)
  rw [hts] at HBN HSZ
  have hmul:bt x p * bt x (p+1)≤255 * 255:=Nat.mul_le_mul (by have:=bt_le x p;omega) (by have:=bt_le x (p+1);omega)
  have HTS:=hide hts
  clear hts
  generalize bt x p=S at *
  generalize bt x (p+1)=C at *
  generalize p+1=p1 at *
  have e3:(258:Int)+(S:Int)=((258+S:Nat):Int):=by omega
  have e4:(S:Int) * (C:Int)=((S * C:Nat):Int):=by rw [Int.natCast_mul]
  have e5:((258+S:Nat):Int)+((S * C:Nat):Int)=((258+S+S * C:Nat):Int):=by omega
  have e6:(p:Int)+((258+S+S * C:Nat):Int)=((p+(258+S+S * C):Nat):Int):=by omega
  have w3:=wrap_i64 (258+S) (by omega)
  have w4:=wrap_i64 (S * C) (by omega)
  have w5:=wrap_i64 (258+S+S * C) (by omega)
  have w6:=wrap_i64 (p+(258+S+S * C)) (by omega)
  have hsc:((S:Int) < 1)∨(1≤(S:Int)∧24 < (S:Int))∨(1≤(S:Int)∧(S:Int)≤24∧(C:Int) < 1)∨(1≤(S:Int)∧(S:Int)≤24∧1≤(C:Int)∧24 < (C:Int))∨(1≤(S:Int)∧(S:Int)≤24∧1≤(C:Int)∧(C:Int)≤24∧(x.size:Int) < ((p+(258+S+S * C):Nat):Int))∨(1≤(S:Int)∧(S:Int)≤24∧1≤(C:Int)∧(C:Int)≤24∧((p+(258+S+S * C):Nat):Int)≤(x.size:Int)):=by omega
  rcases hsc with i1 | ⟨i1,i2⟩ | ⟨i1,i2,i3⟩ | ⟨i1,i2,i3,i4⟩ | ⟨i1,i2,i3,i4,i5⟩ | ⟨i1,i2,i3,i4,i5⟩
  iterate 5
   ·have HF:Hid (¬TOk x p):=fun h=>by have:=unhide HS1 h;have:=unhide HS2 h;have:=unhide HC1 h;have:=unhide HC2 h;have:=unhide HSZ h;omega
    clear hx hp hp2 h2 hmul
    generalize p+(258+S+S * C)=y4 at *
    generalize 258+S+S * C=y3 at *
    generalize 258+S=y2 at *
    generalize S * C=y1 at *
    generalize p+2=y at *
    go_enter Tryz.func85,Tryz.ntmps85
    go_wp2_with fail
    go_ret
    exact ⟨⟨0,rfl,.inr ⟨unhide HF,rfl⟩⟩,rfl⟩
  have HB:=hide (unhide HBN (by omega) (by omega) (by omega) (by omega) (by omega))
  have HLE:Hid (p+(258+S+S * C)≤x.size):=by show _≤_;omega
  have HP2:=hide hp2
  have hy3:(258+S+S * C:Nat)≤100000:=by omega
  have hy3I:((258+S+S * C:Nat):Int)≤100000:=by omega
  have hy32:2≤258+S+S * C:=by omega
  have HY2:=hide (rfl:258+S=258+S)
  clear hx hp hp2 h2 hmul HBN HS1 HS2 HC1 HC2 HSZ
  generalize hy4:p+(258+S+S * C)=y4 at *
  generalize hy3':258+S+S * C=y3 at *
  generalize hy2:258+S=y2 at *
  generalize S * C=y1 at *
  generalize p+2=y at *
  have HY4:=hide hy4
  have HY2':=hide hy2
  have HY32:=hide hy32
  have HY3:=hide hy3
  clear hy4 hy3' hy2 hy32 hy3 HY2
  go_enter Tryz.func85,Tryz.ntmps85
  go_wp2_with fail
  go_loop [8] (fun kx=>∃ k:Nat,kx=.int .i64 (k:Int)∧Hid (2≤k∧k≤y3∧∀ j,2≤j→j < k→bt x (p+j) < bnd S C j)) (fun kx=>lenLeft y3 kx)
  case atStart=>exact ⟨2,rfl,Nat.le_refl _,unhide HY32,fun j h1 h2=>by omega⟩
  case round =>
   obtain ⟨k,rfl,HH⟩:=hrel
   obtain ⟨hk2,hk,hj⟩:=unhide HH
   clear HH
   by_cases hlt:k < y3
   ·have hltI:(k:Int) < (y3:Int):=by omega
    have ek:(p:Int)+(k:Int)=((p+k:Nat):Int):=by omega
    have wk:=wrap_i64 (p+k) (by have:=unhide HP2;have:=unhide HY3;omega)
    have nk:(((p+k:Nat):Int)).toNat=p+k:=by omega
    have mk:p+k < x.size:=by have:=unhide HLE;have:=unhide HY4;omega
    have lk:((p+k:Nat):Int) < (x.size:Int):=by omega
    have bk:=bt_at x (p+k)
    have bkI:((bt x (p+k):Nat):Int) < 256:=by have:=bt_le x (p+k);omega
    have HLT:=hide hlt
    have HJ:=hide hj
    have HNEXT:Hid (bt x (p+k) < bnd S C k→∀ j,2≤j→j < k+1→bt x (p+j) < bnd S C j):=fun h j h1 h2=>by
     by_cases e:j=k
     ·rw [e];exact h
     ·exact hj j h1 (by omega)
    have HSTOP:Hid (¬bt x (p+k) < bnd S C k→¬TOk x p):=fun h ht=>h ((unhide HB).1 ht k hk2 hlt)
    have HK2:=hide hk2
    clear hk hj hk2
    generalize bt x (p+k)=b at *
    have hc:((k:Int) < 258∧(b:Int) < (C:Int)∧b < bnd S C k)∨((k:Int) < 258∧(C:Int)≤(b:Int)∧¬b < bnd S C k)∨(258≤(k:Int)∧(k:Int) < (y2:Int)∧(b:Int) < 2∧b < bnd S C k)∨(258≤(k:Int)∧(k:Int) < (y2:Int)∧2≤(b:Int)∧¬b < bnd S C k)∨(258≤(k:Int)∧(y2:Int)≤(k:Int)∧(b:Int) < (S:Int)∧b < bnd S C k)∨(258≤(k:Int)∧(y2:Int)≤(k:Int)∧(S:Int)≤(b:Int)∧¬b < bnd S C k):=by
     have hy2:=unhide HY2'
     unfold bnd
     rw [hy2]
     split
     ·omega
     ·split<;>omega
    generalize p+k=pk at *
    rcases hc with ⟨i6,i7,i8⟩ | ⟨i6,i7,i8⟩ | ⟨i6,i7,i8,i9⟩ | ⟨i6,i7,i8,i9⟩ | ⟨i6,i7,i8,i9⟩ | ⟨i6,i7,i8,i9⟩
    ·have HN:=hide (unhide HNEXT i8)
     clear HNEXT HSTOP i8
     go_wp2_with fail
     go_round
     case rel=>exact ⟨k+1,by go_num,by have:=unhide HK2;omega,unhide HLT,unhide HN⟩
     case measure=>have:=unhide HLT;simp [lenLeft,intOf];omega
    ·have HF:=hide (unhide HSTOP i8)
     clear HNEXT HSTOP i8
     go_wp2_with fail
     go_ret
     exact ⟨⟨0,rfl,.inr ⟨unhide HF,rfl⟩⟩,rfl⟩
    ·have HN:=hide (unhide HNEXT i9)
     clear HNEXT HSTOP i9
     go_wp2_with fail
     go_round
     case rel=>exact ⟨k+1,by go_num,by have:=unhide HK2;omega,unhide HLT,unhide HN⟩
     case measure=>have:=unhide HLT;simp [lenLeft,intOf];omega
    ·have HF:=hide (unhide HSTOP i9)
     clear HNEXT HSTOP i9
     go_wp2_with fail
     go_ret
     exact ⟨⟨0,rfl,.inr ⟨unhide HF,rfl⟩⟩,rfl⟩
    ·have HN:=hide (unhide HNEXT i9)
     clear HNEXT HSTOP i9
     go_wp2_with fail
     go_round
     case rel=>exact ⟨k+1,by go_num,by have:=unhide HK2;omega,unhide HLT,unhide HN⟩
     case measure=>have:=unhide HLT;simp [lenLeft,intOf];omega
    ·have HF:=hide (unhide HSTOP i9)
     clear HNEXT HSTOP i9
     go_wp2_with fail
     go_ret
     exact ⟨⟨0,rfl,.inr ⟨unhide HF,rfl⟩⟩,rfl⟩
   ·have hk3:k=y3:=by omega
    subst hk3
    have HT:=hide ((unhide HB).2 hj)
    have hltI:¬(k:Int) < (k:Int):=by omega
    clear hk hj hlt hk2
    go_wp2_with fail
    go_ret
    exact ⟨⟨k,rfl,.inl ⟨unhide HT,(unhide HTS).symm⟩⟩,rfl⟩
end Mc
end Go.Proofs.YtobfpgoepaeknaaGreat
