/-
  The law Policies.
  The look over a text: among, digit, hex, outside, inside, goes.
  The look over a text: outside, inside, goes, place.
  The look over a text: inside, goes.
-/
import Derived.Test.YtjooemengpeaaaaGreatT24
import Derived.Test.YtjooemengpeaaaaGreatQk
import Derived.Test.YtjooemengpeaaaaGreatT07
import Derived.Test.YtjooemengpeaaaaGreatT04
namespace Go.Proofs.YtjooemengpeaaaaGreat
namespace Mc
open Go.RowKit
attribute [local go_sem ↓] Go.wp_at_zero Go.wp_at_succ
open Classical in
noncomputable def opE (x:ByteArray):Int:=if ImOk x then 0 else 7
set_option maxRecDepth 20000 in
set_option maxHeartbeats 2000000 in
theorem VOpen_any (w:World) (x:ByteArray) (hx:x.size≤9223372036854775807) :
  Calls Tryz.prog 17 #[.string x] w fun e w'=>e=.returned (.int .i64 (opE x))∧Below w.heap.size w w':=by
 have HO:=hide (Open_any w x hx)
 clear hx
 go_enter Tryz.func17,Tryz.ntmps17
 go_wp2_with fail
 refine (unhide HO).mono ?_
 clear HO
 rintro e w1 ⟨hb,⟨hI,g,tc,rfl,hT⟩ | ⟨hI,rfl⟩⟩
 ·have HB:=hide (fun o=>hb.alloc hb.size o)
  have HE:Hid (opE x=0):=by unfold opE;rw [if_pos hI];exact rfl
  clear hb hT hI
  unfold imC
  go_wp2_with fail
  go_ret
  exact ⟨by rw [unhide HE];rfl,unhide HB _⟩
 ·have HB:=hide (fun o=>hb.alloc hb.size o)
  have HE:Hid (opE x=7):=by unfold opE;rw [if_neg hI];exact rfl
  clear hb hI
  unfold zIm
  go_wp2_with fail
  go_ret
  exact ⟨by rw [unhide HE];rfl,unhide HB _⟩
set_option maxRecDepth 20000 in
set_option maxHeartbeats 2000000 in
theorem ROpen_any (w:World) (x:ByteArray) (hx:x.size≤9223372036854775807) :
  Calls Tryz.prog 18 #[.string x] w fun e w'=>e=.returned (.int .i64 (opE x))∧Below w.heap.size w w':=by
 have HO:=hide (VRead_any w x hx)
 clear hx
 go_enter Tryz.func18,Tryz.ntmps18
 go_wp2_with fail
 refine (unhide HO).mono ?_
 clear HO
 rintro e w1 ⟨hb,⟨hI,g,tc,h1,h2,rfl,h3⟩ | ⟨hI,N,f,ta,n,tc,rfl⟩⟩
 ·have HB:=hide (fun o=>hb.alloc hb.size o)
  have HE:Hid (opE x=0):=by unfold opE;rw [if_pos hI];exact rfl
  clear hb h1 h2 h3 hI
  go_wp2_with fail
  go_ret
  exact ⟨by rw [unhide HE];rfl,unhide HB _⟩
 ·have HB:=hide (fun o=>hb.alloc hb.size o)
  have HE:Hid (opE x=7):=by unfold opE;rw [if_neg hI];exact rfl
  clear hb hI
  go_wp2_with fail
  go_ret
  exact ⟨by rw [unhide HE];rfl,unhide HB _⟩
set_option maxHeartbeats 400000 in
theorem numP_any (n:Int) (w:World):Calls Tryz.prog 16 #[.int .i64 n] w fun e w'=>e=.returned (.int .i64 n)∧w'=w:=by
 go_enter Tryz.func16,Tryz.ntmps16
 go_wp2
 go_ret
 exact ⟨rfl,rfl⟩
set_option maxRecDepth 20000 in
set_option maxHeartbeats 2000000 in
theorem opens_any (w:World) (x:ByteArray) (hx:x.size≤9223372036854775807) :
  Calls Tryz.prog 6 #[.string x] w fun e w'=>e=.returned (.bool true)∧Below w.heap.size w w':=by
 have HV:=hide (VOpen_any w x hx)
 have HR:=hide (fun w=>ROpen_any w x hx)
 clear hx
 generalize opE x=o at *
 go_enter Tryz.func6,Tryz.ntmps6
 go_wp2_with fail
 refine (unhide HV).mono ?_
 rintro e w1 ⟨rfl,hb1⟩
 go_wp2_with fail
 refine (unhide HR w1).mono ?_
 rintro e w2 ⟨rfl,hb2⟩
 have HB:=hide (below_tr hb1 hb2)
 clear hb1 hb2 HV HR
 go_wp2_with (go_at_call 16;refine (numP_any _ _).mono ?_;rintro e w' ⟨rfl,rfl⟩)
 go_ret
 exact ⟨by first | rfl | exact ret_bool (by simp),unhide HB⟩
theorem imB_le {p:ByteArray} {n:Int} {N:Nat} {ts:Nat→TabN} (h:CpO p n N ts):(imB N (cutR p) (cutL p).length (fun j=>tbS (ts j))).size≤9223372036854775807:=by
 rw [imB_size]
 have h1:=joinT_size (fun j=>tbS (ts j)) (cutL p).length (fun j hj=>tbS_le (h.ok j hj))
 have h2:=(fcheck_ok.1.1 h.form).1
 have h3:=h.l4
 omega
set_option maxRecDepth 20000 in
set_option maxHeartbeats 2000000 in
theorem compiles_any (hTO:TabsOk) (w:World) (p:ByteArray) (n:Int) (hx:p.size≤9223372036854775807) :
  Calls Tryz.prog 5 #[.string p,.int .i64 n] w fun e w'=>e=.returned (.bool true)∧Below w.heap.size w w':=by
 have HV:=hide (VCompile_any w p n hx)
 have HTO:=hide hTO
 have HX:=hide hx
 clear hx hTO
 go_enter Tryz.func5,Tryz.ntmps5
 go_wp2_with fail
 refine (unhide HV).mono ?_
 rintro e w1 ⟨hb1,s,er,at_,rfl,hA⟩
 have HR:=hide (RCompile_of (unhide HTO) w1 (unhide HX) hA)
 have HB1:=hide hb1
 have HOP:Hid (er=0→∀ w,Calls Tryz.prog 17 #[.string s] w fun e w'=>e=.returned (.int .i64 0)∧Below w.heap.size w w'):=fun he w=>by
  rcases hA with ⟨hE,-⟩ | ⟨N,ts,hO,rfl,-,-⟩
  ·exact absurd he hE.ne
  ·have hI:=(imB_ok hO.n16 hO.l1 hO.l4 hO.form hO.ok).1
   have:=VOpen_any w _ (imB_le hO)
   unfold opE at this
   rw [if_pos hI] at this
   exact this
 clear hb1 hA HV
 go_wp2_with fail
 refine (unhide HR).mono ?_
 rintro e w2 ⟨rfl,hb2⟩
 have HB2:=hide (below_tr (unhide HB1) hb2)
 clear hb2 HR HB1
 by_cases he:er=0
 ·have HO2:=hide (unhide HOP he)
  subst he
  clear HOP
  go_wp2_with (first
   | (go_at_call 16;refine (numP_any _ _).mono ?_;rintro e w' ⟨rfl,rfl⟩)
   | (go_at_call 17;refine (unhide HO2 _).mono ?_;rintro e w4 ⟨rfl,hb4⟩;have HB4:=hide (below_tr (unhide HB2) hb4);clear hb4))
  all_goals go_ret
  all_goals exact ⟨by first | rfl | exact ret_bool (by simp),unhide HB4⟩
 ·clear HOP
  go_wp2_with (go_at_call 16;refine (numP_any _ _).mono ?_;rintro e w' ⟨rfl,rfl⟩)
  all_goals go_ret
  all_goals exact ⟨by first | rfl | exact ret_bool (by simp),unhide HB2⟩
set_option maxRecDepth 20000 in
set_option maxHeartbeats 2000000 in
theorem Policies_of (hTO:TabsOk) (p:ByteArray) (n:Int) (x:ByteArray) (w:World) (hp:p.size≤9223372036854775807) (hx:x.size≤9223372036854775807) :
  Calls Tryz.prog 3 #[.string p,.int .i64 n,.string x] w fun e w'=>e=.returned (.bool true)∧Below w.heap.size w w':=by
 have HC:=hide (compiles_any hTO w p n hp)
 have HO:=hide (fun w=>opens_any w x hx)
 clear hTO hp hx
 go_enter Tryz.func3,Tryz.ntmps3
 go_wp2_with fail
 refine (unhide HC).mono ?_
 rintro e w1 ⟨rfl,hb1⟩
 go_wp2_with fail
 refine (unhide HO w1).mono ?_
 rintro e w2 ⟨rfl,hb2⟩
 have HB:=hide (below_tr hb1 hb2)
 clear hb1 hb2 HC HO
 go_wp2_with fail
 go_ret
 exact ⟨rfl,unhide HB⟩
end Mc
end Go.Proofs.YtjooemengpeaaaaGreat
namespace Go.Proofs.YtjooemengpeaaaaGreat
open Go.RowKit
def anyB (s:ByteArray) (c:Int):Bool:=s.data.toList.any fun b=>(b.toNat:Int) == c
set_option maxHeartbeats 400000 in
theorem among_any (c:Int) (s:ByteArray) (w:World) (hs:s.size≤60) :
  Calls Tryz.prog 146 #[.int .u8 c,.string s] w fun e w'=>e=.returned (.bool (anyB s c))∧w'=w:=by
 have hs':(s.size:Int)≤60:=by omega
 have HS:=hide hs
 clear hs
 go_enter Tryz.func146,Tryz.ntmps146
 go_wp2
 go_loop [5] (fun i=>∃ k:Nat,k≤s.size∧i=.int .i64 k∧Hid (∀ j (h:j < s.size),j < k→((s[j].toNat:Int) == c)=false)) (fun i=>s.size - (intOf i).toNat)
 case atStart=>exact ⟨0,Nat.zero_le _,rfl,fun j _ hj=>absurd hj (Nat.not_lt_zero j)⟩
 case round =>
  obtain ⟨k,hk,rfl,H⟩:=hrel
  by_cases hlt:k < s.size
  ·by_cases hc:((s[k].toNat:Int) == c)=true
   ·go_wp2
    go_ret
    refine ⟨ret_bool ?_,rfl⟩
    symm
    unfold anyB
    rw [List.any_eq_true]
    exact ⟨s[k],by simp [ByteArray.getElem_eq_getElem_data],hc⟩
   ·have hc':((s[k].toNat:Int) == c)=false:=by simpa using hc
    clear hc
    have HC:=hide hc'
    go_wp2
    go_round
    case rel =>
     refine ⟨k+1,by omega,by go_num,fun j hj hjk=>?_⟩
     by_cases e:j=k
     ·subst e;exact unhide HC
     ·exact unhide H j hj (by omega)
    case measure=>simp [intOf];omega
  ·go_wp2
   go_ret
   refine ⟨ret_bool ?_,rfl⟩
   symm
   unfold anyB
   rw [List.any_eq_false]
   intro b hb
   rw [List.mem_iff_getElem] at hb
   obtain ⟨j,hj,rfl⟩:=hb
   have hj':j < s.size:=by simpa using hj
   have:=unhide H j hj' (by omega)
   rw [ByteArray.getElem_eq_getElem_data] at this
   simpa using this
theorem anyB_marks (c:Int):anyB { data:=#[124,42,43,63,123,125,40,41,91,93,46,92,45,94] } c=mayBeEscapedB c:=by
 rw [Bool.eq_iff_iff]
 simp [anyB,mayBeEscapedB,isMarkB]
 omega
theorem marks_any (c:Int) (w:World) :
  Calls Tryz.prog 146 #[.int .u8 c,.string { data:=#[124,42,43,63,123,125,40,41,91,93,46,92,45,94] }] w fun e w'=>e=.returned (.bool (mayBeEscapedB c))∧w'=w:=by
 rw [←anyB_marks]
 exact among_any c _ w (by decide)
set_option maxHeartbeats 400000 in
theorem dec_any (c:Int) (w:World):Calls Tryz.prog 56 #[.int .u8 c] w fun e w'=>e=.returned (.bool (decB c))∧w'=w:=by
 go_enter Tryz.func56,Tryz.ntmps56
 go_wp2
 all_goals
  go_ret
  exact ⟨ret_bool (by simp_all [decB];try (intros;omega)),rfl⟩
set_option maxHeartbeats 400000 in
theorem hex_any (c:Int) (w:World):Calls Tryz.prog 147 #[.int .u8 c] w fun e w'=>e=.returned (.bool (hexB c))∧w'=w:=by
 go_enter Tryz.func147,Tryz.ntmps147
 go_wp2_with (go_at_call 56;refine (dec_any _ _).mono ?_;rintro e w' ⟨rfl,rfl⟩)
 all_goals
  go_ret
  exact ⟨ret_bool (by simp_all [hexB];try (intros;omega)),rfl⟩
end Go.Proofs.YtjooemengpeaaaaGreat
namespace Go.Proofs.YtjooemengpeaaaaGreat
open Go.RowKit
def ScB (w:World) (b:Nat) (x:Sc):Prop:=w.heap[b]?=some (.cells #[.int .i64 x.mode,.int .i64 x.depth,.int .i64 x.back] 195 (0,0))
def ScP (w w':World) (b:Nat) (x:Sc):Prop:=w.grownBy w' (some b)∧ScB w' b x
section
variable {w w' : World} {b : Nat} {x : Sc}
theorem ScB.cells (h:ScB w b x):w.cell? ⟨b,0,none⟩=some (.int .i64 x.mode)∧w.cell? ⟨b,1,none⟩=some (.int .i64 x.depth)∧w.cell? ⟨b,2,none⟩=some (.int .i64 x.back):=by
 unfold ScB at h
 simp [World.cell?,h]
theorem ScB.unfrozen (h:ScB w b x):w.frozen? ⟨b,0,none⟩=false∧w.frozen? ⟨b,1,none⟩=false∧w.frozen? ⟨b,2,none⟩=false:=by
 unfold ScB at h
 simp [World.frozen?,h]
theorem ScP.refl (h:ScB w b x):ScP w w b x:=⟨grownBy_refl _ _,h⟩
theorem ScP.mode (h:ScP w w' b x) (m:Int):ScP w (w'.setCell ⟨b,0,none⟩ (.int .i64 m)) b ⟨m,x.depth,x.back⟩:=by
 refine ⟨grownBy_setCell h.1 _,?_⟩
 have hr:=h.2
 unfold ScB at hr ⊢
 simp only [World.setCell,Array.getElem?_modify,if_pos,hr]
 simp
theorem ScP.depth (h:ScP w w' b x) (m:Int):ScP w (w'.setCell ⟨b,1,none⟩ (.int .i64 m)) b ⟨x.mode,m,x.back⟩:=by
 refine ⟨grownBy_setCell h.1 _,?_⟩
 have hr:=h.2
 unfold ScB at hr ⊢
 simp only [World.setCell,Array.getElem?_modify,if_pos,hr]
 simp
theorem ScP.back (h:ScP w w' b x) (m:Int):ScP w (w'.setCell ⟨b,2,none⟩ (.int .i64 m)) b ⟨x.mode,x.depth,m⟩:=by
 refine ⟨grownBy_setCell h.1 _,?_⟩
 have hr:=h.2
 unfold ScB at hr ⊢
 simp only [World.setCell,Array.getElem?_modify,if_pos,hr]
 simp
end
set_option maxHeartbeats 2000000 in
theorem outside_any (w:World) (b:Nat) (x:Sc) (c:Int) (h:ScB w b x) (hd0:-1≤x.depth) (hd1:x.depth≤100) :
  Calls Tryz.prog 145 #[.pointer (some ⟨b,0,none⟩),.int .u8 c] w fun e w' =>
   e=.returned (.bool (outsideS x c).1)∧ScP w w' b (outsideS x c).2:=by
 obtain ⟨k0,k1,k2⟩:=h.cells
 obtain ⟨f0,f1,f2⟩:=h.unfrozen
 by_cases c0:(c == 124)=true
 ·have e0:outsideS x c=(true,⟨0,x.depth,x.back⟩):=by simp only [outsideS,c0];rfl
  rw [e0]
  clear e0
  go_enter Tryz.func145,Tryz.ntmps145
  go_wp2
  all_goals
   go_ret
   exact ⟨rfl,(ScP.refl h).mode 0⟩
 ·have c0':(c == 124)=false:=by simpa using c0
  clear c0
  by_cases c1:(c == 40)=true
  ·have e0:outsideS x c=(true,⟨0,x.depth+1,x.back⟩):=by simp only [outsideS,c0',c1];rfl
   rw [e0]
   clear e0
   go_enter Tryz.func145,Tryz.ntmps145
   go_wp2
   all_goals
    go_ret
    exact ⟨rfl,((ScP.refl h).mode 0).depth (x.depth+1)⟩
  ·have c1':(c == 40)=false:=by simpa using c1
   clear c1
   by_cases c2:(c == 41)=true
   ·have e0:outsideS x c=(decide (0≤x.depth - 1),⟨1,x.depth - 1,x.back⟩):=by simp only [outsideS,c0',c1',c2];rfl
    rw [e0]
    clear e0
    go_enter Tryz.func145,Tryz.ntmps145
    go_wp2
    all_goals
     go_ret
     exact ⟨ret_bool (by first | rfl | simp | (simp;omega)),((ScP.refl h).mode 1).depth (x.depth - 1)⟩
   ·have c2':(c == 41)=false:=by simpa using c2
    clear c2
    by_cases c3:(c == 42)=true
    ·have e0:outsideS x c=(x.mode == 1,x):=by simp only [outsideS,c0',c1',c2',c3];rfl
     rw [e0]
     clear e0
     go_enter Tryz.func145,Tryz.ntmps145
     go_wp2
     all_goals
      go_ret
      exact ⟨rfl,ScP.refl h⟩
    ·have c3':(c == 42)=false:=by simpa using c3
     clear c3
     by_cases c4:(c == 43)=true
     ·have e0:outsideS x c=(x.mode == 1,x):=by simp only [outsideS,c0',c1',c2',c3',c4];rfl
      rw [e0]
      clear e0
      go_enter Tryz.func145,Tryz.ntmps145
      go_wp2
      all_goals
       go_ret
       exact ⟨rfl,ScP.refl h⟩
     ·have c4':(c == 43)=false:=by simpa using c4
      clear c4
      by_cases c5:(c == 63)=true
      ·have e0:outsideS x c=(x.mode == 1,x):=by simp only [outsideS,c0',c1',c2',c3',c4',c5];rfl
       rw [e0]
       clear e0
       go_enter Tryz.func145,Tryz.ntmps145
       go_wp2
       all_goals
        go_ret
        exact ⟨rfl,ScP.refl h⟩
      ·have c5':(c == 63)=false:=by simpa using c5
       clear c5
       by_cases c6:(c == 123)=true
       ·have e0:outsideS x c=(x.mode == 1,⟨4,x.depth,x.back⟩):=by simp only [outsideS,c0',c1',c2',c3',c4',c5',c6];rfl
        rw [e0]
        clear e0
        go_enter Tryz.func145,Tryz.ntmps145
        go_wp2
        all_goals
         go_ret
         exact ⟨rfl,(ScP.refl h).mode 4⟩
       ·have c6':(c == 123)=false:=by simpa using c6
        clear c6
        by_cases c7:(c == 91)=true
        ·have e0:outsideS x c=(true,⟨8,x.depth,x.back⟩):=by simp only [outsideS,c0',c1',c2',c3',c4',c5',c6',c7];rfl
         rw [e0]
         clear e0
         go_enter Tryz.func145,Tryz.ntmps145
         go_wp2
         all_goals
          go_ret
          exact ⟨rfl,(ScP.refl h).mode 8⟩
        ·have c7':(c == 91)=false:=by simpa using c7
         clear c7
         by_cases c8:(c == 92)=true
         ·have e0:outsideS x c=(true,⟨2,x.depth,1⟩):=by simp only [outsideS,c0',c1',c2',c3',c4',c5',c6',c7',c8];rfl
          rw [e0]
          clear e0
          go_enter Tryz.func145,Tryz.ntmps145
          go_wp2
          all_goals
           go_ret
           exact ⟨rfl,((ScP.refl h).mode 2).back 1⟩
         ·have c8':(c == 92)=false:=by simpa using c8
          clear c8
          by_cases c9:(c == 125)=true
          ·have e0:outsideS x c=(false,x):=by simp only [outsideS,c0',c1',c2',c3',c4',c5',c6',c7',c8',c9];rfl
           rw [e0]
           clear e0
           go_enter Tryz.func145,Tryz.ntmps145
           go_wp2
           all_goals
            go_ret
            exact ⟨rfl,ScP.refl h⟩
          ·have c9':(c == 125)=false:=by simpa using c9
           clear c9
           by_cases c10:(c == 93)=true
           ·have e0:outsideS x c=(false,x):=by simp only [outsideS,c0',c1',c2',c3',c4',c5',c6',c7',c8',c9',c10];rfl
            rw [e0]
            clear e0
            go_enter Tryz.func145,Tryz.ntmps145
            go_wp2
            all_goals
             go_ret
             exact ⟨rfl,ScP.refl h⟩
           ·have c10':(c == 93)=false:=by simpa using c10
            clear c10
            have e0:outsideS x c=(printB c,⟨1,x.depth,x.back⟩):=by simp only [outsideS,c0',c1',c2',c3',c4',c5',c6',c7',c8',c9',c10'];rfl
            rw [e0]
            clear e0
            go_enter Tryz.func145,Tryz.ntmps145
            go_wp2
            all_goals
             go_ret
             exact ⟨ret_bool (by simp_all [printB];try (intros;omega)),(ScP.refl h).mode 1⟩
end Go.Proofs.YtjooemengpeaaaaGreat
namespace Go.Proofs.YtjooemengpeaaaaGreat
open Go.RowKit
set_option maxHeartbeats 2000000 in
theorem inside_yes (w:World) (b:Nat) (x:Sc) (c:Int) (h:ScB w b x) (hm:(x.mode == 11)=true) :
  Calls Tryz.prog 148 #[.pointer (some ⟨b,0,none⟩),.int .u8 c] w fun e w' =>
   e=.returned (.bool (insideS x c).1)∧ScP w w' b (insideS x c).2:=by
 obtain ⟨k0,k1,k2⟩:=h.cells
 obtain ⟨f0,f1,f2⟩:=h.unfrozen
 have et:toS x=12:=by simp only [toS,hm,if_true]
 by_cases c0:(c == 94)=true
 ·have e0:insideS x c=(x.mode == 8,⟨9,x.depth,x.back⟩):=by simp only [insideS,c0,et];rfl
  rw [e0]
  clear e0 et
  go_enter Tryz.func148,Tryz.ntmps148
  go_wp2
  all_goals
   go_ret
   exact ⟨ret_bool (by first | rfl | simp_all),(ScP.refl h).mode 9⟩
 ·have c0':(c == 94)=false:=by simpa using c0
  clear c0
  by_cases c1:(c == 45)=true
  ·have e0:insideS x c=(x.mode == 10,⟨11,x.depth,x.back⟩):=by simp only [insideS,c0',c1,et];rfl
   rw [e0]
   clear e0 et
   go_enter Tryz.func148,Tryz.ntmps148
   go_wp2
   all_goals
    go_ret
    exact ⟨ret_bool (by first | rfl | simp_all),(ScP.refl h).mode 11⟩
  ·have c1':(c == 45)=false:=by simpa using c1
   clear c1
   by_cases c2:(c == 93)=true
   ·have e0:insideS x c=(x.mode == 10 || x.mode == 12,⟨1,x.depth,x.back⟩):=by simp only [insideS,c0',c1',c2,et];rfl
    rw [e0]
    clear e0 et
    go_enter Tryz.func148,Tryz.ntmps148
    go_wp2
    all_goals
     go_ret
     exact ⟨ret_bool (by simp_all),(ScP.refl h).mode 1⟩
   ·have c2':(c == 93)=false:=by simpa using c2
    clear c2
    by_cases c3:(c == 91)=true
    ·have e0:insideS x c=(false,x):=by simp only [insideS,c0',c1',c2',c3,et];rfl
     rw [e0]
     clear e0 et
     go_enter Tryz.func148,Tryz.ntmps148
     go_wp2
     all_goals
      go_ret
      exact ⟨rfl,ScP.refl h⟩
    ·have c3':(c == 91)=false:=by simpa using c3
     clear c3
     by_cases c4:(c == 92)=true
     ·have e0:insideS x c=(true,⟨2,x.depth,12⟩):=by simp only [insideS,c0',c1',c2',c3',c4,et];rfl
      rw [e0]
      clear e0 et
      go_enter Tryz.func148,Tryz.ntmps148
      go_wp2
      all_goals
       go_ret
       exact ⟨rfl,((ScP.refl h).mode 2).back 12⟩
     ·have c4':(c == 92)=false:=by simpa using c4
      clear c4
      have e0:insideS x c=(printB c,⟨12,x.depth,x.back⟩):=by simp only [insideS,c0',c1',c2',c3',c4',et];rfl
      rw [e0]
      clear e0 et
      go_enter Tryz.func148,Tryz.ntmps148
      go_wp2
      all_goals
       go_ret
       exact ⟨ret_bool (by simp_all [printB];try (intros;omega)),(ScP.refl h).mode 12⟩
set_option maxHeartbeats 2000000 in
theorem inside_no (w:World) (b:Nat) (x:Sc) (c:Int) (h:ScB w b x) (hm:(x.mode == 11)=false) :
  Calls Tryz.prog 148 #[.pointer (some ⟨b,0,none⟩),.int .u8 c] w fun e w' =>
   e=.returned (.bool (insideS x c).1)∧ScP w w' b (insideS x c).2:=by
 obtain ⟨k0,k1,k2⟩:=h.cells
 obtain ⟨f0,f1,f2⟩:=h.unfrozen
 have et:toS x=10:=by simp only [toS,hm];rfl
 by_cases c0:(c == 94)=true
 ·have e0:insideS x c=(x.mode == 8,⟨9,x.depth,x.back⟩):=by simp only [insideS,c0,et];rfl
  rw [e0]
  clear e0 et
  go_enter Tryz.func148,Tryz.ntmps148
  go_wp2
  all_goals
   go_ret
   exact ⟨ret_bool (by first | rfl | simp_all),(ScP.refl h).mode 9⟩
 ·have c0':(c == 94)=false:=by simpa using c0
  clear c0
  by_cases c1:(c == 45)=true
  ·have e0:insideS x c=(x.mode == 10,⟨11,x.depth,x.back⟩):=by simp only [insideS,c0',c1,et];rfl
   rw [e0]
   clear e0 et
   go_enter Tryz.func148,Tryz.ntmps148
   go_wp2
   all_goals
    go_ret
    exact ⟨ret_bool (by first | rfl | simp_all),(ScP.refl h).mode 11⟩
  ·have c1':(c == 45)=false:=by simpa using c1
   clear c1
   by_cases c2:(c == 93)=true
   ·have e0:insideS x c=(x.mode == 10 || x.mode == 12,⟨1,x.depth,x.back⟩):=by simp only [insideS,c0',c1',c2,et];rfl
    rw [e0]
    clear e0 et
    go_enter Tryz.func148,Tryz.ntmps148
    go_wp2
    all_goals
     go_ret
     exact ⟨ret_bool (by simp_all),(ScP.refl h).mode 1⟩
   ·have c2':(c == 93)=false:=by simpa using c2
    clear c2
    by_cases c3:(c == 91)=true
    ·have e0:insideS x c=(false,x):=by simp only [insideS,c0',c1',c2',c3,et];rfl
     rw [e0]
     clear e0 et
     go_enter Tryz.func148,Tryz.ntmps148
     go_wp2
     all_goals
      go_ret
      exact ⟨rfl,ScP.refl h⟩
    ·have c3':(c == 91)=false:=by simpa using c3
     clear c3
     by_cases c4:(c == 92)=true
     ·have e0:insideS x c=(true,⟨2,x.depth,10⟩):=by simp only [insideS,c0',c1',c2',c3',c4,et];rfl
      rw [e0]
      clear e0 et
      go_enter Tryz.func148,Tryz.ntmps148
      go_wp2
      all_goals
       go_ret
       exact ⟨rfl,((ScP.refl h).mode 2).back 10⟩
     ·have c4':(c == 92)=false:=by simpa using c4
      clear c4
      have e0:insideS x c=(printB c,⟨10,x.depth,x.back⟩):=by simp only [insideS,c0',c1',c2',c3',c4',et];rfl
      rw [e0]
      clear e0 et
      go_enter Tryz.func148,Tryz.ntmps148
      go_wp2
      all_goals
       go_ret
       exact ⟨ret_bool (by simp_all [printB];try (intros;omega)),(ScP.refl h).mode 10⟩
theorem inside_any (w:World) (b:Nat) (x:Sc) (c:Int) (h:ScB w b x) :
  Calls Tryz.prog 148 #[.pointer (some ⟨b,0,none⟩),.int .u8 c] w fun e w' =>
   e=.returned (.bool (insideS x c).1)∧ScP w w' b (insideS x c).2:=by
 by_cases hm:(x.mode == 11)=true
 ·exact inside_yes w b x c h hm
 ·exact inside_no w b x c h (by simpa using hm)
set_option maxHeartbeats 2000000 in
theorem goes_any (w:World) (b:Nat) (x:Sc) (c:Int) (hSc:ScB w b x) (hd0:-1≤x.depth) (hd1:x.depth≤100) (_hm0:0≤x.mode) (_hm1:x.mode≤12) :
  Calls Tryz.prog 123 #[.pointer (some ⟨b,0,none⟩),.int .u8 c] w fun e w' =>
   e=.returned (.bool (goesS x c).1)∧ScP w w' b (goesS x c).2:=by
 obtain ⟨k0,k1,k2⟩:=hSc.cells
 obtain ⟨f0,f1,f2⟩:=hSc.unfrozen
 have HO:=hide (outside_any w b x c hSc hd0 hd1)
 have HI:=hide (inside_any w b x c hSc)
 by_cases c0:(x.mode == 0)=true
 ·have e0:goesS x c=outsideS x c:=by simp only [goesS,c0];rfl
  rw [e0]
  clear e0
  go_enter Tryz.func123,Tryz.ntmps123
  go_wp2_with (go_at_call 145;refine (unhide HO).mono ?_;rintro e w1 ⟨rfl,hw1⟩)
  go_ret
  exact ⟨rfl,hw1⟩
 ·have c0':(x.mode == 0)=false:=by simpa using c0
  clear c0
  by_cases c1:(x.mode == 1)=true
  ·have e0:goesS x c=outsideS x c:=by simp only [goesS,c0',c1];rfl
   rw [e0]
   clear e0
   go_enter Tryz.func123,Tryz.ntmps123
   go_wp2_with (go_at_call 145;refine (unhide HO).mono ?_;rintro e w1 ⟨rfl,hw1⟩)
   go_ret
   exact ⟨rfl,hw1⟩
  ·have c1':(x.mode == 1)=false:=by simpa using c1
   clear c1
   by_cases c2:(x.mode == 2)=true
   ·by_cases hb:mayBeEscapedB c=true
    ·have e0:goesS x c=(true,⟨x.back,x.depth,x.back⟩):=by simp only [goesS,c0',c1',c2,hb];rfl
     rw [e0]
     clear e0
     go_enter Tryz.func123,Tryz.ntmps123
     go_wp2_with (first | (go_at_call 146;refine (marks_any _ _).mono ?_;rintro e w1 ⟨rfl,rfl⟩) | (go_at_call 147;refine (hex_any _ _).mono ?_;rintro e w1 ⟨rfl,rfl⟩))
     go_ret
     exact ⟨rfl,((ScP.refl hSc).mode 3).mode x.back⟩
    ·have hb':mayBeEscapedB c=false:=by simpa using hb
     clear hb
     have e0:goesS x c=(hexB c,⟨3,x.depth,x.back⟩):=by simp only [goesS,c0',c1',c2,hb'];rfl
     rw [e0]
     clear e0
     go_enter Tryz.func123,Tryz.ntmps123
     go_wp2_with (first | (go_at_call 146;refine (marks_any _ _).mono ?_;rintro e w1 ⟨rfl,rfl⟩) | (go_at_call 147;refine (hex_any _ _).mono ?_;rintro e w1 ⟨rfl,rfl⟩))
     go_ret
     exact ⟨rfl,(ScP.refl hSc).mode 3⟩
   ·have c2':(x.mode == 2)=false:=by simpa using c2
    clear c2
    by_cases c3:(x.mode == 3)=true
    ·have e0:goesS x c=(hexB c,⟨x.back,x.depth,x.back⟩):=by simp only [goesS,c0',c1',c2',c3];rfl
     rw [e0]
     clear e0
     go_enter Tryz.func123,Tryz.ntmps123
     go_wp2_with (go_at_call 147;refine (hex_any _ _).mono ?_;rintro e w1 ⟨rfl,rfl⟩)
     go_ret
     exact ⟨rfl,(ScP.refl hSc).mode x.back⟩
    ·have c3':(x.mode == 3)=false:=by simpa using c3
     clear c3
     by_cases c4:(x.mode == 4)=true
     ·have e0:goesS x c=(decB c,⟨x.mode+1,x.depth,x.back⟩):=by simp only [goesS,c0',c1',c2',c3',c4];rfl
      rw [e0]
      clear e0
      go_enter Tryz.func123,Tryz.ntmps123
      go_wp2_with (go_at_call 56;refine (dec_any _ _).mono ?_;rintro e w1 ⟨rfl,rfl⟩)
      go_ret
      exact ⟨rfl,(ScP.refl hSc).mode (x.mode+1)⟩
     ·have c4':(x.mode == 4)=false:=by simpa using c4
      clear c4
      by_cases c5:(x.mode == 6)=true
      ·have e0:goesS x c=(decB c,⟨x.mode+1,x.depth,x.back⟩):=by simp only [goesS,c0',c1',c2',c3',c4',c5];rfl
       rw [e0]
       clear e0
       go_enter Tryz.func123,Tryz.ntmps123
       go_wp2_with (go_at_call 56;refine (dec_any _ _).mono ?_;rintro e w1 ⟨rfl,rfl⟩)
       go_ret
       exact ⟨rfl,(ScP.refl hSc).mode (x.mode+1)⟩
      ·have c5':(x.mode == 6)=false:=by simpa using c5
       clear c5
       by_cases c6:(x.mode == 5)=true
       ·have e0:goesS x c=(c == 44,⟨6,x.depth,x.back⟩):=by simp only [goesS,c0',c1',c2',c3',c4',c5',c6];rfl
        rw [e0]
        clear e0
        go_enter Tryz.func123,Tryz.ntmps123
        go_wp2
        go_ret
        exact ⟨rfl,(ScP.refl hSc).mode 6⟩
       ·have c6':(x.mode == 5)=false:=by simpa using c6
        clear c6
        by_cases c7:(x.mode == 7)=true
        ·have e0:goesS x c=(c == 125,⟨1,x.depth,x.back⟩):=by simp only [goesS,c0',c1',c2',c3',c4',c5',c6',c7];rfl
         rw [e0]
         clear e0
         go_enter Tryz.func123,Tryz.ntmps123
         go_wp2
         go_ret
         exact ⟨rfl,(ScP.refl hSc).mode 1⟩
        ·have c7':(x.mode == 7)=false:=by simpa using c7
         clear c7
         have e0:goesS x c=insideS x c:=by simp only [goesS,c0',c1',c2',c3',c4',c5',c6',c7'];rfl
         rw [e0]
         clear e0
         go_enter Tryz.func123,Tryz.ntmps123
         go_wp2_with (go_at_call 148;refine (unhide HI).mono ?_;rintro e w1 ⟨rfl,hw1⟩)
         go_ret
         exact ⟨rfl,hw1⟩
end Go.Proofs.YtjooemengpeaaaaGreat
