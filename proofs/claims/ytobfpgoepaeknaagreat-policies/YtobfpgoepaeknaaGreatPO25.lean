/-
  The look over a text: outside, inside, goes, place.
  The look over a text: inside, goes.
  The look over a text: place.
  The document's answer: over, nibble, named.
-/
import Derived.Test.YtobfpgoepaeknaaGreatPO24
import Derived.Test.YtobfpgoepaeknaaGreatPO04
namespace Go.Proofs.YtobfpgoepaeknaaGreat
open Go.RowKit
def ScB (w:World) (b:Nat) (x:Sc):Prop:=w.heap[b]?=some (.cells #[.int .i64 x.mode,.int .i64 x.depth,.int .i64 x.back] 148 (0,0))
def ScP (w w':World) (b:Nat) (x:Sc):Prop:=w.grownBy w' (some b)∧ScB w' b x
section
variable {w w' : World} {b : Nat} {x : Sc}
theorem ScB.cells (h:ScB w b x):w.cell? ⟨b,0,none⟩=some (.int .i64 x.mode)∧w.cell? ⟨b,1,none⟩=some (.int .i64 x.depth)∧w.cell? ⟨b,2,none⟩=some (.int .i64 x.back):=by
 unfold ScB at h
 simp [World.cell?,h]
theorem ScB.unfrozen (h:ScB w b x):w.frozen? ⟨b,0,none⟩=false∧w.frozen? ⟨b,1,none⟩=false∧w.frozen? ⟨b,2,none⟩=false:=by
 unfold ScB at h
 simp [World.frozen?,h]
theorem ScP.refl (h:ScB w b x):ScP w w b x:=⟨grownBy_refl _ _,h⟩
theorem ScP.mode (h:ScP w w' b x) (m:Int):ScP w (w'.setCell ⟨b,0,none⟩ (.int .i64 m)) b ⟨m,x.depth,x.back⟩:=by
 refine ⟨grownBy_setCell h.1 _,?_⟩
 have hr:=h.2
 unfold ScB at hr ⊢
 simp only [World.setCell,Array.getElem?_modify,if_pos,hr]
 simp
theorem ScP.depth (h:ScP w w' b x) (m:Int):ScP w (w'.setCell ⟨b,1,none⟩ (.int .i64 m)) b ⟨x.mode,m,x.back⟩:=by
 refine ⟨grownBy_setCell h.1 _,?_⟩
 have hr:=h.2
 unfold ScB at hr ⊢
 simp only [World.setCell,Array.getElem?_modify,if_pos,hr]
 simp
theorem ScP.back (h:ScP w w' b x) (m:Int):ScP w (w'.setCell ⟨b,2,none⟩ (.int .i64 m)) b ⟨x.mode,x.depth,m⟩:=by
 refine ⟨grownBy_setCell h.1 _,?_⟩
 have hr:=h.2
 unfold ScB at hr ⊢
 simp only [World.setCell,Array.getElem?_modify,if_pos,hr]
 simp
end
set_option maxHeartbeats 2000000 in
theorem outside_any (w:World) (b:Nat) (x:Sc) (c:Int) (h:ScB w b x) (hd0:-1≤x.depth) (hd1:x.depth≤100) :
  Calls Tryz.prog 118 #[.pointer (some ⟨b,0,none⟩),.int .u8 c] w fun e w' =>
   e=.returned (.bool (outsideS x c).1)∧ScP w w' b (outsideS x c).2:=by
 obtain ⟨k0,k1,k2⟩:=h.cells
 obtain ⟨f0,f1,f2⟩:=h.unfrozen
 by_cases c0:(c == 124)=true
 ·have e0:outsideS x c=(true,⟨0,x.depth,x.back⟩):=by simp only [outsideS,c0];rfl
  rw [e0]
  clear e0
  go_enter Tryz.func118,Tryz.ntmps118
  go_wp2
  all_goals
   go_ret
   exact ⟨rfl,(ScP.refl h).mode 0⟩
 ·have c0':(c == 124)=false:=by simpa using c0
  clear c0
  by_cases c1:(c == 40)=true
  ·have e0:outsideS x c=(true,⟨0,x.depth+1,x.back⟩):=by simp only [outsideS,c0',c1];rfl
   rw [e0]
   clear e0
   go_enter Tryz.func118,Tryz.ntmps118
   go_wp2
   all_goals
    go_ret
    exact ⟨rfl,((ScP.refl h).mode 0).depth (x.depth+1)⟩
  ·have c1':(c == 40)=false:=by simpa using c1
   clear c1
   by_cases c2:(c == 41)=true
   ·have e0:outsideS x c=(decide (0≤x.depth - 1),⟨1,x.depth - 1,x.back⟩):=by simp only [outsideS,c0',c1',c2];rfl
    rw [e0]
    clear e0
    go_enter Tryz.func118,Tryz.ntmps118
    go_wp2
    all_goals
     go_ret
     exact ⟨ret_bool (by first | rfl | simp | (simp;omega)),((ScP.refl h).mode 1).depth (x.depth - 1)⟩
   ·have c2':(c == 41)=false:=by simpa using c2
    clear c2
    by_cases c3:(c == 42)=true
    ·have e0:outsideS x c=(x.mode == 1,x):=by simp only [outsideS,c0',c1',c2',c3];rfl
     rw [e0]
     clear e0
     go_enter Tryz.func118,Tryz.ntmps118
     go_wp2
     all_goals
      go_ret
      exact ⟨rfl,ScP.refl h⟩
    ·have c3':(c == 42)=false:=by simpa using c3
     clear c3
     by_cases c4:(c == 43)=true
     ·have e0:outsideS x c=(x.mode == 1,x):=by simp only [outsideS,c0',c1',c2',c3',c4];rfl
      rw [e0]
      clear e0
      go_enter Tryz.func118,Tryz.ntmps118
      go_wp2
      all_goals
       go_ret
       exact ⟨rfl,ScP.refl h⟩
     ·have c4':(c == 43)=false:=by simpa using c4
      clear c4
      by_cases c5:(c == 63)=true
      ·have e0:outsideS x c=(x.mode == 1,x):=by simp only [outsideS,c0',c1',c2',c3',c4',c5];rfl
       rw [e0]
       clear e0
       go_enter Tryz.func118,Tryz.ntmps118
       go_wp2
       all_goals
        go_ret
        exact ⟨rfl,ScP.refl h⟩
      ·have c5':(c == 63)=false:=by simpa using c5
       clear c5
       by_cases c6:(c == 123)=true
       ·have e0:outsideS x c=(x.mode == 1,⟨4,x.depth,x.back⟩):=by simp only [outsideS,c0',c1',c2',c3',c4',c5',c6];rfl
        rw [e0]
        clear e0
        go_enter Tryz.func118,Tryz.ntmps118
        go_wp2
        all_goals
         go_ret
         exact ⟨rfl,(ScP.refl h).mode 4⟩
       ·have c6':(c == 123)=false:=by simpa using c6
        clear c6
        by_cases c7:(c == 91)=true
        ·have e0:outsideS x c=(true,⟨8,x.depth,x.back⟩):=by simp only [outsideS,c0',c1',c2',c3',c4',c5',c6',c7];rfl
         rw [e0]
         clear e0
         go_enter Tryz.func118,Tryz.ntmps118
         go_wp2
         all_goals
          go_ret
          exact ⟨rfl,(ScP.refl h).mode 8⟩
        ·have c7':(c == 91)=false:=by simpa using c7
         clear c7
         by_cases c8:(c == 92)=true
         ·have e0:outsideS x c=(true,⟨2,x.depth,1⟩):=by simp only [outsideS,c0',c1',c2',c3',c4',c5',c6',c7',c8];rfl
          rw [e0]
          clear e0
          go_enter Tryz.func118,Tryz.ntmps118
          go_wp2
          all_goals
           go_ret
           exact ⟨rfl,((ScP.refl h).mode 2).back 1⟩
         ·have c8':(c == 92)=false:=by simpa using c8
          clear c8
          by_cases c9:(c == 125)=true
          ·have e0:outsideS x c=(false,x):=by simp only [outsideS,c0',c1',c2',c3',c4',c5',c6',c7',c8',c9];rfl
           rw [e0]
           clear e0
           go_enter Tryz.func118,Tryz.ntmps118
           go_wp2
           all_goals
            go_ret
            exact ⟨rfl,ScP.refl h⟩
          ·have c9':(c == 125)=false:=by simpa using c9
           clear c9
           by_cases c10:(c == 93)=true
           ·have e0:outsideS x c=(false,x):=by simp only [outsideS,c0',c1',c2',c3',c4',c5',c6',c7',c8',c9',c10];rfl
            rw [e0]
            clear e0
            go_enter Tryz.func118,Tryz.ntmps118
            go_wp2
            all_goals
             go_ret
             exact ⟨rfl,ScP.refl h⟩
           ·have c10':(c == 93)=false:=by simpa using c10
            clear c10
            have e0:outsideS x c=(printB c,⟨1,x.depth,x.back⟩):=by simp only [outsideS,c0',c1',c2',c3',c4',c5',c6',c7',c8',c9',c10'];rfl
            rw [e0]
            clear e0
            go_enter Tryz.func118,Tryz.ntmps118
            go_wp2
            all_goals
             go_ret
             exact ⟨ret_bool (by simp_all [printB];try (intros;omega)),(ScP.refl h).mode 1⟩
end Go.Proofs.YtobfpgoepaeknaaGreat
namespace Go.Proofs.YtobfpgoepaeknaaGreat
open Go.RowKit
set_option maxHeartbeats 2000000 in
theorem inside_yes (w:World) (b:Nat) (x:Sc) (c:Int) (h:ScB w b x) (hm:(x.mode == 11)=true) :
  Calls Tryz.prog 121 #[.pointer (some ⟨b,0,none⟩),.int .u8 c] w fun e w' =>
   e=.returned (.bool (insideS x c).1)∧ScP w w' b (insideS x c).2:=by
 obtain ⟨k0,k1,k2⟩:=h.cells
 obtain ⟨f0,f1,f2⟩:=h.unfrozen
 have et:toS x=12:=by simp only [toS,hm,if_true]
 by_cases c0:(c == 94)=true
 ·have e0:insideS x c=(x.mode == 8,⟨9,x.depth,x.back⟩):=by simp only [insideS,c0,et];rfl
  rw [e0]
  clear e0 et
  go_enter Tryz.func121,Tryz.ntmps121
  go_wp2
  all_goals
   go_ret
   exact ⟨ret_bool (by first | rfl | simp_all),(ScP.refl h).mode 9⟩
 ·have c0':(c == 94)=false:=by simpa using c0
  clear c0
  by_cases c1:(c == 45)=true
  ·have e0:insideS x c=(x.mode == 10,⟨11,x.depth,x.back⟩):=by simp only [insideS,c0',c1,et];rfl
   rw [e0]
   clear e0 et
   go_enter Tryz.func121,Tryz.ntmps121
   go_wp2
   all_goals
    go_ret
    exact ⟨ret_bool (by first | rfl | simp_all),(ScP.refl h).mode 11⟩
  ·have c1':(c == 45)=false:=by simpa using c1
   clear c1
   by_cases c2:(c == 93)=true
   ·have e0:insideS x c=(x.mode == 10 || x.mode == 12,⟨1,x.depth,x.back⟩):=by simp only [insideS,c0',c1',c2,et];rfl
    rw [e0]
    clear e0 et
    go_enter Tryz.func121,Tryz.ntmps121
    go_wp2
    all_goals
     go_ret
     exact ⟨ret_bool (by simp_all),(ScP.refl h).mode 1⟩
   ·have c2':(c == 93)=false:=by simpa using c2
    clear c2
    by_cases c3:(c == 91)=true
    ·have e0:insideS x c=(false,x):=by simp only [insideS,c0',c1',c2',c3,et];rfl
     rw [e0]
     clear e0 et
     go_enter Tryz.func121,Tryz.ntmps121
     go_wp2
     all_goals
      go_ret
      exact ⟨rfl,ScP.refl h⟩
    ·have c3':(c == 91)=false:=by simpa using c3
     clear c3
     by_cases c4:(c == 92)=true
     ·have e0:insideS x c=(true,⟨2,x.depth,12⟩):=by simp only [insideS,c0',c1',c2',c3',c4,et];rfl
      rw [e0]
      clear e0 et
      go_enter Tryz.func121,Tryz.ntmps121
      go_wp2
      all_goals
       go_ret
       exact ⟨rfl,((ScP.refl h).mode 2).back 12⟩
     ·have c4':(c == 92)=false:=by simpa using c4
      clear c4
      have e0:insideS x c=(printB c,⟨12,x.depth,x.back⟩):=by simp only [insideS,c0',c1',c2',c3',c4',et];rfl
      rw [e0]
      clear e0 et
      go_enter Tryz.func121,Tryz.ntmps121
      go_wp2
      all_goals
       go_ret
       exact ⟨ret_bool (by simp_all [printB];try (intros;omega)),(ScP.refl h).mode 12⟩
set_option maxHeartbeats 2000000 in
theorem inside_no (w:World) (b:Nat) (x:Sc) (c:Int) (h:ScB w b x) (hm:(x.mode == 11)=false) :
  Calls Tryz.prog 121 #[.pointer (some ⟨b,0,none⟩),.int .u8 c] w fun e w' =>
   e=.returned (.bool (insideS x c).1)∧ScP w w' b (insideS x c).2:=by
 obtain ⟨k0,k1,k2⟩:=h.cells
 obtain ⟨f0,f1,f2⟩:=h.unfrozen
 have et:toS x=10:=by simp only [toS,hm];rfl
 by_cases c0:(c == 94)=true
 ·have e0:insideS x c=(x.mode == 8,⟨9,x.depth,x.back⟩):=by simp only [insideS,c0,et];rfl
  rw [e0]
  clear e0 et
  go_enter Tryz.func121,Tryz.ntmps121
  go_wp2
  all_goals
   go_ret
   exact ⟨ret_bool (by first | rfl | simp_all),(ScP.refl h).mode 9⟩
 ·have c0':(c == 94)=false:=by simpa using c0
  clear c0
  by_cases c1:(c == 45)=true
  ·have e0:insideS x c=(x.mode == 10,⟨11,x.depth,x.back⟩):=by simp only [insideS,c0',c1,et];rfl
   rw [e0]
   clear e0 et
   go_enter Tryz.func121,Tryz.ntmps121
   go_wp2
   all_goals
    go_ret
    exact ⟨ret_bool (by first | rfl | simp_all),(ScP.refl h).mode 11⟩
  ·have c1':(c == 45)=false:=by simpa using c1
   clear c1
   by_cases c2:(c == 93)=true
   ·have e0:insideS x c=(x.mode == 10 || x.mode == 12,⟨1,x.depth,x.back⟩):=by simp only [insideS,c0',c1',c2,et];rfl
    rw [e0]
    clear e0 et
    go_enter Tryz.func121,Tryz.ntmps121
    go_wp2
    all_goals
     go_ret
     exact ⟨ret_bool (by simp_all),(ScP.refl h).mode 1⟩
   ·have c2':(c == 93)=false:=by simpa using c2
    clear c2
    by_cases c3:(c == 91)=true
    ·have e0:insideS x c=(false,x):=by simp only [insideS,c0',c1',c2',c3,et];rfl
     rw [e0]
     clear e0 et
     go_enter Tryz.func121,Tryz.ntmps121
     go_wp2
     all_goals
      go_ret
      exact ⟨rfl,ScP.refl h⟩
    ·have c3':(c == 91)=false:=by simpa using c3
     clear c3
     by_cases c4:(c == 92)=true
     ·have e0:insideS x c=(true,⟨2,x.depth,10⟩):=by simp only [insideS,c0',c1',c2',c3',c4,et];rfl
      rw [e0]
      clear e0 et
      go_enter Tryz.func121,Tryz.ntmps121
      go_wp2
      all_goals
       go_ret
       exact ⟨rfl,((ScP.refl h).mode 2).back 10⟩
     ·have c4':(c == 92)=false:=by simpa using c4
      clear c4
      have e0:insideS x c=(printB c,⟨10,x.depth,x.back⟩):=by simp only [insideS,c0',c1',c2',c3',c4',et];rfl
      rw [e0]
      clear e0 et
      go_enter Tryz.func121,Tryz.ntmps121
      go_wp2
      all_goals
       go_ret
       exact ⟨ret_bool (by simp_all [printB];try (intros;omega)),(ScP.refl h).mode 10⟩
theorem inside_any (w:World) (b:Nat) (x:Sc) (c:Int) (h:ScB w b x) :
  Calls Tryz.prog 121 #[.pointer (some ⟨b,0,none⟩),.int .u8 c] w fun e w' =>
   e=.returned (.bool (insideS x c).1)∧ScP w w' b (insideS x c).2:=by
 by_cases hm:(x.mode == 11)=true
 ·exact inside_yes w b x c h hm
 ·exact inside_no w b x c h (by simpa using hm)
set_option maxHeartbeats 2000000 in
theorem goes_any (w:World) (b:Nat) (x:Sc) (c:Int) (hSc:ScB w b x) (hd0:-1≤x.depth) (hd1:x.depth≤100) (_hm0:0≤x.mode) (_hm1:x.mode≤12) :
  Calls Tryz.prog 75 #[.pointer (some ⟨b,0,none⟩),.int .u8 c] w fun e w' =>
   e=.returned (.bool (goesS x c).1)∧ScP w w' b (goesS x c).2:=by
 obtain ⟨k0,k1,k2⟩:=hSc.cells
 obtain ⟨f0,f1,f2⟩:=hSc.unfrozen
 have HO:=hide (outside_any w b x c hSc hd0 hd1)
 have HI:=hide (inside_any w b x c hSc)
 by_cases c0:(x.mode == 0)=true
 ·have e0:goesS x c=outsideS x c:=by simp only [goesS,c0];rfl
  rw [e0]
  clear e0
  go_enter Tryz.func75,Tryz.ntmps75
  go_wp2_with (go_at_call 118;refine (unhide HO).mono ?_;rintro e w1 ⟨rfl,hw1⟩)
  go_ret
  exact ⟨rfl,hw1⟩
 ·have c0':(x.mode == 0)=false:=by simpa using c0
  clear c0
  by_cases c1:(x.mode == 1)=true
  ·have e0:goesS x c=outsideS x c:=by simp only [goesS,c0',c1];rfl
   rw [e0]
   clear e0
   go_enter Tryz.func75,Tryz.ntmps75
   go_wp2_with (go_at_call 118;refine (unhide HO).mono ?_;rintro e w1 ⟨rfl,hw1⟩)
   go_ret
   exact ⟨rfl,hw1⟩
  ·have c1':(x.mode == 1)=false:=by simpa using c1
   clear c1
   by_cases c2:(x.mode == 2)=true
   ·by_cases hb:mayBeEscapedB c=true
    ·have e0:goesS x c=(true,⟨x.back,x.depth,x.back⟩):=by simp only [goesS,c0',c1',c2,hb];rfl
     rw [e0]
     clear e0
     go_enter Tryz.func75,Tryz.ntmps75
     go_wp2_with (first | (go_at_call 119;refine (marks_any _ _).mono ?_;rintro e w1 ⟨rfl,rfl⟩) | (go_at_call 120;refine (hex_any _ _).mono ?_;rintro e w1 ⟨rfl,rfl⟩))
     go_ret
     exact ⟨rfl,((ScP.refl hSc).mode 3).mode x.back⟩
    ·have hb':mayBeEscapedB c=false:=by simpa using hb
     clear hb
     have e0:goesS x c=(hexB c,⟨3,x.depth,x.back⟩):=by simp only [goesS,c0',c1',c2,hb'];rfl
     rw [e0]
     clear e0
     go_enter Tryz.func75,Tryz.ntmps75
     go_wp2_with (first | (go_at_call 119;refine (marks_any _ _).mono ?_;rintro e w1 ⟨rfl,rfl⟩) | (go_at_call 120;refine (hex_any _ _).mono ?_;rintro e w1 ⟨rfl,rfl⟩))
     go_ret
     exact ⟨rfl,(ScP.refl hSc).mode 3⟩
   ·have c2':(x.mode == 2)=false:=by simpa using c2
    clear c2
    by_cases c3:(x.mode == 3)=true
    ·have e0:goesS x c=(hexB c,⟨x.back,x.depth,x.back⟩):=by simp only [goesS,c0',c1',c2',c3];rfl
     rw [e0]
     clear e0
     go_enter Tryz.func75,Tryz.ntmps75
     go_wp2_with (go_at_call 120;refine (hex_any _ _).mono ?_;rintro e w1 ⟨rfl,rfl⟩)
     go_ret
     exact ⟨rfl,(ScP.refl hSc).mode x.back⟩
    ·have c3':(x.mode == 3)=false:=by simpa using c3
     clear c3
     by_cases c4:(x.mode == 4)=true
     ·have e0:goesS x c=(decB c,⟨x.mode+1,x.depth,x.back⟩):=by simp only [goesS,c0',c1',c2',c3',c4];rfl
      rw [e0]
      clear e0
      go_enter Tryz.func75,Tryz.ntmps75
      go_wp2_with (go_at_call 84;refine (dec_any _ _).mono ?_;rintro e w1 ⟨rfl,rfl⟩)
      go_ret
      exact ⟨rfl,(ScP.refl hSc).mode (x.mode+1)⟩
     ·have c4':(x.mode == 4)=false:=by simpa using c4
      clear c4
      by_cases c5:(x.mode == 6)=true
      ·have e0:goesS x c=(decB c,⟨x.mode+1,x.depth,x.back⟩):=by simp only [goesS,c0',c1',c2',c3',c4',c5];rfl
       rw [e0]
       clear e0
       go_enter Tryz.func75,Tryz.ntmps75
       go_wp2_with (go_at_call 84;refine (dec_any _ _).mono ?_;rintro e w1 ⟨rfl,rfl⟩)
       go_ret
       exact ⟨rfl,(ScP.refl hSc).mode (x.mode+1)⟩
      ·have c5':(x.mode == 6)=false:=by simpa using c5
       clear c5
       by_cases c6:(x.mode == 5)=true
       ·have e0:goesS x c=(c == 44,⟨6,x.depth,x.back⟩):=by simp only [goesS,c0',c1',c2',c3',c4',c5',c6];rfl
        rw [e0]
        clear e0
        go_enter Tryz.func75,Tryz.ntmps75
        go_wp2
        go_ret
        exact ⟨rfl,(ScP.refl hSc).mode 6⟩
       ·have c6':(x.mode == 5)=false:=by simpa using c6
        clear c6
        by_cases c7:(x.mode == 7)=true
        ·have e0:goesS x c=(c == 125,⟨1,x.depth,x.back⟩):=by simp only [goesS,c0',c1',c2',c3',c4',c5',c6',c7];rfl
         rw [e0]
         clear e0
         go_enter Tryz.func75,Tryz.ntmps75
         go_wp2
         go_ret
         exact ⟨rfl,(ScP.refl hSc).mode 1⟩
        ·have c7':(x.mode == 7)=false:=by simpa using c7
         clear c7
         have e0:goesS x c=insideS x c:=by simp only [goesS,c0',c1',c2',c3',c4',c5',c6',c7'];rfl
         rw [e0]
         clear e0
         go_enter Tryz.func75,Tryz.ntmps75
         go_wp2_with (go_at_call 121;refine (unhide HI).mono ?_;rintro e w1 ⟨rfl,hw1⟩)
         go_ret
         exact ⟨rfl,hw1⟩
end Go.Proofs.YtobfpgoepaeknaaGreat
namespace Go.Proofs.YtobfpgoepaeknaaGreat
open Go.RowKit
set_option maxHeartbeats 400000 in
theorem place_any (w:World) (t:ByteArray) (ht:t.size≤60) :
  Calls Tryz.prog 40 #[.string t] w fun e w'=>e=.returned (.int .i64 (placeS t))∧Below w.heap.size w w':=by
 have ht':(t.size:Int)≤60:=by omega
 have S0:ScB (w.alloc (Obj.cells #[.int .i64 0,.int .i64 0,.int .i64 0] 148)) w.heap.size ⟨0,0,0⟩:=heap_alloc_new w _
 have HS:=hide (ScP.refl S0)
 have HW:Hid (Below w.heap.size w (w.alloc (Obj.cells #[.int .i64 0,.int .i64 0,.int .i64 0] 148))):=(Below.refl _ _).alloc (Nat.le_refl _) _
 clear S0
 go_enter Tryz.func40,Tryz.ntmps40
 go_wp2
 go_loopw [4] (fun i wr=>∃ (k:Nat) (x:Sc),i=.int .i64 k∧k≤t.size∧Hid (ScOk k x∧scanS t (t.size - k) k x=placeS t∧ScB wr w.heap.size x∧Below w.heap.size w wr)) (fun i _=>t.size - (intOf i).toNat)
 case atStart=>exact ⟨0,⟨0,0,0⟩,rfl,Nat.zero_le _,⟨by decide,by decide,by decide,by decide,by decide,by decide⟩,rfl,(unhide HS).2,unhide HW⟩
 case round =>
  rename_i wr
  obtain ⟨k,x,rfl,hk,H⟩:=hrel
  obtain ⟨hok,hsc,hb,hbel⟩:=unhide H
  obtain ⟨k0,k1,k2⟩:=hb.cells
  by_cases hlt:k < t.size
  ·have HG:=hide (goes_any wr w.heap.size x (t[k].toNat:Int) hb (by have:=hok.2.2.2.2.1;omega) (by have:=hok.2.2.2.2.2;omega) hok.1 hok.2.1)
   obtain ⟨m,hm⟩:∃ m,t.size - k=m+1:=⟨t.size - k - 1,by omega⟩
   have hbe:=byteAt_eq hlt
   by_cases hg:(goesS x (t[k].toNat:Int)).1=true
   ·have hn:scanS t (t.size - (k+1)) (k+1) (goesS x (t[k].toNat:Int)).2=placeS t:=by
     rw [←hsc,hm,scanS,hbe,if_pos hg,show t.size - (k+1)=m from by omega]
    have HN:=hide (And.intro (goesS_ok hok hg) hn)
    have HB:=hide hbel
    have HGG:=hide hg
    clear hok hsc hb hbel hn hbe hm k0 k1 k2 H
    generalize goesS x (t[k].toNat:Int)=r at *
    obtain ⟨r1,r2⟩:=r
    simp only at hg
    subst hg
    go_wp2_with (go_at_call 75;refine (unhide HG).mono ?_;rintro e w1 ⟨rfl,hw1⟩)
    go_roundw
    case rel=>exact ⟨k+1,r2,by go_num,by omega,(unhide HN).1,(unhide HN).2,hw1.2,(unhide HB).grown hw1.1 (unhide HB).size (fun k' hk'=>by simp at hk';omega)⟩
    case measure=>simp [intOf];omega
   ·have hg':(goesS x (t[k].toNat:Int)).1=false:=by simpa using hg
    have hn:placeS t=(k:Int):=by
     rw [←hsc,hm,scanS,hbe,if_neg hg]
    have HN:=hide hn
    have HB:=hide hbel
    clear hok hsc hb hbel hn hbe hm k0 k1 k2 H hg
    generalize goesS x (t[k].toNat:Int)=r at *
    obtain ⟨r1,r2⟩:=r
    simp only at hg'
    subst hg'
    go_wp2_with (go_at_call 75;refine (unhide HG).mono ?_;rintro e w1 ⟨rfl,hw1⟩)
    go_ret
    exact ⟨ret_int (unhide HN).symm,(unhide HB).grown hw1.1 (unhide HB).size (fun k' hk'=>by simp at hk';omega)⟩
  ·have hk2:t.size - k=0:=by omega
   rw [hk2,scanS] at hsc
   have HSC:=hide hsc
   have HB:=hide hbel
   clear hsc hbel hb hok H hk2
   obtain ⟨md,dp,bk⟩:=x
   simp only at k0 k1 k2 HSC
   by_cases hd:0 < dp
   ·have HF:Hid (placeS t=(t.size:Int)):=by have:=unhide HSC;rw [if_pos (by simp [hd])] at this;exact this.symm
    clear HSC
    go_wp2
    go_ret
    exact ⟨ret_int (unhide HF).symm,unhide HB⟩
   ·by_cases hm:1 < md
    ·have HF:Hid (placeS t=(t.size:Int)):=by have:=unhide HSC;rw [if_pos (by simp [hm])] at this;exact this.symm
     clear HSC
     go_wp2
     go_ret
     exact ⟨ret_int (unhide HF).symm,unhide HB⟩
    ·have HF:Hid (placeS t=-1):=by have:=unhide HSC;rw [if_neg (by simp;omega)] at this;exact this.symm
     clear HSC
     go_wp2
     go_ret
     exact ⟨ret_int (unhide HF).symm,unhide HB⟩
end Go.Proofs.YtobfpgoepaeknaaGreat
namespace Go.Proofs.YtobfpgoepaeknaaGreat
open Go.RowKit
set_option maxHeartbeats 1000000 in
theorem over_any (p:ByteArray) (hp:p.size≤60):∀ (f i j:Nat) (w:World),ovF p f 0 i=some j →
  Calls Tryz.prog 76 #[.string p,.int .i64 (i:Int)] w fun e w'=>e=.returned (.int .i64 (j:Int))∧w'=w:=by
 intro f
 induction f using Nat.strongRecOn with
 | _ f ih =>
  intro i j w h
  have hp':(p.size:Int)≤60:=by omega
  have IH:=hide ih
  clear ih
  obtain ⟨f,rfl⟩:∃ f',f=f'+1:=by cases f with | zero=>simp [ovF] at h | succ f=>exact ⟨f,rfl⟩
  have hi:i < p.size:=by
   by_cases hi:i < p.size
   ·exact hi
   ·simp [ovF,hi] at h
  have hi':(i:Int) < (p.size:Int):=by omega
  have hb:=byteAt_eq hi
  simp only [ovF,hi,if_true] at h
  by_cases c1:(byteAt p i == 92)=true
  ·rw [if_pos c1] at h
   have hi1:i+1 < p.size:=by
    by_cases hi1:i+1 < p.size
    ·exact hi1
    ·rw [if_neg hi1] at h;cases h
   rw [if_pos hi1] at h
   have hi1':(i:Int)+1 < (p.size:Int):=by omega
   have hb1:=byteAt_eq hi1
   rw [hb] at c1
   simp only [Option.some.injEq] at h
   have HM:=hide (fun w=>marks_any (p[i+1].toNat:Int) w)
   rw [hb1] at h
   by_cases cm:mayBeEscapedB (p[i+1].toNat:Int)=true
   ·rw [if_pos cm] at h
    subst h
    clear hb hb1 IH
    go_enter Tryz.func76,Tryz.ntmps76
    go_wp2_with (go_at_call 119;refine (unhide HM _).mono ?_;rintro e w' ⟨rfl,rfl⟩)
    go_ret
    exact ⟨ret_int (by go_num),rfl⟩
   ·have cm':mayBeEscapedB (p[i+1].toNat:Int)=false:=by simpa using cm
    rw [if_neg cm] at h
    subst h
    clear hb hb1 IH cm
    go_enter Tryz.func76,Tryz.ntmps76
    go_wp2_with (go_at_call 119;refine (unhide HM _).mono ?_;rintro e w' ⟨rfl,rfl⟩)
    go_ret
    exact ⟨ret_int (by go_num),rfl⟩
  ·rw [if_neg c1] at h
   rw [hb] at c1 h
   have c1':((p[i].toNat:Int) == 92)=false:=by simpa using c1
   clear c1 hb
   by_cases c2:((p[i].toNat:Int) == 91)=true
   ·rw [if_pos c2] at h
    have H0:=hide h
    clear h
    go_enter Tryz.func76,Tryz.ntmps76
    go_wp2_with fail
    go_loopg [1] f (fun n s wr=>∃ q:Nat,s=.int .i64 (q:Int)∧w=wr∧Hid (ovF p n 1 q=some j∧n≤f))
    case atStart=>exact ⟨i+1,by go_num,rfl,unhide H0,Nat.le_refl _⟩
    case round =>
     obtain ⟨q,rfl,rfl,H⟩:=hrel
     obtain ⟨h,hn⟩:=unhide H
     clear H H0
     obtain ⟨n,rfl⟩:∃ n',gk=n'+1:=by cases gk with | zero=>simp [ovF] at h | succ n=>exact ⟨n,rfl⟩
     have hq:q < p.size:=by
      by_cases hq:q < p.size
      ·exact hq
      ·simp [ovF,hq] at h
     have hq':(q:Int) < (p.size:Int):=by omega
     have hb:=byteAt_eq hq
     simp only [ovF,hq,if_true,hb] at h
     clear hb
     by_cases d1:((p[q].toNat:Int) == 93)=true
     ·rw [if_pos d1] at h
      simp only [Option.some.injEq] at h
      have d1':((p[q].toNat:Int) != 93)=false:=by simpa using d1
      subst h
      clear d1
      go_wp2
      go_ret
      exact ⟨ret_int (by go_num),rfl⟩
     ·rw [if_neg d1] at h
      have d1':((p[q].toNat:Int) != 93)=true:=by simpa using d1
      clear d1
      by_cases d2:((p[q].toNat:Int) == 92)=true
      ·rw [if_pos d2] at h
       rw [Option.bind_eq_some_iff] at h
       obtain ⟨j1,h1,h2⟩:=h
       have HC:=hide (unhide IH n (by omega) q j1 w h1)
       have H2:=hide h2
       clear h1 h2
       go_wp2_with (go_at_call 76;refine (unhide HC).mono ?_;rintro e w' ⟨rfl,rfl⟩)
       go_roundg n
       case measure=>omega
       case rel=>exact ⟨j1,rfl,rfl,unhide H2,by omega⟩
      ·rw [if_neg d2] at h
       have d2':((p[q].toNat:Int) == 92)=false:=by simpa using d2
       have H2:=hide h
       clear h d2
       go_wp2
       go_roundg n
       case measure=>omega
       case rel=>exact ⟨q+1,by go_num,rfl,unhide H2,by omega⟩
   ·rw [if_neg c2] at h
    have c2':((p[i].toNat:Int) == 91)=false:=by simpa using c2
    clear c2
    by_cases c3:((p[i].toNat:Int) == 40)=true
    ·rw [if_pos c3] at h
     have H0:=hide h
     clear h
     go_enter Tryz.func76,Tryz.ntmps76
     go_wp2_with fail
     go_loopg [1] f (fun n s wr=>∃ q:Nat,s=.int .i64 (q:Int)∧w=wr∧Hid (ovF p n 2 q=some j∧n≤f))
     case atStart=>exact ⟨i+1,by go_num,rfl,unhide H0,Nat.le_refl _⟩
     case round =>
      obtain ⟨q,rfl,rfl,H⟩:=hrel
      obtain ⟨h,hn⟩:=unhide H
      clear H H0
      obtain ⟨n,rfl⟩:∃ n',gk=n'+1:=by cases gk with | zero=>simp [ovF] at h | succ n=>exact ⟨n,rfl⟩
      have hq:q < p.size:=by
       by_cases hq:q < p.size
       ·exact hq
       ·simp [ovF,hq] at h
      have hq':(q:Int) < (p.size:Int):=by omega
      have hb:=byteAt_eq hq
      simp only [ovF,hq,if_true,hb] at h
      clear hb
      by_cases d1:((p[q].toNat:Int) == 41)=true
      ·rw [if_pos d1] at h
       simp only [Option.some.injEq] at h
       have d1':((p[q].toNat:Int) != 41)=false:=by simpa using d1
       subst h
       clear d1
       go_wp2
       go_ret
       exact ⟨ret_int (by go_num),rfl⟩
      ·rw [if_neg d1] at h
       have d1':((p[q].toNat:Int) != 41)=true:=by simpa using d1
       clear d1
       rw [Option.bind_eq_some_iff] at h
       obtain ⟨j1,h1,h2⟩:=h
       have HC:=hide (unhide IH n (by omega) q j1 w h1)
       have H2:=hide h2
       clear h1 h2
       go_wp2_with (go_at_call 76;refine (unhide HC).mono ?_;rintro e w' ⟨rfl,rfl⟩)
       go_roundg n
       case measure=>omega
       case rel=>exact ⟨j1,rfl,rfl,unhide H2,by omega⟩
    ·rw [if_neg c3] at h
     have c3':((p[i].toNat:Int) == 40)=false:=by simpa using c3
     simp only [Option.some.injEq] at h
     subst h
     clear c3 IH
     go_enter Tryz.func76,Tryz.ntmps76
     go_wp2
     go_ret
     exact ⟨ret_int (by go_num),rfl⟩
theorem digitI_hex {c:Int} (h:hexB c=true):(97≤c∧c≤102∧digitI c=c - 97+10)∨(48≤c∧c≤57∧digitI c=c - 48):=by
 simp [hexB,decB] at h
 unfold digitI
 by_cases h1:48≤c∧c≤57
 ·right;rw [if_pos h1];omega
 ·left;rw [if_neg h1,if_pos (by omega)];omega
set_option maxHeartbeats 400000 in
theorem nibble_any (c:Int) (w:World) (h:hexB c=true):Calls Tryz.prog 161 #[.int .u8 c] w fun e w'=>e=.returned (.int .i64 (digitI c))∧w'=w:=by
 rcases digitI_hex h with ⟨h1,h2,h3⟩ | ⟨h1,h2,h3⟩
 ·rw [h3]
  clear h h3
  go_enter Tryz.func161,Tryz.ntmps161
  go_wp2
  go_ret
  exact ⟨rfl,rfl⟩
 ·rw [h3]
  clear h h3
  go_enter Tryz.func161,Tryz.ntmps161
  go_wp2
  go_ret
  exact ⟨rfl,rfl⟩
set_option maxHeartbeats 1000000 in
theorem named_any (p:ByteArray) (hp:p.size≤60) (i:Nat) (v:Int) (j:Nat) (w:World) (h:namedS p i=some (v,j)) :
  Calls Tryz.prog 152 #[.string p,.int .i64 (i:Int)] w fun e w'=>e=.returned (.tuple #[.int .i64 v,.int .i64 (j:Int)])∧w'=w:=by
 have hp':(p.size:Int)≤60:=by omega
 unfold namedS at h
 have hi:i < p.size:=by
  by_cases hi:i < p.size
  ·exact hi
  ·rw [if_neg hi] at h;cases h
 have hi':(i:Int) < (p.size:Int):=by omega
 have hb:=byteAt_eq hi
 have bd0:=byteAt_bd p i
 rw [if_pos hi,hb] at h
 rw [hb] at bd0
 clear hb
 by_cases c1:((p[i].toNat:Int) == 92)=true
 ·rw [if_pos c1] at h
  have c1':((p[i].toNat:Int) != 92)=false:=by simpa using c1
  have hi1:i+1 < p.size:=by
   by_cases hi1:i+1 < p.size
   ·exact hi1
   ·rw [if_neg hi1] at h;cases h
  have hi1':(i:Int)+1 < (p.size:Int):=by omega
  have hb1:=byteAt_eq hi1
  have bd1:=byteAt_bd p (i+1)
  rw [if_pos hi1,hb1] at h
  rw [hb1] at bd1
  clear hb1 c1
  have HM:=hide (fun w=>marks_any (p[i+1].toNat:Int) w)
  by_cases cm:mayBeEscapedB (p[i+1].toNat:Int)=true
  ·rw [if_pos cm] at h
   simp only [Option.some.injEq,Prod.mk.injEq] at h
   obtain ⟨rfl,rfl⟩:=h
   go_enter Tryz.func152,Tryz.ntmps152
   go_wp2_with (go_at_call 119;refine (unhide HM _).mono ?_;rintro e w' ⟨rfl,rfl⟩)
   go_ret2
   exact ⟨by first | rfl | (congr 3;go_num),rfl⟩
  ·rw [if_neg cm] at h
   have cm':mayBeEscapedB (p[i+1].toNat:Int)=false:=by simpa using cm
   clear cm
   by_cases hh:i+2 < p.size∧hexB (p[i+1].toNat:Int)=true∧hexB (byteAt p (i+2))=true
   ·rw [if_pos hh] at h
    obtain ⟨hi2,x1,x2⟩:=hh
    have hi2':(i:Int)+2 < (p.size:Int):=by omega
    have hb2:=byteAt_eq hi2
    rw [hb2] at h x2
    simp only [Option.some.injEq,Prod.mk.injEq] at h
    obtain ⟨rfl,rfl⟩:=h
    have HN1:=hide (fun w=>nibble_any (p[i+1].toNat:Int) w x1)
    have HN2:=hide (fun w=>nibble_any (p[i+2].toNat:Int) w x2)
    have b1:=digitI_bd (p[i+1].toNat:Int)
    have b2:=digitI_bd (p[i+2].toNat:Int)
    clear hb2 x1 x2
    generalize digitI (p[i+1].toNat:Int)=d1 at *
    generalize digitI (p[i+2].toNat:Int)=d2 at *
    go_enter Tryz.func152,Tryz.ntmps152
    go_wp2_with (first | (go_at_call 119;refine (unhide HM _).mono ?_;rintro e w' ⟨rfl,rfl⟩))
    refine (unhide HN1 _).mono ?_
    rintro e w' ⟨rfl,rfl⟩
    go_wp2_with fail
    refine (unhide HN2 _).mono ?_
    rintro e w' ⟨rfl,rfl⟩
    go_wp2
    go_ret2
    exact ⟨by first | rfl | (congr 3;go_num),rfl⟩
   ·rw [if_neg hh] at h;cases h
 ·rw [if_neg c1] at h
  have c1':((p[i].toNat:Int) != 92)=true:=by simpa using c1
  simp only [Option.some.injEq,Prod.mk.injEq] at h
  obtain ⟨rfl,rfl⟩:=h
  clear c1
  go_enter Tryz.func152,Tryz.ntmps152
  go_wp2
  go_ret2
  exact ⟨by first | rfl | (congr 3;go_num),rfl⟩
end Go.Proofs.YtobfpgoepaeknaaGreat
