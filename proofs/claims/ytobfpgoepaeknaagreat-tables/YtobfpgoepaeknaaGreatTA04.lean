/-
  The look over a text: among, digit, hex, outside, inside, goes.
  The look over a text: outside, inside, goes, place.
  The look over a text: inside, goes.
  The look over a text: place.
-/
import Derived.Test.YtobfpgoepaeknaaGreatTA03
import Derived.Test.YtobfpgoepaeknaaGreatTA00
namespace Go.Proofs.YtobfpgoepaeknaaGreat
open Go.RowKit
def anyB (s:ByteArray) (c:Int):Bool:=s.data.toList.any fun b=>(b.toNat:Int) == c
set_option maxHeartbeats 400000 in
theorem among_any (c:Int) (s:ByteArray) (w:World) (hs:s.size≤60) :
  Calls Tryz.prog 119 #[.int .u8 c,.string s] w fun e w'=>e=.returned (.bool (anyB s c))∧w'=w:=by
 have hs':(s.size:Int)≤60:=by omega
 have HS:=hide hs
 clear hs
 go_enter Tryz.func119,Tryz.ntmps119
 go_wp2
 go_loop [5] (fun i=>∃ k:Nat,k≤s.size∧i=.int .i64 k∧Hid (∀ j (h:j < s.size),j < k→((s[j].toNat:Int) == c)=false)) (fun i=>s.size - (intOf i).toNat)
 case atStart=>exact ⟨0,Nat.zero_le _,rfl,fun j _ hj=>absurd hj (Nat.not_lt_zero j)⟩
 case round =>
  obtain ⟨k,hk,rfl,H⟩:=hrel
  by_cases hlt:k < s.size
  ·by_cases hc:((s[k].toNat:Int) == c)=true
   ·go_wp2
    go_ret
    refine ⟨ret_bool ?_,rfl⟩
    symm
    unfold anyB
    rw [List.any_eq_true]
    exact ⟨s[k],by simp [ByteArray.getElem_eq_getElem_data],hc⟩
   ·have hc':((s[k].toNat:Int) == c)=false:=by simpa using hc
    clear hc
    have HC:=hide hc'
    go_wp2
    go_round
    case rel =>
     refine ⟨k+1,by omega,by go_num,fun j hj hjk=>?_⟩
     by_cases e:j=k
     ·subst e;exact unhide HC
     ·exact unhide H j hj (by omega)
    case measure=>simp [intOf];omega
  ·go_wp2
   go_ret
   refine ⟨ret_bool ?_,rfl⟩
   symm
   unfold anyB
   rw [List.any_eq_false]
   intro b hb
   rw [List.mem_iff_getElem] at hb
   obtain ⟨j,hj,rfl⟩:=hb
   have hj':j < s.size:=by simpa using hj
   have:=unhide H j hj' (by omega)
   rw [ByteArray.getElem_eq_getElem_data] at this
   simpa using this
theorem anyB_marks (c:Int):anyB { data:=#[124,42,43,63,123,125,40,41,91,93,46,92,45,94] } c=mayBeEscapedB c:=by
 rw [Bool.eq_iff_iff]
 simp [anyB,mayBeEscapedB,isMarkB]
 omega
theorem marks_any (c:Int) (w:World) :
  Calls Tryz.prog 119 #[.int .u8 c,.string { data:=#[124,42,43,63,123,125,40,41,91,93,46,92,45,94] }] w fun e w'=>e=.returned (.bool (mayBeEscapedB c))∧w'=w:=by
 rw [←anyB_marks]
 exact among_any c _ w (by decide)
set_option maxHeartbeats 400000 in
theorem dec_any (c:Int) (w:World):Calls Tryz.prog 84 #[.int .u8 c] w fun e w'=>e=.returned (.bool (decB c))∧w'=w:=by
 go_enter Tryz.func84,Tryz.ntmps84
 go_wp2
 all_goals
  go_ret
  exact ⟨ret_bool (by simp_all [decB];try (intros;omega)),rfl⟩
set_option maxHeartbeats 400000 in
theorem hex_any (c:Int) (w:World):Calls Tryz.prog 120 #[.int .u8 c] w fun e w'=>e=.returned (.bool (hexB c))∧w'=w:=by
 go_enter Tryz.func120,Tryz.ntmps120
 go_wp2_with (go_at_call 84;refine (dec_any _ _).mono ?_;rintro e w' ⟨rfl,rfl⟩)
 all_goals
  go_ret
  exact ⟨ret_bool (by simp_all [hexB];try (intros;omega)),rfl⟩
end Go.Proofs.YtobfpgoepaeknaaGreat
namespace Go.Proofs.YtobfpgoepaeknaaGreat
open Go.RowKit
def ScB (w:World) (b:Nat) (x:Sc):Prop:=w.heap[b]?=some (.cells #[.int .i64 x.mode,.int .i64 x.depth,.int .i64 x.back] 148 (0,0))
def ScP (w w':World) (b:Nat) (x:Sc):Prop:=w.grownBy w' (some b)∧ScB w' b x
section
variable {w w' : World} {b : Nat} {x : Sc}
theorem ScB.cells (h:ScB w b x):w.cell? ⟨b,0,none⟩=some (.int .i64 x.mode)∧w.cell? ⟨b,1,none⟩=some (.int .i64 x.depth)∧w.cell? ⟨b,2,none⟩=some (.int .i64 x.back):=by
 unfold ScB at h
 simp [World.cell?,h]
theorem ScB.unfrozen (h:ScB w b x):w.frozen? ⟨b,0,none⟩=false∧w.frozen? ⟨b,1,none⟩=false∧w.frozen? ⟨b,2,none⟩=false:=by
 unfold ScB at h
 simp [World.frozen?,h]
theorem ScP.refl (h:ScB w b x):ScP w w b x:=⟨grownBy_refl _ _,h⟩
theorem ScP.mode (h:ScP w w' b x) (m:Int):ScP w (w'.setCell ⟨b,0,none⟩ (.int .i64 m)) b ⟨m,x.depth,x.back⟩:=by
 refine ⟨grownBy_setCell h.1 _,?_⟩
 have hr:=h.2
 unfold ScB at hr ⊢
 simp only [World.setCell,Array.getElem?_modify,if_pos,hr]
 simp
theorem ScP.depth (h:ScP w w' b x) (m:Int):ScP w (w'.setCell ⟨b,1,none⟩ (.int .i64 m)) b ⟨x.mode,m,x.back⟩:=by
 refine ⟨grownBy_setCell h.1 _,?_⟩
 have hr:=h.2
 unfold ScB at hr ⊢
 simp only [World.setCell,Array.getElem?_modify,if_pos,hr]
 simp
theorem ScP.back (h:ScP w w' b x) (m:Int):ScP w (w'.setCell ⟨b,2,none⟩ (.int .i64 m)) b ⟨x.mode,x.depth,m⟩:=by
 refine ⟨grownBy_setCell h.1 _,?_⟩
 have hr:=h.2
 unfold ScB at hr ⊢
 simp only [World.setCell,Array.getElem?_modify,if_pos,hr]
 simp
end
set_option maxHeartbeats 2000000 in
theorem outside_any (w:World) (b:Nat) (x:Sc) (c:Int) (h:ScB w b x) (hd0:-1≤x.depth) (hd1:x.depth≤100) :
  Calls Tryz.prog 118 #[.pointer (some ⟨b,0,none⟩),.int .u8 c] w fun e w' =>
   e=.returned (.bool (outsideS x c).1)∧ScP w w' b (outsideS x c).2:=by
 obtain ⟨k0,k1,k2⟩:=h.cells
 obtain ⟨f0,f1,f2⟩:=h.unfrozen
 by_cases c0:(c == 124)=true
 ·have e0:outsideS x c=(true,⟨0,x.depth,x.back⟩):=by simp only [outsideS,c0];rfl
  rw [e0]
  clear e0
  go_enter Tryz.func118,Tryz.ntmps118
  go_wp2
  all_goals
   go_ret
   exact ⟨rfl,(ScP.refl h).mode 0⟩
 ·have c0':(c == 124)=false:=by simpa using c0
  clear c0
  by_cases c1:(c == 40)=true
  ·have e0:outsideS x c=(true,⟨0,x.depth+1,x.back⟩):=by simp only [outsideS,c0',c1];rfl
   rw [e0]
   clear e0
   go_enter Tryz.func118,Tryz.ntmps118
   go_wp2
   all_goals
    go_ret
    exact ⟨rfl,((ScP.refl h).mode 0).depth (x.depth+1)⟩
  ·have c1':(c == 40)=false:=by simpa using c1
   clear c1
   by_cases c2:(c == 41)=true
   ·have e0:outsideS x c=(decide (0≤x.depth - 1),⟨1,x.depth - 1,x.back⟩):=by simp only [outsideS,c0',c1',c2];rfl
    rw [e0]
    clear e0
    go_enter Tryz.func118,Tryz.ntmps118
    go_wp2
    all_goals
     go_ret
     exact ⟨ret_bool (by first | rfl | simp | (simp;omega)),((ScP.refl h).mode 1).depth (x.depth - 1)⟩
   ·have c2':(c == 41)=false:=by simpa using c2
    clear c2
    by_cases c3:(c == 42)=true
    ·have e0:outsideS x c=(x.mode == 1,x):=by simp only [outsideS,c0',c1',c2',c3];rfl
     rw [e0]
     clear e0
     go_enter Tryz.func118,Tryz.ntmps118
     go_wp2
     all_goals
      go_ret
      exact ⟨rfl,ScP.refl h⟩
    ·have c3':(c == 42)=false:=by simpa using c3
     clear c3
     by_cases c4:(c == 43)=true
     ·have e0:outsideS x c=(x.mode == 1,x):=by simp only [outsideS,c0',c1',c2',c3',c4];rfl
      rw [e0]
      clear e0
      go_enter Tryz.func118,Tryz.ntmps118
      go_wp2
      all_goals
       go_ret
       exact ⟨rfl,ScP.refl h⟩
     ·have c4':(c == 43)=false:=by simpa using c4
      clear c4
      by_cases c5:(c == 63)=true
      ·have e0:outsideS x c=(x.mode == 1,x):=by simp only [outsideS,c0',c1',c2',c3',c4',c5];rfl
       rw [e0]
       clear e0
       go_enter Tryz.func118,Tryz.ntmps118
       go_wp2
       all_goals
        go_ret
        exact ⟨rfl,ScP.refl h⟩
      ·have c5':(c == 63)=false:=by simpa using c5
       clear c5
       by_cases c6:(c == 123)=true
       ·have e0:outsideS x c=(x.mode == 1,⟨4,x.depth,x.back⟩):=by simp only [outsideS,c0',c1',c2',c3',c4',c5',c6];rfl
        rw [e0]
        clear e0
        go_enter Tryz.func118,Tryz.ntmps118
        go_wp2
        all_goals
         go_ret
         exact ⟨rfl,(ScP.refl h).mode 4⟩
       ·have c6':(c == 123)=false:=by simpa using c6
        clear c6
        by_cases c7:(c == 91)=true
        ·have e0:outsideS x c=(true,⟨8,x.depth,x.back⟩):=by simp only [outsideS,c0',c1',c2',c3',c4',c5',c6',c7];rfl
         rw [e0]
         clear e0
         go_enter Tryz.func118,Tryz.ntmps118
         go_wp2
         all_goals
          go_ret
          exact ⟨rfl,(ScP.refl h).mode 8⟩
        ·have c7':(c == 91)=false:=by simpa using c7
         clear c7
         by_cases c8:(c == 92)=true
         ·have e0:outsideS x c=(true,⟨2,x.depth,1⟩):=by simp only [outsideS,c0',c1',c2',c3',c4',c5',c6',c7',c8];rfl
          rw [e0]
          clear e0
          go_enter Tryz.func118,Tryz.ntmps118
          go_wp2
          all_goals
           go_ret
           exact ⟨rfl,((ScP.refl h).mode 2).back 1⟩
         ·have c8':(c == 92)=false:=by simpa using c8
          clear c8
          by_cases c9:(c == 125)=true
          ·have e0:outsideS x c=(false,x):=by simp only [outsideS,c0',c1',c2',c3',c4',c5',c6',c7',c8',c9];rfl
           rw [e0]
           clear e0
           go_enter Tryz.func118,Tryz.ntmps118
           go_wp2
           all_goals
            go_ret
            exact ⟨rfl,ScP.refl h⟩
          ·have c9':(c == 125)=false:=by simpa using c9
           clear c9
           by_cases c10:(c == 93)=true
           ·have e0:outsideS x c=(false,x):=by simp only [outsideS,c0',c1',c2',c3',c4',c5',c6',c7',c8',c9',c10];rfl
            rw [e0]
            clear e0
            go_enter Tryz.func118,Tryz.ntmps118
            go_wp2
            all_goals
             go_ret
             exact ⟨rfl,ScP.refl h⟩
           ·have c10':(c == 93)=false:=by simpa using c10
            clear c10
            have e0:outsideS x c=(printB c,⟨1,x.depth,x.back⟩):=by simp only [outsideS,c0',c1',c2',c3',c4',c5',c6',c7',c8',c9',c10'];rfl
            rw [e0]
            clear e0
            go_enter Tryz.func118,Tryz.ntmps118
            go_wp2
            all_goals
             go_ret
             exact ⟨ret_bool (by simp_all [printB];try (intros;omega)),(ScP.refl h).mode 1⟩
end Go.Proofs.YtobfpgoepaeknaaGreat
namespace Go.Proofs.YtobfpgoepaeknaaGreat
open Go.RowKit
set_option maxHeartbeats 2000000 in
theorem inside_yes (w:World) (b:Nat) (x:Sc) (c:Int) (h:ScB w b x) (hm:(x.mode == 11)=true) :
  Calls Tryz.prog 121 #[.pointer (some ⟨b,0,none⟩),.int .u8 c] w fun e w' =>
   e=.returned (.bool (insideS x c).1)∧ScP w w' b (insideS x c).2:=by
 obtain ⟨k0,k1,k2⟩:=h.cells
 obtain ⟨f0,f1,f2⟩:=h.unfrozen
 have et:toS x=12:=by simp only [toS,hm,if_true]
 by_cases c0:(c == 94)=true
 ·have e0:insideS x c=(x.mode == 8,⟨9,x.depth,x.back⟩):=by simp only [insideS,c0,et];rfl
  rw [e0]
  clear e0 et
  go_enter Tryz.func121,Tryz.ntmps121
  go_wp2
  all_goals
   go_ret
   exact ⟨ret_bool (by first | rfl | simp_all),(ScP.refl h).mode 9⟩
 ·have c0':(c == 94)=false:=by simpa using c0
  clear c0
  by_cases c1:(c == 45)=true
  ·have e0:insideS x c=(x.mode == 10,⟨11,x.depth,x.back⟩):=by simp only [insideS,c0',c1,et];rfl
   rw [e0]
   clear e0 et
   go_enter Tryz.func121,Tryz.ntmps121
   go_wp2
   all_goals
    go_ret
    exact ⟨ret_bool (by first | rfl | simp_all),(ScP.refl h).mode 11⟩
  ·have c1':(c == 45)=false:=by simpa using c1
   clear c1
   by_cases c2:(c == 93)=true
   ·have e0:insideS x c=(x.mode == 10 || x.mode == 12,⟨1,x.depth,x.back⟩):=by simp only [insideS,c0',c1',c2,et];rfl
    rw [e0]
    clear e0 et
    go_enter Tryz.func121,Tryz.ntmps121
    go_wp2
    all_goals
     go_ret
     exact ⟨ret_bool (by simp_all),(ScP.refl h).mode 1⟩
   ·have c2':(c == 93)=false:=by simpa using c2
    clear c2
    by_cases c3:(c == 91)=true
    ·have e0:insideS x c=(false,x):=by simp only [insideS,c0',c1',c2',c3,et];rfl
     rw [e0]
     clear e0 et
     go_enter Tryz.func121,Tryz.ntmps121
     go_wp2
     all_goals
      go_ret
      exact ⟨rfl,ScP.refl h⟩
    ·have c3':(c == 91)=false:=by simpa using c3
     clear c3
     by_cases c4:(c == 92)=true
     ·have e0:insideS x c=(true,⟨2,x.depth,12⟩):=by simp only [insideS,c0',c1',c2',c3',c4,et];rfl
      rw [e0]
      clear e0 et
      go_enter Tryz.func121,Tryz.ntmps121
      go_wp2
      all_goals
       go_ret
       exact ⟨rfl,((ScP.refl h).mode 2).back 12⟩
     ·have c4':(c == 92)=false:=by simpa using c4
      clear c4
      have e0:insideS x c=(printB c,⟨12,x.depth,x.back⟩):=by simp only [insideS,c0',c1',c2',c3',c4',et];rfl
      rw [e0]
      clear e0 et
      go_enter Tryz.func121,Tryz.ntmps121
      go_wp2
      all_goals
       go_ret
       exact ⟨ret_bool (by simp_all [printB];try (intros;omega)),(ScP.refl h).mode 12⟩
set_option maxHeartbeats 2000000 in
theorem inside_no (w:World) (b:Nat) (x:Sc) (c:Int) (h:ScB w b x) (hm:(x.mode == 11)=false) :
  Calls Tryz.prog 121 #[.pointer (some ⟨b,0,none⟩),.int .u8 c] w fun e w' =>
   e=.returned (.bool (insideS x c).1)∧ScP w w' b (insideS x c).2:=by
 obtain ⟨k0,k1,k2⟩:=h.cells
 obtain ⟨f0,f1,f2⟩:=h.unfrozen
 have et:toS x=10:=by simp only [toS,hm];rfl
 by_cases c0:(c == 94)=true
 ·have e0:insideS x c=(x.mode == 8,⟨9,x.depth,x.back⟩):=by simp only [insideS,c0,et];rfl
  rw [e0]
  clear e0 et
  go_enter Tryz.func121,Tryz.ntmps121
  go_wp2
  all_goals
   go_ret
   exact ⟨ret_bool (by first | rfl | simp_all),(ScP.refl h).mode 9⟩
 ·have c0':(c == 94)=false:=by simpa using c0
  clear c0
  by_cases c1:(c == 45)=true
  ·have e0:insideS x c=(x.mode == 10,⟨11,x.depth,x.back⟩):=by simp only [insideS,c0',c1,et];rfl
   rw [e0]
   clear e0 et
   go_enter Tryz.func121,Tryz.ntmps121
   go_wp2
   all_goals
    go_ret
    exact ⟨ret_bool (by first | rfl | simp_all),(ScP.refl h).mode 11⟩
  ·have c1':(c == 45)=false:=by simpa using c1
   clear c1
   by_cases c2:(c == 93)=true
   ·have e0:insideS x c=(x.mode == 10 || x.mode == 12,⟨1,x.depth,x.back⟩):=by simp only [insideS,c0',c1',c2,et];rfl
    rw [e0]
    clear e0 et
    go_enter Tryz.func121,Tryz.ntmps121
    go_wp2
    all_goals
     go_ret
     exact ⟨ret_bool (by simp_all),(ScP.refl h).mode 1⟩
   ·have c2':(c == 93)=false:=by simpa using c2
    clear c2
    by_cases c3:(c == 91)=true
    ·have e0:insideS x c=(false,x):=by simp only [insideS,c0',c1',c2',c3,et];rfl
     rw [e0]
     clear e0 et
     go_enter Tryz.func121,Tryz.ntmps121
     go_wp2
     all_goals
      go_ret
      exact ⟨rfl,ScP.refl h⟩
    ·have c3':(c == 91)=false:=by simpa using c3
     clear c3
     by_cases c4:(c == 92)=true
     ·have e0:insideS x c=(true,⟨2,x.depth,10⟩):=by simp only [insideS,c0',c1',c2',c3',c4,et];rfl
      rw [e0]
      clear e0 et
      go_enter Tryz.func121,Tryz.ntmps121
      go_wp2
      all_goals
       go_ret
       exact ⟨rfl,((ScP.refl h).mode 2).back 10⟩
     ·have c4':(c == 92)=false:=by simpa using c4
      clear c4
      have e0:insideS x c=(printB c,⟨10,x.depth,x.back⟩):=by simp only [insideS,c0',c1',c2',c3',c4',et];rfl
      rw [e0]
      clear e0 et
      go_enter Tryz.func121,Tryz.ntmps121
      go_wp2
      all_goals
       go_ret
       exact ⟨ret_bool (by simp_all [printB];try (intros;omega)),(ScP.refl h).mode 10⟩
theorem inside_any (w:World) (b:Nat) (x:Sc) (c:Int) (h:ScB w b x) :
  Calls Tryz.prog 121 #[.pointer (some ⟨b,0,none⟩),.int .u8 c] w fun e w' =>
   e=.returned (.bool (insideS x c).1)∧ScP w w' b (insideS x c).2:=by
 by_cases hm:(x.mode == 11)=true
 ·exact inside_yes w b x c h hm
 ·exact inside_no w b x c h (by simpa using hm)
set_option maxHeartbeats 2000000 in
theorem goes_any (w:World) (b:Nat) (x:Sc) (c:Int) (hSc:ScB w b x) (hd0:-1≤x.depth) (hd1:x.depth≤100) (_hm0:0≤x.mode) (_hm1:x.mode≤12) :
  Calls Tryz.prog 75 #[.pointer (some ⟨b,0,none⟩),.int .u8 c] w fun e w' =>
   e=.returned (.bool (goesS x c).1)∧ScP w w' b (goesS x c).2:=by
 obtain ⟨k0,k1,k2⟩:=hSc.cells
 obtain ⟨f0,f1,f2⟩:=hSc.unfrozen
 have HO:=hide (outside_any w b x c hSc hd0 hd1)
 have HI:=hide (inside_any w b x c hSc)
 by_cases c0:(x.mode == 0)=true
 ·have e0:goesS x c=outsideS x c:=by simp only [goesS,c0];rfl
  rw [e0]
  clear e0
  go_enter Tryz.func75,Tryz.ntmps75
  go_wp2_with (go_at_call 118;refine (unhide HO).mono ?_;rintro e w1 ⟨rfl,hw1⟩)
  go_ret
  exact ⟨rfl,hw1⟩
 ·have c0':(x.mode == 0)=false:=by simpa using c0
  clear c0
  by_cases c1:(x.mode == 1)=true
  ·have e0:goesS x c=outsideS x c:=by simp only [goesS,c0',c1];rfl
   rw [e0]
   clear e0
   go_enter Tryz.func75,Tryz.ntmps75
   go_wp2_with (go_at_call 118;refine (unhide HO).mono ?_;rintro e w1 ⟨rfl,hw1⟩)
   go_ret
   exact ⟨rfl,hw1⟩
  ·have c1':(x.mode == 1)=false:=by simpa using c1
   clear c1
   by_cases c2:(x.mode == 2)=true
   ·by_cases hb:mayBeEscapedB c=true
    ·have e0:goesS x c=(true,⟨x.back,x.depth,x.back⟩):=by simp only [goesS,c0',c1',c2,hb];rfl
     rw [e0]
     clear e0
     go_enter Tryz.func75,Tryz.ntmps75
     go_wp2_with (first | (go_at_call 119;refine (marks_any _ _).mono ?_;rintro e w1 ⟨rfl,rfl⟩) | (go_at_call 120;refine (hex_any _ _).mono ?_;rintro e w1 ⟨rfl,rfl⟩))
     go_ret
     exact ⟨rfl,((ScP.refl hSc).mode 3).mode x.back⟩
    ·have hb':mayBeEscapedB c=false:=by simpa using hb
     clear hb
     have e0:goesS x c=(hexB c,⟨3,x.depth,x.back⟩):=by simp only [goesS,c0',c1',c2,hb'];rfl
     rw [e0]
     clear e0
     go_enter Tryz.func75,Tryz.ntmps75
     go_wp2_with (first | (go_at_call 119;refine (marks_any _ _).mono ?_;rintro e w1 ⟨rfl,rfl⟩) | (go_at_call 120;refine (hex_any _ _).mono ?_;rintro e w1 ⟨rfl,rfl⟩))
     go_ret
     exact ⟨rfl,(ScP.refl hSc).mode 3⟩
   ·have c2':(x.mode == 2)=false:=by simpa using c2
    clear c2
    by_cases c3:(x.mode == 3)=true
    ·have e0:goesS x c=(hexB c,⟨x.back,x.depth,x.back⟩):=by simp only [goesS,c0',c1',c2',c3];rfl
     rw [e0]
     clear e0
     go_enter Tryz.func75,Tryz.ntmps75
     go_wp2_with (go_at_call 120;refine (hex_any _ _).mono ?_;rintro e w1 ⟨rfl,rfl⟩)
     go_ret
     exact ⟨rfl,(ScP.refl hSc).mode x.back⟩
    ·have c3':(x.mode == 3)=false:=by simpa using c3
     clear c3
     by_cases c4:(x.mode == 4)=true
     ·have e0:goesS x c=(decB c,⟨x.mode+1,x.depth,x.back⟩):=by simp only [goesS,c0',c1',c2',c3',c4];rfl
      rw [e0]
      clear e0
      go_enter Tryz.func75,Tryz.ntmps75
      go_wp2_with (go_at_call 84;refine (dec_any _ _).mono ?_;rintro e w1 ⟨rfl,rfl⟩)
      go_ret
      exact ⟨rfl,(ScP.refl hSc).mode (x.mode+1)⟩
     ·have c4':(x.mode == 4)=false:=by simpa using c4
      clear c4
      by_cases c5:(x.mode == 6)=true
      ·have e0:goesS x c=(decB c,⟨x.mode+1,x.depth,x.back⟩):=by simp only [goesS,c0',c1',c2',c3',c4',c5];rfl
       rw [e0]
       clear e0
       go_enter Tryz.func75,Tryz.ntmps75
       go_wp2_with (go_at_call 84;refine (dec_any _ _).mono ?_;rintro e w1 ⟨rfl,rfl⟩)
       go_ret
       exact ⟨rfl,(ScP.refl hSc).mode (x.mode+1)⟩
      ·have c5':(x.mode == 6)=false:=by simpa using c5
       clear c5
       by_cases c6:(x.mode == 5)=true
       ·have e0:goesS x c=(c == 44,⟨6,x.depth,x.back⟩):=by simp only [goesS,c0',c1',c2',c3',c4',c5',c6];rfl
        rw [e0]
        clear e0
        go_enter Tryz.func75,Tryz.ntmps75
        go_wp2
        go_ret
        exact ⟨rfl,(ScP.refl hSc).mode 6⟩
       ·have c6':(x.mode == 5)=false:=by simpa using c6
        clear c6
        by_cases c7:(x.mode == 7)=true
        ·have e0:goesS x c=(c == 125,⟨1,x.depth,x.back⟩):=by simp only [goesS,c0',c1',c2',c3',c4',c5',c6',c7];rfl
         rw [e0]
         clear e0
         go_enter Tryz.func75,Tryz.ntmps75
         go_wp2
         go_ret
         exact ⟨rfl,(ScP.refl hSc).mode 1⟩
        ·have c7':(x.mode == 7)=false:=by simpa using c7
         clear c7
         have e0:goesS x c=insideS x c:=by simp only [goesS,c0',c1',c2',c3',c4',c5',c6',c7'];rfl
         rw [e0]
         clear e0
         go_enter Tryz.func75,Tryz.ntmps75
         go_wp2_with (go_at_call 121;refine (unhide HI).mono ?_;rintro e w1 ⟨rfl,hw1⟩)
         go_ret
         exact ⟨rfl,hw1⟩
end Go.Proofs.YtobfpgoepaeknaaGreat
namespace Go.Proofs.YtobfpgoepaeknaaGreat
open Go.RowKit
set_option maxHeartbeats 400000 in
theorem place_any (w:World) (t:ByteArray) (ht:t.size≤60) :
  Calls Tryz.prog 40 #[.string t] w fun e w'=>e=.returned (.int .i64 (placeS t))∧Below w.heap.size w w':=by
 have ht':(t.size:Int)≤60:=by omega
 have S0:ScB (w.alloc (Obj.cells #[.int .i64 0,.int .i64 0,.int .i64 0] 148)) w.heap.size ⟨0,0,0⟩:=heap_alloc_new w _
 have HS:=hide (ScP.refl S0)
 have HW:Hid (Below w.heap.size w (w.alloc (Obj.cells #[.int .i64 0,.int .i64 0,.int .i64 0] 148))):=(Below.refl _ _).alloc (Nat.le_refl _) _
 clear S0
 go_enter Tryz.func40,Tryz.ntmps40
 go_wp2
 go_loopw [4] (fun i wr=>∃ (k:Nat) (x:Sc),i=.int .i64 k∧k≤t.size∧Hid (ScOk k x∧scanS t (t.size - k) k x=placeS t∧ScB wr w.heap.size x∧Below w.heap.size w wr)) (fun i _=>t.size - (intOf i).toNat)
 case atStart=>exact ⟨0,⟨0,0,0⟩,rfl,Nat.zero_le _,⟨by decide,by decide,by decide,by decide,by decide,by decide⟩,rfl,(unhide HS).2,unhide HW⟩
 case round =>
  rename_i wr
  obtain ⟨k,x,rfl,hk,H⟩:=hrel
  obtain ⟨hok,hsc,hb,hbel⟩:=unhide H
  obtain ⟨k0,k1,k2⟩:=hb.cells
  by_cases hlt:k < t.size
  ·have HG:=hide (goes_any wr w.heap.size x (t[k].toNat:Int) hb (by have:=hok.2.2.2.2.1;omega) (by have:=hok.2.2.2.2.2;omega) hok.1 hok.2.1)
   obtain ⟨m,hm⟩:∃ m,t.size - k=m+1:=⟨t.size - k - 1,by omega⟩
   have hbe:=byteAt_eq hlt
   by_cases hg:(goesS x (t[k].toNat:Int)).1=true
   ·have hn:scanS t (t.size - (k+1)) (k+1) (goesS x (t[k].toNat:Int)).2=placeS t:=by
     rw [←hsc,hm,scanS,hbe,if_pos hg,show t.size - (k+1)=m from by omega]
    have HN:=hide (And.intro (goesS_ok hok hg) hn)
    have HB:=hide hbel
    have HGG:=hide hg
    clear hok hsc hb hbel hn hbe hm k0 k1 k2 H
    generalize goesS x (t[k].toNat:Int)=r at *
    obtain ⟨r1,r2⟩:=r
    simp only at hg
    subst hg
    go_wp2_with (go_at_call 75;refine (unhide HG).mono ?_;rintro e w1 ⟨rfl,hw1⟩)
    go_roundw
    case rel=>exact ⟨k+1,r2,by go_num,by omega,(unhide HN).1,(unhide HN).2,hw1.2,(unhide HB).grown hw1.1 (unhide HB).size (fun k' hk'=>by simp at hk';omega)⟩
    case measure=>simp [intOf];omega
   ·have hg':(goesS x (t[k].toNat:Int)).1=false:=by simpa using hg
    have hn:placeS t=(k:Int):=by
     rw [←hsc,hm,scanS,hbe,if_neg hg]
    have HN:=hide hn
    have HB:=hide hbel
    clear hok hsc hb hbel hn hbe hm k0 k1 k2 H hg
    generalize goesS x (t[k].toNat:Int)=r at *
    obtain ⟨r1,r2⟩:=r
    simp only at hg'
    subst hg'
    go_wp2_with (go_at_call 75;refine (unhide HG).mono ?_;rintro e w1 ⟨rfl,hw1⟩)
    go_ret
    exact ⟨ret_int (unhide HN).symm,(unhide HB).grown hw1.1 (unhide HB).size (fun k' hk'=>by simp at hk';omega)⟩
  ·have hk2:t.size - k=0:=by omega
   rw [hk2,scanS] at hsc
   have HSC:=hide hsc
   have HB:=hide hbel
   clear hsc hbel hb hok H hk2
   obtain ⟨md,dp,bk⟩:=x
   simp only at k0 k1 k2 HSC
   by_cases hd:0 < dp
   ·have HF:Hid (placeS t=(t.size:Int)):=by have:=unhide HSC;rw [if_pos (by simp [hd])] at this;exact this.symm
    clear HSC
    go_wp2
    go_ret
    exact ⟨ret_int (unhide HF).symm,unhide HB⟩
   ·by_cases hm:1 < md
    ·have HF:Hid (placeS t=(t.size:Int)):=by have:=unhide HSC;rw [if_pos (by simp [hm])] at this;exact this.symm
     clear HSC
     go_wp2
     go_ret
     exact ⟨ret_int (unhide HF).symm,unhide HB⟩
    ·have HF:Hid (placeS t=-1):=by have:=unhide HSC;rw [if_neg (by simp;omega)] at this;exact this.symm
     clear HSC
     go_wp2
     go_ret
     exact ⟨ret_int (unhide HF).symm,unhide HB⟩
end Go.Proofs.YtobfpgoepaeknaaGreat
