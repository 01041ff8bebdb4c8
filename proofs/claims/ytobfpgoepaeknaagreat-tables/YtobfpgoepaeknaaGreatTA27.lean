/-
  The document's answer: Pattern. The law Patterns, where the document's answer agrees.
-/
import Derived.Test.YtobfpgoepaeknaaGreatTA07
namespace Go.Proofs.YtobfpgoepaeknaaGreat
open Go.RowKit
set_option maxHeartbeats 400000 in
theorem RefPattern_long (w:World) (t:ByteArray) (ht:60 < t.size) :
  Calls Tryz.prog 21 #[.string t] w fun e w'=>e=.returned (.tuple #[.int .i64 1,.int .i64 0])∧Below w.heap.size w w':=by
 have ht':(60:Int) < (t.size:Int):=by omega
 go_enter Tryz.func21,Tryz.ntmps21
 go_wp2
 go_ret2
 exact ⟨rfl,Below.refl _ _⟩
theorem below_trans' {w w1 w2:World} (h:Below w.heap.size w w1) (k:Below w1.heap.size w1 w2):Below w.heap.size w w2:=h.trans (k.mono h.size)
set_option maxHeartbeats 1000000 in
theorem RefPattern_any (w:World) (t:ByteArray) (y:St) (ht:t.size≤60) (h:RefOk t y) :
  Calls Tryz.prog 21 #[.string t] w fun e w'=>e=.returned (.tuple #[.int .i64 (readErr t y).1,.int .i64 (readErr t y).2])∧Below w.heap.size w w':=by
 have ht':(t.size:Int)≤60:=by omega
 have HP:=hide (place_any w t ht)
 by_cases hb:y.s.bad=true∨y.s.k < t.size
 ·have hp:=h.1 hb
  have he:=readErr_bad hb
  rw [he]
  have hp0:0≤placeS t:=by rw [hp];omega
  have HE:=hide hp
  clear h hb he hp
  generalize placeS t=pl at *
  go_enter Tryz.func21,Tryz.ntmps21
  go_wp2_with fail
  refine (unhide HP).mono ?_
  rintro e w1 ⟨rfl,hw1⟩
  go_wp2
  go_ret2
  exact ⟨by rw [←unhide HE];rfl,hw1⟩
 ·obtain ⟨hp,n,r,m,W,h1,h2,h3,h4⟩:=h.2 hb
  have hb1:y.s.bad=false:=by
   cases hbb:y.s.bad
   ·rfl
   ·exact absurd (Or.inl hbb) hb
  have hb2:¬y.s.k < t.size:=fun hh=>hb (Or.inr hh)
  have HT:=hide (fun w1=>tree_any t w1 n r ht h2 h1)
  have HW:=hide (fun b w1 hrt=>weight_any r.1 h2 b m r.2 W w1 hrt h3)
  have hpn:placeS t < 0:=by rw [hp];omega
  clear hp h1 h2 h3 h hb
  generalize placeS t=pl at *
  by_cases hbig:12 < W
  ·have he:=readErr_big (t:=t) (y:=y) hb1 hb2 (by rw [h4];split<;>omega)
   rw [he]
   clear he h4
   go_enter Tryz.func21,Tryz.ntmps21
   go_wp2_with fail
   refine (unhide HP).mono ?_
   rintro e w1 ⟨rfl,hw1⟩
   go_wp2_with fail
   refine (unhide HT w1).mono ?_
   rintro e w2 ⟨rfl,hw2,hr2⟩
   go_wp2_with fail
   refine (unhide HW _ w2 hr2).mono ?_
   rintro e w3 ⟨rfl,hw3⟩
   go_wp2
   go_ret2
   exact ⟨rfl,below_trans' (below_trans' hw1 hw2) hw3⟩
  ·have h5:lastW (weighAll y.ns)=W:=by rw [h4];split<;>omega
   have he:=readErr_ok (t:=t) (y:=y) hb1 hb2 (by rw [h5];exact hbig)
   rw [he,h5]
   have hbig':W≤12:=by omega
   clear he h4 h5 hbig
   go_enter Tryz.func21,Tryz.ntmps21
   go_wp2_with fail
   refine (unhide HP).mono ?_
   rintro e w1 ⟨rfl,hw1⟩
   go_wp2_with fail
   refine (unhide HT w1).mono ?_
   rintro e w2 ⟨rfl,hw2,hr2⟩
   go_wp2_with fail
   refine (unhide HW _ w2 hr2).mono ?_
   rintro e w3 ⟨rfl,hw3⟩
   go_wp2
   go_ret2
   exact ⟨rfl,below_trans' (below_trans' hw1 hw2) hw3⟩
set_option maxHeartbeats 400000 in
theorem num_any (n:Int) (w:World):Calls Tryz.prog 8 #[.int .i64 n] w fun e w'=>e=.returned (.int .i64 n)∧w'=w:=by
 go_enter Tryz.func8,Tryz.ntmps8
 go_wp2
 go_ret
 exact ⟨rfl,rfl⟩
end Go.Proofs.YtobfpgoepaeknaaGreat
