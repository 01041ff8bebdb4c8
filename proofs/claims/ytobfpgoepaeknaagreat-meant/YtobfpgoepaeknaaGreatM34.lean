/-
  veilkeep.pick, form, holds, short, sameInts.
-/
import Derived.Test.YtobfpgoepaeknaaGreatM33
import Derived.Test.YtobfpgoepaeknaaGreatM09
import Derived.Laws.IdiomStrings
namespace Go.Proofs.YtobfpgoepaeknaaGreat
namespace Mc
open Go.RowKit
attribute [local go_sem ↓] Go.wp_at_zero Go.wp_at_succ
def pickN (c:Int) (n:Nat):Nat:=((if c < 0 then -(c+1) else c) % (n:Int)).toNat
theorem pickN_lt (c:Int) {n:Nat} (h:0 < n):pickN c n < n:=by
 unfold pickN
 have h1:=Int.emod_nonneg (if c < 0 then -(c+1) else c) (show (n:Int)≠0 by omega)
 have h2:=Int.emod_lt_of_pos (if c < 0 then -(c+1) else c) (show (0:Int) < (n:Int) by omega)
 omega
set_option maxRecDepth 20000 in
theorem kpick_any (w:World) (c:Int) (n:Nat) (hn:0 < n) (hn2:n≤100) (h1:-9223372036854775808≤c) (h2:c≤9223372036854775807):Calls Tryz.prog 13 #[.int .i64 c,.int .i64 (n:Int)] w fun e w'=>e=.returned (.int .i64 ((pickN c n:Nat):Int))∧w'=w:=by
 have hn0:¬(n:Int)=0:=by omega
 have hnb:((n:Int) == 0)=false:=beq_eq_false_iff_ne.2 hn0
 have hnI:(n:Int)≤100:=by omega
 have hn1:(0:Int) < (n:Int):=by omega
 by_cases hc:c < 0
 ·have e1:((pickN c n:Nat):Int)=(-(c+1)) % (n:Int):=by
   unfold pickN;rw [if_pos hc,Int.toNat_of_nonneg (Int.emod_nonneg _ hn0)]
  have e2:(-(c+1)).tmod (n:Int)=((pickN c n:Nat):Int):=by rw [Int.tmod_eq_emod_of_nonneg (by omega),e1]
  have e3:=e1.symm
  have g1:(0:Int)≤-(c+1):=by omega
  clear e1
  generalize pickN c n=y at *
  go_enter Tryz.func13,Tryz.ntmps13
  go_wp2_with fail
  go_ret
  exact ⟨rfl,rfl⟩
 ·have e1:((pickN c n:Nat):Int)=c % (n:Int):=by
   unfold pickN;rw [if_neg hc,Int.toNat_of_nonneg (Int.emod_nonneg _ hn0)]
  have e2:c.tmod (n:Int)=((pickN c n:Nat):Int):=by rw [Int.tmod_eq_emod_of_nonneg (by omega),e1]
  have e3:=e1.symm
  have g1:(0:Int)≤c:=by omega
  clear e1
  generalize pickN c n=y at *
  go_enter Tryz.func13,Tryz.ntmps13
  go_wp2_with fail
  go_ret
  exact ⟨rfl,rfl⟩
def formL:List (List UInt8):=[[97],[33,98],[50,40,97,98,41],[49,40,97,98,41],[49,40,97,33,98,41],[50,40,97,49,40,97,98,41,33,98,41],[48,40,98,41],[51,40,97,98,41],[33,50,40,33,97,33,98,41],[49,40,50,40,97,33,98,41,50,40,33,97,98,41,41]]
def formS (k:Nat):ByteArray:=⟨(formL.getD k []).toArray⟩
theorem lt10 {k:Nat} (h:k < 10):k=0∨k=1∨k=2∨k=3∨k=4∨k=5∨k=6∨k=7∨k=8∨k=9:=by omega
set_option maxRecDepth 20000 in
set_option maxHeartbeats 2000000 in
theorem kform_any (w:World) (k:Nat) (hk:k < 10):Calls Tryz.prog 14 #[.int .i64 (k:Int)] w fun e w'=>e=.returned (.string (formS k))∧Below w.heap.size w w':=by
 rcases lt10 hk with rfl | rfl | rfl | rfl | rfl | rfl | rfl | rfl | rfl | rfl
 all_goals
  clear hk
  go_enter Tryz.func14,Tryz.ntmps14
  go_wp2_with fail
  go_ret
  exact ⟨rfl,(Below.refl _ _).alloc (Nat.le_refl _) _⟩
def holdsB (k:Nat) (a b:Bool):Bool :=
 if k=0 then a else if k=1 then !b else if k=2 then a && b else if k=3∨k=8 then a || b else if k=4 then a || !b else if k=5 then a else if k=6 then true else if k=7 then false else a != b
set_option maxRecDepth 20000 in
set_option maxHeartbeats 4000000 in
theorem kholds_any (w:World) (k:Nat) (hk:k < 10) (a b:Bool):Calls Tryz.prog 18 #[.int .i64 (k:Int),.bool a,.bool b] w fun e w'=>e=.returned (.bool (holdsB k a b))∧w'=w:=by
 rcases lt10 hk with rfl | rfl | rfl | rfl | rfl | rfl | rfl | rfl | rfl | rfl<;>cases a<;>cases b
 all_goals
  clear hk
  go_enter Tryz.func18,Tryz.ntmps18
  go_wp2_with fail
  go_ret
  exact ⟨rfl,rfl⟩
theorem form_scan {k:Nat} (hk:k < 10):fscan 2 (formS k) (formS k).size 0 0 0=none:=by
 rcases lt10 hk with rfl | rfl | rfl | rfl | rfl | rfl | rfl | rfl | rfl | rfl<;>rfl
theorem form_true {k:Nat} (hk:k < 10) (a b:Bool):trueF (formS k) [a,b]=holdsB k a b:=by
 rcases lt10 hk with rfl | rfl | rfl | rfl | rfl | rfl | rfl | rfl | rfl | rfl<;>cases a<;>cases b<;>rfl
theorem form_size {k:Nat} (hk:k < 10):1≤(formS k).size∧(formS k).size≤15:=by
 rcases lt10 hk with rfl | rfl | rfl | rfl | rfl | rfl | rfl | rfl | rfl | rfl<;>exact ⟨by decide,by decide⟩
end Mc
end Go.Proofs.YtobfpgoepaeknaaGreat
