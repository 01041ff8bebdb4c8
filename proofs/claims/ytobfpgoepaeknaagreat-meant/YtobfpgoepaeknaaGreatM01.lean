/-
  machine.isCode, isMemory.
  machine.joined; machine.machine.do: one step of the program's machine.
  A region that draws its order, whose last operation alone writes, behind all others: one walk of the text's order serves every order.
  machine.machine.do at operations that join two registers.
-/
import Derived.Test.YtobfpgoepaeknaaGreatM00
import Derived.WalkKit
import Derived.Deep.QuietTactic
namespace Go.Proofs.YtobfpgoepaeknaaGreat
namespace Mc
open Go.RowKit
attribute [local go_sem ↓] Go.wp_at_zero Go.wp_at_succ
def lenLeft (n:Nat) (v:Value):Nat:=n - (intOf v).toNat
set_option maxRecDepth 20000 in
set_option maxHeartbeats 1000000 in
theorem isCode_any (w:World) (v:Value) (os:List OpI) (h:OAt w v os):Calls Tryz.prog 100 #[v] w fun e w'=>e=.returned (.bool (codeB os))∧Below w.heap.size w w':=by
 obtain ⟨a,cap,rfl,hc⟩:=h
 have HC:=hide hc
 have HB:=hide (codeB_iff os)
 clear hc
 by_cases hl:os.length≤4096
 ·have hlI:(os.length:Int)≤4096:=by omega
  have HL:=hide hl
  clear hl
  go_enter Tryz.func100,Tryz.ntmps100
  go_wp2_with fail
  go_loopw [3] (fun ix wr=>∃ k:Nat,ix=.int .i64 (k:Int)∧Hid (k≤os.length∧Below w.heap.size w wr∧∀ j,j < k→opOk (os.getD j op0) (os.length:Int)=true)) (fun ix _=>lenLeft os.length ix)
  case atStart=>exact ⟨0,rfl,Nat.zero_le _,Below.refl _ _,fun j hj=>absurd hj (Nat.not_lt_zero _)⟩
  case round =>
   rename World=>wr
   obtain ⟨k,rfl,HH⟩:=hrel
   obtain ⟨hk,hBw,hall⟩:=unhide HH
   have HBW:=hide hBw
   have HALL:=hide hall
   by_cases hlt:k < os.length
   ·obtain ⟨b,off,rfl,hcs⟩:=unhide HC (by omega)
    have hop:=(hcs k hlt).below hBw
    have hkI:(k:Int) < (os.length:Int):=by omega
    have HLT:=hide hlt
    have HO:=hide (fun w=>isOperation_any (os.getD k op0) (os.length:Int) w)
    have hSN:Hid (opOk (os.getD k op0) (os.length:Int)=true→∀ j,j < k+1→opOk (os.getD j op0) (os.length:Int)=true):=fun he j hj=>by
     by_cases e:j=k
     ·subst e;exact he
     ·exact hall j (by omega)
    have hNO:Hid (opOk (os.getD k op0) (os.length:Int)=false→codeB os=false):=fun he=>by
     cases hcb:codeB os with
     | false=>rfl
     | true=>have:=((unhide HB).1 hcb).2 k hlt;rw [he] at this;cases this
    unfold opV at HO
    obtain ⟨c0,c1,c2,c3⟩:=hop
    clear hk hlt hBw hall HH hcs
    generalize os.getD k op0=o at *
    cases hr:opOk o (os.length:Int)
    ·have HR:=hide hr
     rw [hr] at HO
     clear hr
     go_wp2_with fail
     refine (unhide HO _).mono ?_
     rintro e w1 ⟨rfl,hb1⟩
     have HB1:=hide hb1
     clear hb1
     go_wp2_with fail
     go_ret
     exact ⟨ret_bool (unhide hNO (unhide HR)).symm,(unhide HBW).trans ((unhide HB1).mono (unhide HBW).size)⟩
    ·have HR:=hide hr
     rw [hr] at HO
     clear hr
     go_wp2_with fail
     refine (unhide HO _).mono ?_
     rintro e w1 ⟨rfl,hb1⟩
     have HB1:=hide hb1
     clear hb1
     go_wp2_with fail
     go_roundw
     case rel=>exact ⟨k+1,by go_num,unhide HLT,(unhide HBW).trans ((unhide HB1).mono (unhide HBW).size),unhide hSN (unhide HR)⟩
     case measure=>have:=unhide HLT;simp [lenLeft,intOf];omega
   ·have hk2:k=os.length:=by omega
    subst hk2
    have HR:Hid (codeB os=true):=(unhide HB).2 ⟨unhide HL,hall⟩
    clear hk hlt hBw hall HH
    go_wp2_with fail
    go_ret
    exact ⟨ret_bool (unhide HR).symm,unhide HBW⟩
 ·have hlI:(4096:Int) < (os.length:Int):=by omega
  have HR:Hid (codeB os=false):=by
   show codeB os=false
   cases hcb:codeB os with
   | false=>rfl
   | true=>exact absurd ((unhide HB).1 hcb).1 hl
  clear hl
  go_enter Tryz.func100,Tryz.ntmps100
  go_wp2_with fail
  go_ret
  exact ⟨ret_bool (unhide HR).symm,Below.refl _ _⟩
set_option maxRecDepth 20000 in
set_option maxHeartbeats 1000000 in
theorem isMemory_any (w:World) (v:Value) (zs:List Int) (h:IAt w v zs):Calls Tryz.prog 101 #[v] w fun e w'=>e=.returned (.bool (memB zs))∧w'=w:=by
 obtain ⟨a,cap,rfl,hc⟩:=h
 have HC:=hide hc
 have HB:=hide (memB_iff zs)
 clear hc
 by_cases hl:zs.length≤4096
 ·have hlI:(zs.length:Int)≤4096:=by omega
  have HL:=hide hl
  clear hl
  go_enter Tryz.func101,Tryz.ntmps101
  go_wp2_with fail
  go_loopw [3] (fun ix wr=>∃ k:Nat,ix=.int .i64 (k:Int)∧wr=w∧Hid (k≤zs.length∧∀ j,j < k→wordOk (zs.getD j 0)=true)) (fun ix _=>lenLeft zs.length ix)
  case atStart=>exact ⟨0,rfl,rfl,Nat.zero_le _,fun j hj=>absurd hj (Nat.not_lt_zero _)⟩
  case round =>
   rename World=>wr
   obtain ⟨k,rfl,rfl,HH⟩:=hrel
   obtain ⟨hk,hall⟩:=unhide HH
   have HALL:=hide hall
   by_cases hlt:k < zs.length
   ·obtain ⟨b,off,rfl,hcs⟩:=unhide HC (by omega)
    have hop:=hcs k hlt
    have hkI:(k:Int) < (zs.length:Int):=by omega
    have HLT:=hide hlt
    have hSN:Hid (wordOk (zs.getD k 0)=true→∀ j,j < k+1→wordOk (zs.getD j 0)=true):=fun he j hj=>by
     by_cases e:j=k
     ·subst e;exact he
     ·exact hall j (by omega)
    have hNO:Hid (wordOk (zs.getD k 0)=false→memB zs=false):=fun he=>by
     cases hcb:memB zs with
     | false=>rfl
     | true=>have:=((unhide HB).1 hcb).2 k hlt;rw [he] at this;cases this
    clear hk hlt hall HH hcs
    generalize zs.getD k 0=z at *
    cases hr:wordOk z
    ·have HR:=hide hr
     go_wp2_with (go_at_call 141;refine (isWord_any _ _).mono ?_;rintro e w' ⟨rfl,rfl⟩)
     go_ret
     exact ⟨ret_bool (unhide hNO (unhide HR)).symm,rfl⟩
    ·have HR:=hide hr
     go_wp2_with (go_at_call 141;refine (isWord_any _ _).mono ?_;rintro e w' ⟨rfl,rfl⟩)
     go_roundw
     case rel=>exact ⟨k+1,by go_num,by trivial,unhide HLT,unhide hSN (unhide HR)⟩
     case measure=>have:=unhide HLT;simp [lenLeft,intOf];omega
   ·have hk2:k=zs.length:=by omega
    subst hk2
    have HR:Hid (memB zs=true):=(unhide HB).2 ⟨unhide HL,hall⟩
    clear hk hlt hall HH
    go_wp2_with fail
    go_ret
    exact ⟨ret_bool (unhide HR).symm,rfl⟩
 ·have hlI:(4096:Int) < (zs.length:Int):=by omega
  have HR:Hid (memB zs=false):=by
   show memB zs=false
   cases hcb:memB zs with
   | false=>rfl
   | true=>exact absurd ((unhide HB).1 hcb).1 hl
  clear hl
  go_enter Tryz.func101,Tryz.ntmps101
  go_wp2_with fail
  go_ret
  exact ⟨ret_bool (unhide HR).symm,rfl⟩
end Mc
end Go.Proofs.YtobfpgoepaeknaaGreat
namespace Go.Proofs.YtobfpgoepaeknaaGreat
namespace Mc
open Go.RowKit
attribute [local go_sem ↓] Go.wp_at_zero Go.wp_at_succ
theorem join_add {x y:Nat} (hx:x≤65535) (hy:y≤65535):joinN 1 x y=if x+y≤65535 then x+y else x+y - 65536:=by
 unfold joinN;rw [if_pos rfl];split<;>omega
theorem join_and (x y:Nat):joinN 2 x y=x &&& y:=by unfold joinN;rw [if_neg (by decide),if_pos rfl]
theorem join_or (x y:Nat):joinN 3 x y=x ||| y:=by unfold joinN;rw [if_neg (by decide),if_neg (by decide),if_pos rfl]
theorem join_xor (x y:Nat):joinN 4 x y=x ^^^ y:=by unfold joinN;rw [if_neg (by decide),if_neg (by decide),if_neg (by decide),if_pos rfl]
theorem join_eq (x y:Nat):joinN 5 x y=if x=y then 65535 else 0:=by unfold joinN;rw [if_neg (by decide),if_neg (by decide),if_neg (by decide),if_neg (by decide)]
theorem k15 {k:Int} (h:1≤k∧k≤5):k=1∨k=2∨k=3∨k=4∨k=5:=by omega
set_option maxHeartbeats 1000000 in
theorem joined_any (k:Int) (hk:1≤k∧k≤5) (x y:Nat) (hx:x≤65535) (hy:y≤65535) (w:World) :
  Calls Tryz.prog 156 #[.int .i64 k,.int .i64 (x:Int),.int .i64 (y:Int)] w fun e w'=>e=.returned (.int .i64 ((joinN k x y:Nat):Int))∧w'=w:=by
 have hxI:(x:Int)≤65535:=by omega
 have hyI:(y:Int)≤65535:=by omega
 rcases k15 hk with rfl | rfl | rfl | rfl | rfl
 ·rw [join_add hx hy]
  have HX:=hide hx
  have HY:=hide hy
  clear hx hy hk
  by_cases h:(x:Int)+(y:Int)≤65535
  ·rw [if_pos (by omega)]
   go_enter Tryz.func156,Tryz.ntmps156
   go_wp2
   go_ret
   exact ⟨ret_int (by push_cast;rfl),rfl⟩
  ·have h2:(65535:Int) < (x:Int)+(y:Int):=by omega
   rw [if_neg (by omega)]
   clear h
   go_enter Tryz.func156,Tryz.ntmps156
   go_wp2
   go_ret
   exact ⟨ret_int (by omega),rfl⟩
 ·rw [join_and]
  have he:=and_nat x y hx hy
  clear hx hy hk
  go_enter Tryz.func156,Tryz.ntmps156
  go_wp2
  go_ret
  exact ⟨rfl,rfl⟩
 ·rw [join_or]
  have he:=or_nat x y hx hy
  clear hx hy hk
  go_enter Tryz.func156,Tryz.ntmps156
  go_wp2
  go_ret
  exact ⟨rfl,rfl⟩
 ·rw [join_xor]
  have he:=xor_nat x y hx hy
  clear hx hy hk
  go_enter Tryz.func156,Tryz.ntmps156
  go_wp2
  go_ret
  exact ⟨rfl,rfl⟩
 ·rw [join_eq]
  clear hx hy hk
  by_cases h:x=y
  ·subst h
   rw [if_pos rfl]
   go_enter Tryz.func156,Tryz.ntmps156
   go_wp2
   go_ret
   exact ⟨rfl,rfl⟩
  ·have hne:¬(x:Int)=(y:Int):=by omega
   rw [if_neg h]
   clear h
   go_enter Tryz.func156,Tryz.ntmps156
   go_wp2
   go_ret
   exact ⟨rfl,rfl⟩
theorem regA {x:Int} (h:regOk x=true):∃ A:Nat,x=(A:Int)∧A < 16:=by
 simp [regOk] at h
 exact ⟨x.toNat,by omega,by omega⟩
section
variable {w : World} {B gm gmem : Nat} {tv : Value} {s : MS}
theorem PMx.cr (h:PMx w B gm gmem tv s) (hr:s.R.length=16) {k:Nat} (hk:k < 16):w.cell? ⟨gm,k,none⟩=some (.int .i64 ((s.R.getD k 0:Nat):Int)):=by rw [cell_of_row _ _ _ _ _ _ h.heap];exact pmC_r hr hk
theorem PMx.cm (h:PMx w B gm gmem tv s) (hr:s.R.length=16):w.cell? ⟨gm,16,none⟩=some (.slice (some ⟨gmem,0,none⟩) 4096 4096):=by rw [cell_of_row _ _ _ _ _ _ h.heap];exact pmC_tail hr 0
theorem PMx.ct (h:PMx w B gm gmem tv s) (hr:s.R.length=16):w.cell? ⟨gm,17,none⟩=some tv:=by rw [cell_of_row _ _ _ _ _ _ h.heap];exact pmC_tail hr 1
theorem PMx.cp (h:PMx w B gm gmem tv s) (hr:s.R.length=16):w.cell? ⟨gm,18,none⟩=some (.int .i64 (s.p:Int)):=by rw [cell_of_row _ _ _ _ _ _ h.heap];exact pmC_tail hr 2
theorem PMx.free (h:PMx w B gm gmem tv s) (k:Nat):w.frozen? ⟨gm,k,none⟩=false:=frozen_of_row _ _ _ _ _ h.heap
theorem PMx.cw (h:PMx w B gm gmem tv s) (hm:s.M.length=4096) {k:Nat} (hk:k < 4096):w.cell? ⟨gmem,k,none⟩=some (.int .i64 ((s.M.getD k 0:Nat):Int)):=by
 obtain ⟨g,cap,he,hc⟩:=h.mem.at (k:=k) (by omega)
 simp only [Value.slice.injEq,Option.some.injEq,Addr.mk.injEq,and_true] at he
 obtain ⟨rfl,_⟩:=he
 exact hc
theorem PMx.freeM (h:PMx w B gm gmem tv s) (hm:s.M.length=4096) (k:Nat):w.frozen? ⟨gmem,k,none⟩=false:=by
 have:=h.mem
 unfold NR at this
 rw [hm] at this
 exact own_free this k
theorem PMx.grown17 {w':World} (h:PMx w B gm gmem tv s) (hr:s.R.length=16) (hgrow:w.grownBy w' tv.ownBlock):w'.cell? ⟨gm,17,none⟩=some tv∧w'.frozen? ⟨gm,17,none⟩=false:=by
 have a1:w'.heap[gm]?=_:=(Fr.ofGrown hgrow).at h.heap (fun hm=>by rw [Option.mem_toList] at hm;exact h.neT _ hm rfl)
 exact ⟨by rw [cell_of_row _ _ _ _ _ _ a1];exact pmC_tail hr 1,frozen_of_row _ _ _ _ _ a1⟩
theorem PMx.below (h:PMx w B gm gmem tv s) {w0 w':World} (hb:Below B w0 w) (hgrow:w.grownBy w' tv.ownBlock) (v:Value):Below B w0 (w'.setCell ⟨gm,17,none⟩ v) :=
 below_set (below_grown hb hgrow (Nat.le_trans h.hB (Nat.le_of_lt h.lt)) (fun k hk=>(h.tr.lt k hk).1)) h.hB
end
set_option maxRecDepth 20000 in
set_option maxHeartbeats 1000000 in
theorem do_set (w:World) (B gm:Nat) (s:MS) (n:Nat) (A x:Nat) (hA:A < 16) (c:Int) (h:PM w B gm s) (hs:s.Ok n) (hn:n≤4096) :
  Calls Tryz.prog 143 #[.pointer (some ⟨gm,0,none⟩),opV ⟨0,(A:Int),(x:Int),c⟩] w fun e w'=>e=.returned (.tuple #[])∧Below B w w'∧PM w' B gm ⟨s.R.set A x,s.M,s.p+1,s.T⟩:=by
 obtain ⟨gmem,tv,hx⟩:=h
 have hgm:=hx.lt
 have cp:=hx.cp hs.lr
 have cA:=hx.cr hs.lr hA
 have fp:=hx.free 18
 have fA:=hx.free A
 have hpI:(s.p:Int)≤4096:=by have:=hs.p;omega
 have hAI:(A:Int) < 16:=by omega
 have HX:=hide hx
 have HS:=hide hs
 have HA:=hide hA
 unfold opV
 clear hx hs hA
 go_enter Tryz.func143,Tryz.ntmps143
 go_wp2_with fail
 go_region
 all_goals
  go_wp2_with fail
  go_end0
  exact ⟨rfl,(below_set (below_set (Below.refl _ _) (unhide HX).hB) (unhide HX).hB).alloc (by have:=(unhide HX).hB;simp;omega) _ |>.drew,gmem,tv,((((unhide HX).setP (unhide HS).lr (s.p+1)).setR (unhide HS).lr (unhide HA) x).alloc _).drew⟩
set_option maxRecDepth 20000 in
set_option maxHeartbeats 1000000 in
theorem do_load (w:World) (B gm:Nat) (s:MS) (n:Nat) (A X:Nat) (hA:A < 16) (hX:X < 16) (c:Int) (ha:s.R.getD X 0 < 4096) (h:PM w B gm s) (hs:s.Ok n) (hn:n≤4096) (hT:s.T.length≤3000000) :
  Calls Tryz.prog 143 #[.pointer (some ⟨gm,0,none⟩),opV ⟨6,(A:Int),(X:Int),c⟩] w fun e w'=>e=.returned (.tuple #[])∧Below B w w'∧PM w' B gm ⟨s.R.set A (s.M.getD (s.R.getD X 0) 0),s.M,s.p+1,s.T++[s.R.getD X 0]⟩:=by
 obtain ⟨gmem,tv,hx⟩:=h
 obtain ⟨ta,tc,rfl⟩:=hx.tr.form
 have hgm:=hx.lt
 have hgmem:=hx.ltm
 have hne1:¬gmem=gm:=hx.neM
 have hne2:¬gm=gmem:=fun e=>hx.neM e.symm
 have cp:=hx.cp hs.lr
 have ct:=hx.ct hs.lr
 have cm:=hx.cm hs.lr
 have cA:=hx.cr hs.lr hA
 have cX:=hx.cr hs.lr hX
 have cM:=hx.cw hs.lm ha
 have fp:=hx.free 18
 have fA:=hx.free A
 have fT:=hx.free 17
 have hpI:(s.p:Int)≤4096:=by have:=hs.p;omega
 have hAI:(A:Int) < 16:=by omega
 have hXI:(X:Int) < 16:=by omega
 have haI:((s.R.getD X 0:Nat):Int) < 4096:=by omega
 have HX:=hide hx
 have HS:=hide hs
 have HA:=hide hA
 have HT:=hide hT
 obtain ⟨i,i0,i1,i2,i3⟩:=info_of infoI
 have HI:=hide (And.intro i0 (And.intro i1 (And.intro i2 i3)))
 generalize s.M.getD (s.R.getD X 0) 0=z at *
 generalize s.R.getD X 0=x at *
 unfold opV
 clear hx hs hA hX ha hT i0 i1 i2 i3
 go_enter Tryz.func143,Tryz.ntmps143
 have HP:=hide (((((unhide HX).setP (unhide HS).lr (s.p+1)).setR (unhide HS).lr (unhide HA) z).alloc (Obj.cells #[.int .i64 6,.int .i64 (A:Int),.int .i64 (X:Int),.int .i64 c] 209)))
 have HP2:=hide (((unhide HP).alloc (Obj.cells #[.int .i64 (x:Int)] 3)).drew.drew)
 have HBL:Hid (Below B w (((((w.setCell ⟨gm,18,none⟩ (.int .i64 ((s.p+1:Nat):Int))).setCell ⟨gm,A,none⟩ (.int .i64 (z:Int))).alloc (Obj.cells #[.int .i64 6,.int .i64 (A:Int),.int .i64 (X:Int),.int .i64 c] 209)).alloc (Obj.cells #[.int .i64 (x:Int)] 3)).drew.drew)):=by
  have hB:=(unhide HX).hB
  exact (((below_set (below_set (Below.refl _ _) hB) hB).alloc (by simp;omega) _).alloc (by simp;omega) _).drew.drew
 have HSZ:Hid (B≤w.heap.size):=by have:=(unhide HX).hB;show _≤_;omega
 have HC:Hid ((((((w.setCell ⟨gm,18,none⟩ (.int .i64 ((s.p+1:Nat):Int))).setCell ⟨gm,A,none⟩ (.int .i64 (z:Int))).alloc (Obj.cells #[.int .i64 6,.int .i64 (A:Int),.int .i64 (X:Int),.int .i64 c] 209)).alloc (Obj.cells #[.int .i64 (x:Int)] 3)).drew.drew).cell? ⟨w.heap.size+1,0,none⟩=some (.int .i64 (x:Int))):=by show _=_;rw [cell_drew,cell_drew];exact new_cell (by simp)
 go_wp2_with fail
 go_region
 go_wp2_with fail
 go_region
 go_wp2_with (at_builtin;refine app1 rfl (.tmp 74) (.tmp 76) rfl B _ _ rfl (unhide HP2).tr (w.heap.size+1) x rfl (unhide HC) (unhide HT) (by have:=unhide HSZ;simp;omega) (w.heap.size+2) (by simp) ?_;intro g5 cap5 w8 ho hgrow hlies hlt5;obtain ⟨c17,f17⟩:=(unhide HP2).grown17 (by simpa using (unhide HS).lr) hgrow;have HN:=hide ((unhide HP2).push (by simpa using (unhide HS).lr) hgrow ho (hlies.elim Or.inl (fun e=>Or.inr (by rw [e];simp))));have HB2:=hide ((unhide HP2).below (unhide HBL) hgrow (.slice (some ⟨g5,0,none⟩) (s.T.length+1) cap5));clear ho hgrow hlies)
 go_end0
 exact ⟨rfl,unhide HB2,gmem,_,unhide HN⟩
set_option maxRecDepth 20000 in
set_option maxHeartbeats 1000000 in
theorem do_store (w:World) (B gm:Nat) (s:MS) (n:Nat) (A X:Nat) (hA:A < 16) (hX:X < 16) (c:Int) (ha:s.R.getD X 0 < 4096) (h:PM w B gm s) (hs:s.Ok n) (hn:n≤4096) (hT:s.T.length≤3000000) :
  Calls Tryz.prog 143 #[.pointer (some ⟨gm,0,none⟩),opV ⟨7,(A:Int),(X:Int),c⟩] w fun e w'=>e=.returned (.tuple #[])∧Below B w w'∧PM w' B gm ⟨s.R,s.M.set (s.R.getD X 0) (s.R.getD A 0),s.p+1,s.T++[10000+s.R.getD X 0]⟩:=by
 obtain ⟨gmem,tv,hx⟩:=h
 obtain ⟨ta,tc,rfl⟩:=hx.tr.form
 have hgm:=hx.lt
 have hgmem:=hx.ltm
 have hne1:¬gmem=gm:=hx.neM
 have hne2:¬gm=gmem:=fun e=>hx.neM e.symm
 have cp:=hx.cp hs.lr
 have ct:=hx.ct hs.lr
 have cm:=hx.cm hs.lr
 have cA:=hx.cr hs.lr hA
 have cX:=hx.cr hs.lr hX
 have cM:=hx.cw hs.lm ha
 have fp:=hx.free 18
 have fT:=hx.free 17
 have fM:=hx.freeM hs.lm (s.R.getD X 0)
 have hpI:(s.p:Int)≤4096:=by have:=hs.p;omega
 have hAI:(A:Int) < 16:=by omega
 have hXI:(X:Int) < 16:=by omega
 have haI:((s.R.getD X 0:Nat):Int) < 4096:=by omega
 have HX:=hide hx
 have HS:=hide hs
 have HT:=hide hT
 have HGM:Hid (B≤gmem):=(hx.mem.lt gmem rfl).1
 generalize s.R.getD X 0=x at *
 generalize s.R.getD A 0=y at *
 unfold opV
 clear hx hs hA hX ha hT
 go_enter Tryz.func143,Tryz.ntmps143
 have HP:=hide (((((unhide HX).setP (unhide HS).lr (s.p+1)).setM (unhide HS).lm x y).alloc (Obj.cells #[.int .i64 7,.int .i64 (A:Int),.int .i64 (X:Int),.int .i64 c] 209)))
 have HP2:=hide (((unhide HP).alloc (Obj.cells #[.int .i64 (10000+(x:Int))] 3)).drew.drew)
 have HBL:Hid (Below B w (((((w.setCell ⟨gm,18,none⟩ (.int .i64 ((s.p+1:Nat):Int))).setCell ⟨gmem,x,none⟩ (.int .i64 (y:Int))).alloc (Obj.cells #[.int .i64 7,.int .i64 (A:Int),.int .i64 (X:Int),.int .i64 c] 209)).alloc (Obj.cells #[.int .i64 (10000+(x:Int))] 3)).drew.drew)):=by
  have hB:=(unhide HX).hB
  exact (((below_set (below_set (Below.refl _ _) hB) (unhide HGM)).alloc (by simp;omega) _).alloc (by simp;omega) _).drew.drew
 have HSZ:Hid (B≤w.heap.size):=by have:=(unhide HX).hB;show _≤_;omega
 have HC:Hid ((((((w.setCell ⟨gm,18,none⟩ (.int .i64 ((s.p+1:Nat):Int))).setCell ⟨gmem,x,none⟩ (.int .i64 (y:Int))).alloc (Obj.cells #[.int .i64 7,.int .i64 (A:Int),.int .i64 (X:Int),.int .i64 c] 209)).alloc (Obj.cells #[.int .i64 (10000+(x:Int))] 3)).drew.drew).cell? ⟨w.heap.size+1,0,none⟩=some (.int .i64 ((10000+x:Nat):Int))):=by show _=_;rw [cell_drew,cell_drew,new_cell (by simp),Int.natCast_add];rfl
 go_wp2_with fail
 go_region
 go_wp2_with fail
 go_region
 go_wp2_with (at_builtin;refine app1 rfl (.tmp 106) (.tmp 109) rfl B _ _ rfl (unhide HP2).tr (w.heap.size+1) (10000+x) rfl (unhide HC) (unhide HT) (by have:=unhide HSZ;simp;omega) (w.heap.size+2) (by simp) ?_;intro g5 cap5 w8 ho hgrow hlies hlt5;obtain ⟨c17,f17⟩:=(unhide HP2).grown17 (by simpa using (unhide HS).lr) hgrow;have HN:=hide ((unhide HP2).push (by simpa using (unhide HS).lr) hgrow ho (hlies.elim Or.inl (fun e=>Or.inr (by rw [e];simp))));have HB2:=hide ((unhide HP2).below (unhide HBL) hgrow (.slice (some ⟨g5,0,none⟩) (s.T.length+1) cap5));clear ho hgrow hlies)
 go_end0
 exact ⟨rfl,unhide HB2,gmem,_,unhide HN⟩
end Mc
end Go.Proofs.YtobfpgoepaeknaaGreat
namespace Go.Proofs.YtobfpgoepaeknaaGreat
namespace Mc
section
variable {P : Program} {md : Region.Mode} {C : World → Prop}
def nopOf (o:Oper):Oper:={ o with op:=.move (.const undef) }
def covB (md:Region.Mode) (l:List Oper):Bool:=(List.range (l.length - 1)).all fun j=>(List.range l.length).any fun c=>decide (j < c) && ((l[c]?).map fun o=>o.after.any fun e=>Region.binds md e && e.on == j).getD false
def backB (l:List Oper):Bool:=(List.range l.length).all fun j=>((l[j]?).map fun o=>o.after.all fun e=>decide (e.on < j)).getD true
structure DownC (md:Region.Mode) (ops:Array Oper) (ls:Array Bool):Prop where
 size:ls.size=ops.size
 down:∀ j o,ops[j]?=some o→ls.getD j false=true→∀ e∈o.after,Region.binds md e=true→ls.getD e.on false=true
theorem getD_tf {ls:Array Bool} {j:Nat} (h:ls.getD j true=false):ls.getD j false=false:=by
 rcases Nat.lt_or_ge j ls.size with hj | hj
 ·simp [hj] at h ⊢;exact h
 ·simp [hj] at h
theorem getD_ft {ls:Array Bool} {j:Nat} (hj:j < ls.size) (h:ls.getD j false=false):ls.getD j true=false:=by
 simp [hj] at h ⊢;exact h
theorem getD_set_self {ls:Array Bool} {i:Nat} (h:i < ls.size) (d:Bool):(ls.setIfInBounds i true).getD i d=true:=by simp [h]
theorem DownC.set {ops:Array Oper} {ls:Array Bool} (h:DownC md ops ls) {i:Nat} (hi:i∈Region.ready md ops ls):DownC md ops (ls.setIfInBounds i true):=by
 obtain ⟨h0,o,ho,hall⟩:=mem_ready.1 hi
 refine ⟨by simpa using h.size,fun j oj hj hl e he hb=>?_⟩
 by_cases hji:j=i
 ·subst hji
  rw [ho] at hj
  cases hj
  exact getD_set_true (hall e he hb)
 ·rw [getD_set_ne false (fun q=>hji q.symm)] at hl
  exact getD_set_true (h.down j oj hj hl e he hb)
variable {front : List Oper} {o : Oper}
theorem back_spec (h:backB (front++[o])=true) {j:Nat} {oj:Oper} (hj:(front++[o]).toArray[j]?=some oj) {e:Edge} (he:e∈oj.after):e.on < j:=by
 unfold backB at h
 have hj':(front++[o])[j]?=some oj:=by simpa using hj
 have hlt:j < (front++[o]).length:=(List.getElem?_eq_some_iff.1 hj').1
 have:=List.all_eq_true.1 h j (List.mem_range.2 hlt)
 rw [hj'] at this
 simp only [Option.map_some,Option.getD_some] at this
 have:=Array.all_eq_true_iff_forall_mem.1 this e he
 simpa using this
theorem cov_spec (h:covB md (front++[o])=true) {j:Nat} (hj:j < front.length):∃ c oc e,j < c∧c≤front.length∧(front++[o]).toArray[c]?=some oc∧e∈oc.after∧Region.binds md e=true∧e.on=j:=by
 unfold covB at h
 have h1:=List.all_eq_true.1 h j (List.mem_range.2 (by simpa using hj))
 obtain ⟨c,hc,h2⟩:=List.any_eq_true.1 h1
 rw [Bool.and_eq_true,decide_eq_true_iff] at h2
 obtain ⟨hlt,h3⟩:=h2
 have hcl:c < (front++[o]).length:=List.mem_range.1 hc
 cases hoc:(front++[o])[c]? with
 | none=>rw [hoc] at h3;cases h3
 | some oc =>
  rw [hoc] at h3
  simp only [Option.map_some,Option.getD_some] at h3
  obtain ⟨q,hq,hb⟩:=Array.any_eq_true.1 h3
  generalize hee:oc.after[q]=e at hb
  have he:e∈oc.after:=by rw [←hee];exact Array.getElem_mem hq
  rw [Bool.and_eq_true,beq_iff_eq] at hb
  exact ⟨c,oc,e,hlt,by simp at hcl;omega,by simpa using hoc,he,hb.1,hb.2⟩
theorem others_up (hcov:covB md (front++[o])=true) {ls:Array Bool} (hd:DownC md (front++[o]).toArray ls) (hn:front.length∈Region.ready md (front++[o]).toArray ls) :
  ∀ d j,j+d=front.length→0 < d→ls.getD j false=true:=by
 intro d
 induction d using Nat.strongRecOn with
 | _ d ih =>
  intro j hj h0
  obtain ⟨c,oc,e,h1,h2,h3,h4,h5,h6⟩:=cov_spec hcov (j:=j) (by omega)
  by_cases hc:c=front.length
  ·subst hc
   obtain ⟨-,o2,ho2,hall⟩:=mem_ready.1 hn
   rw [h3] at ho2
   cases ho2
   rw [←h6];exact hall e h4 h5
  ·have:=ih (front.length - c) (by omega) c (by omega) (by omega)
   rw [←h6];exact hd.down c oc h3 this e h4 h5
theorem none_left (hcov:covB md (front++[o])=true) {ls:Array Bool} (hd:DownC md (front++[o]).toArray ls) (hn:front.length∈Region.ready md (front++[o]).toArray ls) :
  Region.ready md (front++[o]).toArray (ls.setIfInBounds front.length true)=[]:=by
 apply List.eq_nil_iff_forall_not_mem.2
 intro j hj
 obtain ⟨h0,oj,hoj,-⟩:=mem_ready.1 hj
 have hlt:j < front.length+1:=by have:=(Array.getElem?_eq_some_iff.1 hoj).1;simpa using this
 have hsz:ls.size=front.length+1:=by rw [hd.size];simp
 by_cases hjn:j=front.length
 ·subst hjn
  rw [getD_set_self (by omega)] at h0
  cases h0
 ·have:=others_up hcov hd hn (front.length - j) j (by omega) (by omega)
  have:=getD_set_true (i:=front.length) this
  rw [getD_tf h0] at this
  cases this
theorem some_left (hback:backB (front++[o])=true) {ls:Array Bool} (hd:DownC md (front++[o]).toArray ls):∀ j,j < front.length+1→ls.getD j false=false→Region.ready md (front++[o]).toArray ls≠[]:=by
 intro j
 have hsz:ls.size=front.length+1:=by rw [hd.size];simp
 induction j using Nat.strongRecOn with
 | _ j ih =>
  intro hj hf
  have hoj:(front++[o]).toArray[j]?=some ((front++[o])[j]'(by simpa using hj)):=by simp
  by_cases hall:∀ e∈((front++[o])[j]'(by simpa using hj)).after,Region.binds md e=true→ls.getD e.on false=true
  ·intro he
   have:j∈Region.ready md (front++[o]).toArray ls:=mem_ready.2 ⟨getD_ft (by omega) hf,_,hoj,hall⟩
   rw [he] at this
   cases this
  ·simp only [Classical.not_forall] at hall
   obtain ⟨e,he,hb,hno⟩:=hall
   have hlt:=back_spec hback hoj he
   exact ih e.on hlt (by omega) (by simpa using hno)
theorem ready_same:∀ ls,Region.ready md (front++[nopOf o]).toArray ls=Region.ready md (front++[o]).toArray ls:=by
 intro ls
 unfold Region.ready
 have hs:(front++[nopOf o]).toArray.size=(front++[o]).toArray.size:=by simp
 rw [hs]
 congr 1
 funext i
 congr 2
 by_cases hi:i < front.length
 ·simp [List.getElem?_append_left hi]
 ·by_cases hi2:i=front.length
  ·subst hi2;simp [nopOf]
  ·simp [List.getElem?_append_right (show front.length≤i by omega),List.getElem?_eq_none (show [nopOf o].length≤i - front.length by simp;omega),List.getElem?_eq_none (show [o].length≤i - front.length by simp;omega)]
theorem yielded_same (t:Array Value) (j:Nat):yielded (front++[nopOf o]).toArray t j=yielded (front++[o]).toArray t j:=by
 unfold yielded
 by_cases hi:j < front.length
 ·simp [List.getElem?_append_left hi]
 ·by_cases hi2:j=front.length
  ·subst hi2;simp [nopOf]
  ·simp [List.getElem?_append_right (show front.length≤j by omega),List.getElem?_eq_none (show [nopOf o].length≤j - front.length by simp;omega),List.getElem?_eq_none (show [o].length≤j - front.length by simp;omega)]
theorem quiet_last {ops:Array Oper} {Q1 Q2:Act→Prop} (h:∀ a,Q1 a→Q2 a):∀ (l:List Oper) (a:Act),wpQuiet P ops C Q1 l a→wpQuiet P ops C Q2 l a
 | [],a,hq=>h a hq
 | o ::l,a,hq=>by
  unfold wpQuiet at hq ⊢
  split
  ·next hw=>rw [if_pos hw] at hq;exact Oper.quiet_mono (fun a'=>quiet_last h l a') hq
  ·next hw=>rw [if_neg hw] at hq;exact quiet_last h l _ hq
theorem wpAny_last {Q:Exit→Act→World→Prop} (hcov:covB md (front++[o])=true) (hback:backB (front++[o])=true) (hnop:∀ (K:Act→Prop) (a:Act),qOp P (front++[nopOf o]).toArray C front.length K a→K a) :
  ∀ (fuel:Nat) (ls:Array Bool) (a:Act) (w:World),DownC md (front++[o]).toArray ls→ls.getD front.length false=false→C w →
   wpAnyQ P md (front++[nopOf o]).toArray C (fun a'=>∀ w',C w'→wpOp P (front++[o]).toArray Q front.length (fun a2 w2=>Q .normal a2 w2) a' w') fuel ls a→wpAny P md (front++[o]).toArray Q fuel ls a w:=by
 intro fuel
 induction fuel with
 | zero =>
  intro ls a w hd hf _ h
  exact absurd (by rw [←ready_same];exact h.1) (some_left hback hd front.length (by omega) hf)
 | succ fuel ih =>
  intro ls a w hd hf hC h
  refine ⟨fun he=>absurd he (some_left hback hd front.length (by omega) hf),fun i hi=>?_⟩
  have h1:=h.2 i (by rw [ready_same];exact hi)
  by_cases hin:i=front.length
  ·subst hin
   have h2:=hnop _ _ h1
   have hnone:=none_left hcov hd hi
   have h3:∀ w',C w'→wpOp P (front++[o]).toArray Q front.length (fun a2 w2=>Q .normal a2 w2) a w':=by
    cases fuel with
    | zero=>exact h2.2
    | succ f=>exact h2.1 (by rw [ready_same];exact hnone)
   exact wpOp_mono (fun a' w' hq=>wpAny_done hnone hq _) (h3 w hC)
  ·have hsame:(front++[nopOf o]).toArray[i]?=(front++[o]).toArray[i]?:=by
    by_cases hl:i < front.length
    ·simp [List.getElem?_append_left hl]
    ·simp [List.getElem?_append_right (show front.length≤i by omega),List.getElem?_eq_none (show [nopOf o].length≤i - front.length by simp;omega),List.getElem?_eq_none (show [o].length≤i - front.length by simp;omega)]
   have hyl:∀ t:Array Value,yielded (front++[nopOf o]).toArray t=yielded (front++[o]).toArray t:=fun t=>funext (yielded_same t)
   have h2:qOp P (front++[o]).toArray C i (wpAnyQ P md (front++[nopOf o]).toArray C (fun a'=>∀ w',C w'→wpOp P (front++[o]).toArray Q front.length (fun a2 w2=>Q .normal a2 w2) a' w') fuel (ls.setIfInBounds i true)) a:=by
    unfold qOp at h1 ⊢
    rw [hsame] at h1
    simp only [hyl] at h1
    exact h1
   refine wpOp_of_qOp hC (fun a' w' hC' hk=>ih (ls.setIfInBounds i true) a' w' (hd.set hi) ?_ hC' hk) h2
   rw [getD_set_ne false hin];exact hf
theorem wp_region_last {id:Nat} {Q:Exit→Act→World→Prop} {a:Act} {w:World} {l:List Oper} (hl:l=l.dropLast++[o]) (hm:P.follows .mixedOrders=true) (hdst:o.dst=none) (hgd:o.guard=none)
  (hB:Region.lexB .any (l.dropLast++[nopOf o]).toArray=true) (hcov:covB .any (l.dropLast++[o])=true) (hback:backB (l.dropLast++[o])=true)
  (h:wpQuiet P (l.dropLast++[nopOf o]).toArray (fun w'=>∃ n,w'=w.drewN n) (fun a'=>∀ w',(∃ n,w'=w.drewN n)→o.wp P a' w' (fun a2 w2=>Q .normal a2 w2) Q) (l.dropLast++[nopOf o]) a):(Code.region id l.toArray true).wp P Q a w:=by
 rw [hl]
 generalize l.dropLast=front at *
 have hsz:(front++[o]).toArray.size=front.length+1:=by simp
 refine wp_region_any hm ?_
 refine wpAny_last (C:=fun w'=>∃ n,w'=w.drewN n) hcov hback ?_ _ _ _ _ ⟨by simp,fun j oj hj hls=>?_⟩ ?_ ⟨1,rfl⟩ ?_
 ·intro K a hq
  unfold qOp at hq
  have:(front++[nopOf o]).toArray[front.length]?=some (nopOf o):=by simp
  rw [this] at hq
  simp only at hq
  have hw:Region.wanted (nopOf o) (yielded (front++[nopOf o]).toArray a.tmps)=true:=by
   unfold Region.wanted nopOf;rw [hgd]
  rw [if_pos hw] at hq
  obtain ⟨v,-,hk⟩:=hq
  have hd2:(nopOf o).dst=none:=hdst
  rw [hd2] at hk
  exact hk
 ·exfalso
  have hlt:j < (front++[o]).toArray.size:=(Array.getElem?_eq_some_iff.1 hj).1
  simp [Array.getElem?_replicate] at hls
  rw [if_pos (by simpa using hlt)] at hls
  cases hls
 ·simp
 ·simp only [Region.lexB,Bool.and_eq_true] at hB
  have h2:wpQuiet P (front++[nopOf o]).toArray (fun w'=>∃ n,w'=w.drewN n) (fun a'=>∀ w',(∃ n,w'=w.drewN n)→wpOp P (front++[o]).toArray Q front.length (fun a2 w2=>Q .normal a2 w2) a' w') (front++[nopOf o]) a:=by
   have e:(fun a'=>∀ w',(∃ n,w'=w.drewN n)→wpOp P (front++[o]).toArray Q front.length (fun a2 w2=>Q .normal a2 w2) a' w')=(fun a'=>∀ w',(∃ n,w'=w.drewN n)→(o.wp P a' w' (fun a2 w2=>Q .normal a2 w2) Q∨(o.asks P a' w'∧LetsOut Q))):=by
    funext a'
    apply propext
    refine forall_congr' fun w'=>imp_congr_right fun _=>?_
    unfold wpOp
    have:(front++[o]).toArray[front.length]?=some o:=by simp
    rw [this]
    simp only
    have hw:Region.wanted o (yielded (front++[o]).toArray a'.tmps)=true:=by
     unfold Region.wanted;rw [hgd]
    rw [if_pos hw]
   rw [e]
   exact quiet_last (fun a' hq w' hw'=>.inl (hq w' hw')) _ _ h
  have:=wpAnyQ_lex (C:=fun w'=>∃ n,w'=w.drewN n) (md:=.any) hB.1 (front++[nopOf o]) 0 (Array.replicate (front++[nopOf o]).toArray.size false) a (by simp) (by simpa using hB.2) h2
  simpa using this
end
end Mc
end Go.Proofs.YtobfpgoepaeknaaGreat
namespace Go.Proofs.YtobfpgoepaeknaaGreat
namespace Mc
open Go.RowKit
attribute [local go_sem ↓] Go.wp_at_zero Go.wp_at_succ
theorem below_drewN {B:Nat} {w w1:World} (h:Below B w w1) (n:Nat):Below B w (w1.drewN n):=⟨h.os,h.tape,h.output,h.size,h.block⟩
theorem PMx.drewN {w:World} {B gm gmem:Nat} {tv:Value} {s:MS} (h:PMx w B gm gmem tv s) (n:Nat):PMx (w.drewN n) B gm gmem tv s:=⟨h.hB,h.heap,h.mem,h.tr,h.ne⟩
set_option maxRecDepth 20000 in
set_option maxHeartbeats 1000000 in
theorem do_join (w:World) (B gm:Nat) (s:MS) (n:Nat) (k:Int) (hk:1≤k∧k≤5) (A X Y:Nat) (hA:A < 16) (hX:X < 16) (hY:Y < 16) (h:PM w B gm s) (hs:s.Ok n) (hn:n≤4096) :
  Calls Tryz.prog 143 #[.pointer (some ⟨gm,0,none⟩),opV ⟨k,(A:Int),(X:Int),(Y:Int)⟩] w fun e w'=>e=.returned (.tuple #[])∧Below B w w'∧PM w' B gm ⟨s.R.set A (joinN k (s.R.getD X 0) (s.R.getD Y 0)),s.M,s.p+1,s.T⟩:=by
 obtain ⟨gmem,tv,hx⟩:=h
 have hgm:=hx.lt
 have cp:=hx.cp hs.lr
 have cA:=hx.cr hs.lr hA
 have cX:=hx.cr hs.lr hX
 have cY:=hx.cr hs.lr hY
 have fp:=hx.free 18
 have fA:=hx.free A
 have hpI:(s.p:Int)≤4096:=by have:=hs.p;omega
 have hAI:(A:Int) < 16:=by omega
 have hXI:(X:Int) < 16:=by omega
 have hYI:(Y:Int) < 16:=by omega
 have h0:¬k=0:=by omega
 have h6:¬k=6:=by omega
 have h7:¬k=7:=by omega
 have h8:¬k=8:=by omega
 have HJ:=hide (fun w=>joined_any k hk _ _ (hs.r X) (hs.r Y) w)
 have HX:=hide hx
 have HS:=hide hs
 have HA:=hide hA
 have HCX:Hid (∀ W,PMx W B gm gmem tv ⟨s.R,s.M,s.p+1,s.T⟩→W.cell? ⟨gm,X,none⟩=some (.int .i64 ((s.R.getD X 0:Nat):Int))):=fun W h=>h.cr hs.lr hX
 have HCY:Hid (∀ W,PMx W B gm gmem tv ⟨s.R,s.M,s.p+1,s.T⟩→W.cell? ⟨gm,Y,none⟩=some (.int .i64 ((s.R.getD Y 0:Nat):Int))):=fun W h=>h.cr hs.lr hY
 have HCA:Hid (∀ W,PMx W B gm gmem tv ⟨s.R,s.M,s.p+1,s.T⟩→W.cell? ⟨gm,A,none⟩=some (.int .i64 ((s.R.getD A 0:Nat):Int))):=fun W h=>h.cr hs.lr hA
 generalize joinN k (s.R.getD X 0) (s.R.getD Y 0)=z at *
 generalize s.R.getD X 0=x at *
 generalize s.R.getD Y 0=y at *
 unfold opV
 clear hx hs hA hX hY hk
 go_enter Tryz.func143,Tryz.ntmps143
 go_wp2_with fail
 obtain ⟨W,hW⟩:∃ W,W=((w.setCell ⟨gm,18,none⟩ (.int .i64 ((s.p:Int)+1))).alloc (Obj.cells #[.int .i64 k,.int .i64 (A:Int),.int .i64 (X:Int),.int .i64 (Y:Int)] 209)):=⟨_,rfl⟩
 have hPW:PMx W B gm gmem tv ⟨s.R,s.M,s.p+1,s.T⟩:=by rw [hW];exact ((unhide HX).setP (unhide HS).lr (s.p+1)).alloc _
 have hBW:Below B w W:=by
  have hB:=(unhide HX).hB
  rw [hW];exact (below_set (Below.refl _ _) hB).alloc (by simp;omega) _
 have hbox:W.heap[w.heap.size]?=some (.cells #[.int .i64 k,.int .i64 (A:Int),.int .i64 (X:Int),.int .i64 (Y:Int)] 209 (0,0)):=by
  rw [hW]
  have:=heap_alloc_new (w.setCell ⟨gm,18,none⟩ (.int .i64 ((s.p:Int)+1))) (Obj.cells #[.int .i64 k,.int .i64 (A:Int),.int .i64 (X:Int),.int .i64 (Y:Int)] 209)
  simpa using this
 rw [←hW]
 have HPW:=hide hPW
 have HBW:=hide hBW
 have b0:W.cell? ⟨w.heap.size,0,none⟩=some (.int .i64 k):=by rw [cell_of_row _ _ _ _ _ _ hbox];rfl
 have b1:W.cell? ⟨w.heap.size,1,none⟩=some (.int .i64 (A:Int)):=by rw [cell_of_row _ _ _ _ _ _ hbox];rfl
 have b2:W.cell? ⟨w.heap.size,2,none⟩=some (.int .i64 (X:Int)):=by rw [cell_of_row _ _ _ _ _ _ hbox];rfl
 have b3:W.cell? ⟨w.heap.size,3,none⟩=some (.int .i64 (Y:Int)):=by rw [cell_of_row _ _ _ _ _ _ hbox];rfl
 have d1:=unhide HCX W hPW
 have d2:=unhide HCY W hPW
 have d3:=unhide HCA W hPW
 have d4:=hPW.free A
 clear hW hPW hBW hbox cp cA cX cY fp fA
 generalize w.heap.size=N at *
 refine wp_region_last rfl (by kernel_rfl) rfl rfl (by kernel_rfl) (by kernel_rfl) (by kernel_rfl) ?_
 simp only [List.dropLast,List.cons_append,List.nil_append,nopOf]
 repeat (quiet_step ((go_at_call 156;exact Calls.quiet_of_same (unhide HJ _))))
 refine wpQuiet_nil ?_
 rintro w' ⟨nq,rfl⟩
 go_simp
 go_end0
 exact ⟨rfl,below_set (below_drewN (unhide HBW) nq) (unhide HPW).hB,gmem,tv,((unhide HPW).drewN nq).setR (unhide HS).lr (unhide HA) z⟩
end Mc
end Go.Proofs.YtobfpgoepaeknaaGreat
