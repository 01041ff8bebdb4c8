/-
  machine.machine.jump, hasAddress; do at a jump.
  machine.machine.do and hasAddress at whatever operation.
  machine.machine.run: the program's machine runs code.
  machine.Run, veil.Run: what the program answers.
-/
import Derived.Test.YtobfpgoepaeknaaGreatM01
namespace Go.Proofs.YtobfpgoepaeknaaGreat
namespace Mc
open Go.RowKit
attribute [local go_sem ↓] Go.wp_at_zero Go.wp_at_succ
set_option maxRecDepth 20000 in
set_option maxHeartbeats 1000000 in
theorem jump_no (w:World) (B gm:Nat) (s:MS) (n:Nat) (A:Nat) (b c:Int) (hA:A < 16) (h:PM w B gm s) (hs:s.Ok n) (hT:s.T.length≤3000000) (h0:s.R.getD A 0=0) :
  Calls Tryz.prog 155 #[.pointer (some ⟨gm,0,none⟩),opV ⟨8,(A:Int),b,c⟩] w fun e w'=>e=.returned (.tuple #[])∧Below B w w'∧PM w' B gm ⟨s.R,s.M,s.p,s.T++[20000]⟩:=by
 obtain ⟨gmem,tv,hx⟩:=h
 obtain ⟨ta,tc,rfl⟩:=hx.tr.form
 have hgm:=hx.lt
 have ct:=hx.ct hs.lr
 have cA:=hx.cr hs.lr hA
 rw [h0] at cA
 have fT:=hx.free 17
 have hAI:(A:Int) < 16:=by omega
 have HX:=hide hx
 have HS:=hide hs
 have HT:=hide hT
 unfold opV
 clear hx hs hA hT h0
 have HP:=hide ((unhide HX).alloc (Obj.cells #[.int .i64 8,.int .i64 (A:Int),.int .i64 b,.int .i64 c] 209))
 have HP2:=hide (((unhide HP).alloc (Obj.cells #[.int .i64 20000] 3)).drew)
 have HBL:Hid (Below B w (((w.alloc (Obj.cells #[.int .i64 8,.int .i64 (A:Int),.int .i64 b,.int .i64 c] 209)).alloc (Obj.cells #[.int .i64 20000] 3)).drew)):=by
  have hB:=(unhide HX).hB
  exact (((Below.refl _ _).alloc (by omega) _).alloc (by simp;omega) _).drew
 have HSZ:Hid (B≤w.heap.size):=by have:=(unhide HX).hB;show _≤_;omega
 have HC:Hid (((((w.alloc (Obj.cells #[.int .i64 8,.int .i64 (A:Int),.int .i64 b,.int .i64 c] 209)).alloc (Obj.cells #[.int .i64 20000] 3)).drew)).cell? ⟨w.heap.size+1,0,none⟩=some (.int .i64 ((20000:Nat):Int))):=by show _=_;rw [cell_drew,new_cell (by simp)];rfl
 go_enter Tryz.func155,Tryz.ntmps155
 go_wp2_with fail
 go_region
 go_wp2_with (at_builtin;refine app1 rfl (.tmp 22) (.tmp 25) rfl B _ _ rfl (unhide HP2).tr (w.heap.size+1) 20000 rfl (unhide HC) (unhide HT) (by have:=unhide HSZ;simp;omega) (w.heap.size+2) (by simp) ?_;intro g5 cap5 w8 ho hgrow hlies hlt5;obtain ⟨c17,f17⟩:=(unhide HP2).grown17 (unhide HS).lr hgrow;have HN:=hide ((unhide HP2).push (unhide HS).lr hgrow ho (hlies.elim Or.inl (fun e=>Or.inr (by rw [e];simp))));have HB2:=hide ((unhide HP2).below (unhide HBL) hgrow (.slice (some ⟨g5,0,none⟩) (s.T.length+1) cap5));clear ho hgrow hlies)
 go_end0
 exact ⟨rfl,unhide HB2,gmem,_,unhide HN⟩
set_option maxRecDepth 20000 in
set_option maxHeartbeats 1000000 in
theorem jump_yes (w:World) (B gm:Nat) (s:MS) (n:Nat) (A q:Nat) (c:Int) (hA:A < 16) (h:PM w B gm s) (hs:s.Ok n) (hT:s.T.length≤3000000) (h0:s.R.getD A 0≠0) :
  Calls Tryz.prog 155 #[.pointer (some ⟨gm,0,none⟩),opV ⟨8,(A:Int),(q:Int),c⟩] w fun e w'=>e=.returned (.tuple #[])∧Below B w w'∧PM w' B gm ⟨s.R,s.M,q,s.T++[20001]⟩:=by
 obtain ⟨gmem,tv,hx⟩:=h
 obtain ⟨ta,tc,rfl⟩:=hx.tr.form
 have hgm:=hx.lt
 have ct:=hx.ct hs.lr
 have cp:=hx.cp hs.lr
 have cA:=hx.cr hs.lr hA
 have h0I:¬((s.R.getD A 0:Nat):Int)=0:=by omega
 have fT:=hx.free 17
 have fp:=hx.free 18
 have hAI:(A:Int) < 16:=by omega
 have HX:=hide hx
 have HS:=hide hs
 have HT:=hide hT
 unfold opV
 clear hx hs hA hT h0
 generalize s.R.getD A 0=r at *
 have HP:=hide (((unhide HX).setP (unhide HS).lr q).alloc (Obj.cells #[.int .i64 8,.int .i64 (A:Int),.int .i64 (q:Int),.int .i64 c] 209))
 have HP2:=hide (((unhide HP).alloc (Obj.cells #[.int .i64 20001] 3)).drew)
 have HBL:Hid (Below B w ((((w.setCell ⟨gm,18,none⟩ (.int .i64 (q:Int))).alloc (Obj.cells #[.int .i64 8,.int .i64 (A:Int),.int .i64 (q:Int),.int .i64 c] 209)).alloc (Obj.cells #[.int .i64 20001] 3)).drew)):=by
  have hB:=(unhide HX).hB
  exact ((((below_set (Below.refl _ _) hB).alloc (by simp;omega) _).alloc (by simp;omega) _)).drew
 have HSZ:Hid (B≤w.heap.size):=by have:=(unhide HX).hB;show _≤_;omega
 have HC:Hid ((((((w.setCell ⟨gm,18,none⟩ (.int .i64 (q:Int))).alloc (Obj.cells #[.int .i64 8,.int .i64 (A:Int),.int .i64 (q:Int),.int .i64 c] 209)).alloc (Obj.cells #[.int .i64 20001] 3)).drew)).cell? ⟨w.heap.size+1,0,none⟩=some (.int .i64 ((20001:Nat):Int))):=by show _=_;rw [cell_drew,new_cell (by simp)];rfl
 go_enter Tryz.func155,Tryz.ntmps155
 go_wp2_with fail
 go_region
 go_wp2_with (at_builtin;refine app1 rfl (.tmp 22) (.tmp 25) rfl B _ _ rfl (unhide HP2).tr (w.heap.size+1) 20001 rfl (unhide HC) (unhide HT) (by have:=unhide HSZ;simp;omega) (w.heap.size+2) (by simp) ?_;intro g5 cap5 w8 ho hgrow hlies hlt5;obtain ⟨c17,f17⟩:=(unhide HP2).grown17 (by simpa using (unhide HS).lr) hgrow;have HN:=hide ((unhide HP2).push (by simpa using (unhide HS).lr) hgrow ho (hlies.elim Or.inl (fun e=>Or.inr (by rw [e];simp))));have HB2:=hide ((unhide HP2).below (unhide HBL) hgrow (.slice (some ⟨g5,0,none⟩) (s.T.length+1) cap5));clear ho hgrow hlies)
 go_end0
 exact ⟨rfl,unhide HB2,gmem,_,unhide HN⟩
set_option maxRecDepth 20000 in
set_option maxHeartbeats 1000000 in
theorem do_jump (w:World) (B gm:Nat) (s s2:MS) (n:Nat) (A:Nat) (b c:Int) (h:PM w B gm s) (hs:s.Ok n) (hn:n≤4096)
  (hj:∀ W,PM W B gm ⟨s.R,s.M,s.p+1,s.T⟩→Calls Tryz.prog 155 #[.pointer (some ⟨gm,0,none⟩),opV ⟨8,(A:Int),b,c⟩] W fun e w'=>e=.returned (.tuple #[])∧Below B W w'∧PM w' B gm s2) :
  Calls Tryz.prog 143 #[.pointer (some ⟨gm,0,none⟩),opV ⟨8,(A:Int),b,c⟩] w fun e w'=>e=.returned (.tuple #[])∧Below B w w'∧PM w' B gm s2:=by
 obtain ⟨gmem,tv,hx⟩:=h
 have hgm:=hx.lt
 have cp:=hx.cp hs.lr
 have fp:=hx.free 18
 have hpI:(s.p:Int)≤4096:=by have:=hs.p;omega
 have HX:=hide hx
 have HS:=hide hs
 have HJ:=hide (hj _ ⟨gmem,tv,(hx.setP hs.lr (s.p+1)).alloc (Obj.cells #[.int .i64 8,.int .i64 (A:Int),.int .i64 b,.int .i64 c] 209)⟩)
 unfold opV at HJ
 unfold opV
 clear hx hs hj
 go_enter Tryz.func143,Tryz.ntmps143
 go_wp2_with fail
 refine (unhide HJ).mono ?_
 rintro e w1 ⟨rfl,hb1,hp1⟩
 have HB1:=hide hb1
 have HP1:=hide hp1
 clear hb1 hp1
 go_wp2_with fail
 go_end0
 refine ⟨rfl,Below.trans ?_ (unhide HB1),unhide HP1⟩
 have hB:=(unhide HX).hB
 exact (below_set (Below.refl _ _) hB).alloc (by simp;omega) _
set_option maxRecDepth 20000 in
set_option maxHeartbeats 1000000 in
theorem has_other (w:World) (gm:Nat) (o:OpI) (h6:¬o.k=6) (h7:¬o.k=7) :
  Calls Tryz.prog 142 #[.pointer (some ⟨gm,0,none⟩),opV o] w fun e w'=>e=.returned (.bool true)∧Below w.heap.size w w':=by
 obtain ⟨k,a,b,c⟩:=o
 unfold opV
 simp only at h6 h7
 have hb6:(k != 6)=true:=by simpa using h6
 have hb7:(k != 7)=true:=by simpa using h7
 clear h6 h7
 go_enter Tryz.func142,Tryz.ntmps142
 go_wp2_with fail
 go_ret
 exact ⟨rfl,(Below.refl _ _).alloc (Nat.le_refl _) _⟩
set_option maxRecDepth 20000 in
set_option maxHeartbeats 1000000 in
theorem has_mem (w:World) (B gm:Nat) (s:MS) (n:Nat) (k a c:Int) (hk:k=6∨k=7) (X:Nat) (hX:X < 16) (h:PM w B gm s) (hs:s.Ok n) :
  Calls Tryz.prog 142 #[.pointer (some ⟨gm,0,none⟩),opV ⟨k,a,(X:Int),c⟩] w fun e w'=>e=.returned (.bool (decide (s.R.getD X 0 < 4096)))∧Below w.heap.size w w':=by
 obtain ⟨gmem,tv,hx⟩:=h
 have hgm:=hx.lt
 have cm:=hx.cm hs.lr
 have cX:=hx.cr hs.lr hX
 have hXI:(X:Int) < 16:=by omega
 unfold opV
 clear hx hs hX
 generalize s.R.getD X 0=x at *
 rcases hk with rfl | rfl
 all_goals
  go_enter Tryz.func142,Tryz.ntmps142
  go_wp2_with fail
  go_region
  go_wp2_with fail
  go_ret
  exact ⟨ret_bool (by rw [decide_eq_decide];omega),((Below.refl _ _).alloc (Nat.le_refl _) _).drew⟩
end Mc
end Go.Proofs.YtobfpgoepaeknaaGreat
namespace Go.Proofs.YtobfpgoepaeknaaGreat
namespace Mc
open Go.RowKit
theorem andT {a b:Bool} (h:(a && b)=true):a=true∧b=true:=by cases a<;>cases b<;>simp_all
theorem wordA {x:Int} (h:wordOk x=true):∃ A:Nat,x=(A:Int)∧A≤65535:=by
 simp [wordOk] at h
 exact ⟨x.toNat,by omega,by omega⟩
theorem op_kind {o:OpI} {n:Int} (h:opOk o n=true):o.k=0∨(1≤o.k∧o.k≤5)∨o.k=6∨o.k=7∨o.k=8:=by
 by_cases h9:o.k < 0∨8 < o.k
 ·rw [opOk9 h9] at h;cases h
 ·omega
theorem do_any (w:World) (B gm:Nat) (s s':MS) (n:Nat) (o:OpI) (h:PM w B gm s) (hs:s.Ok n) (hn:n≤4096) (hT:s.T.length≤3000000) (ho:opOk o n=true) (hst:stepN o s=some s') :
  Calls Tryz.prog 143 #[.pointer (some ⟨gm,0,none⟩),opV o] w fun e w'=>e=.returned (.tuple #[])∧Below B w w'∧PM w' B gm s':=by
 rcases op_kind ho with hk | hk | hk | hk | hk
 ·rw [opOk0 hk] at ho
  obtain ⟨ha,hb⟩:=andT ho
  obtain ⟨k,a,b,c⟩:=o
  simp only at hk ha hb
  subst hk
  obtain ⟨A,rfl,hA⟩:=regA ha
  obtain ⟨x,rfl,hx⟩:=wordA hb
  simp [stepN] at hst
  subst hst
  exact do_set w B gm s n A x hA c h hs hn
 ·rw [opOk1 hk] at ho
  obtain ⟨hab,hc⟩:=andT ho
  obtain ⟨ha,hb⟩:=andT hab
  obtain ⟨k,a,b,c⟩:=o
  simp only at hk ha hb hc
  obtain ⟨A,rfl,hA⟩:=regA ha
  obtain ⟨X,rfl,hX⟩:=regA hb
  obtain ⟨Y,rfl,hY⟩:=regA hc
  rw [stepN,if_neg (by simp only;omega),if_neg (by simp only;omega),if_neg (by simp only;omega),if_neg (by simp only;omega)] at hst
  simp [MS.r] at hst
  subst hst
  have:=do_join w B gm s n k hk A X Y hA hX hY h hs hn
  simpa [List.getD_eq_getElem?_getD] using this
 ·rw [opOk6 (.inl hk)] at ho
  obtain ⟨ha,hb⟩:=andT ho
  obtain ⟨k,a,b,c⟩:=o
  simp only at hk ha hb
  subst hk
  obtain ⟨A,rfl,hA⟩:=regA ha
  obtain ⟨X,rfl,hX⟩:=regA hb
  rw [stepN,if_neg (by simp),if_pos rfl] at hst
  split at hst
  ·next hx =>
   simp only [Option.some.injEq] at hst
   subst hst
   exact do_load w B gm s n A X hA hX c hx h hs hn hT
  ·cases hst
 ·rw [opOk6 (.inr hk)] at ho
  obtain ⟨ha,hb⟩:=andT ho
  obtain ⟨k,a,b,c⟩:=o
  simp only at hk ha hb
  subst hk
  obtain ⟨A,rfl,hA⟩:=regA ha
  obtain ⟨X,rfl,hX⟩:=regA hb
  rw [stepN,if_neg (by simp),if_neg (by simp),if_pos rfl] at hst
  split at hst
  ·next hx =>
   simp only [Option.some.injEq] at hst
   subst hst
   exact do_store w B gm s n A X hA hX c hx h hs hn hT
  ·cases hst
 ·rw [opOk8 hk] at ho
  obtain ⟨ha,hb⟩:=andT ho
  obtain ⟨k,a,b,c⟩:=o
  simp only at hk ha hb
  subst hk
  obtain ⟨A,rfl,hA⟩:=regA ha
  obtain ⟨q,rfl⟩:∃ q:Nat,b=(q:Int):=⟨b.toNat,by simp at hb;omega⟩
  have hs1:MS.Ok ⟨s.R,s.M,s.p+1,s.T⟩ (n+1):=⟨hs.lr,hs.lm,hs.r,hs.m,Nat.succ_le_succ hs.p⟩
  rw [stepN,if_neg (by simp),if_neg (by simp),if_neg (by simp),if_pos rfl] at hst
  split at hst
  ·next hx =>
   simp only [Option.some.injEq] at hst
   subst hst
   exact do_jump w B gm s _ n A _ c h hs hn (fun W hW=>jump_no W B gm ⟨s.R,s.M,s.p+1,s.T⟩ (n+1) A _ c hA hW hs1 hT hx)
  ·next hx =>
   simp only [Option.some.injEq] at hst
   subst hst
   exact do_jump w B gm s _ n A _ c h hs hn (fun W hW=>jump_yes W B gm ⟨s.R,s.M,s.p+1,s.T⟩ (n+1) A q c hA hW hs1 hT hx)
theorem has_any (w:World) (B gm:Nat) (s:MS) (n:Nat) (o:OpI) (h:PM w B gm s) (hs:s.Ok n) (ho:opOk o n=true) :
  Calls Tryz.prog 142 #[.pointer (some ⟨gm,0,none⟩),opV o] w fun e w'=>e=.returned (.bool (stepN o s).isSome)∧Below w.heap.size w w':=by
 by_cases hk:o.k=6∨o.k=7
 ·rw [opOk6 hk] at ho
  obtain ⟨ha,hb⟩:=andT ho
  obtain ⟨k,a,b,c⟩:=o
  simp only at hk ha hb
  obtain ⟨X,rfl,hX⟩:=regA hb
  have e:(stepN ⟨k,a,(X:Int),c⟩ s).isSome=decide (s.R.getD X 0 < 4096):=by
   rcases hk with rfl | rfl
   ·rw [stepN,if_neg (by simp),if_pos rfl]
    show Option.isSome (if s.R.getD X 0 < 4096 then _ else _)=_
    split<;>simp_all
   ·rw [stepN,if_neg (by simp),if_neg (by simp),if_pos rfl]
    show Option.isSome (if s.R.getD X 0 < 4096 then _ else _)=_
    split<;>simp_all
  rw [e]
  exact has_mem w B gm s n k a c hk X hX h hs
 ·have e:(stepN o s).isSome=true:=by
   unfold stepN
   split
   ·rfl
   ·rw [if_neg (fun e=>hk (.inl e)),if_neg (fun e=>hk (.inr e))]
    split
    ·split<;>rfl
    ·rfl
  rw [e]
  exact has_other w gm o (fun e=>hk (.inl e)) (fun e=>hk (.inr e))
end Mc
end Go.Proofs.YtobfpgoepaeknaaGreat
namespace Go.Proofs.YtobfpgoepaeknaaGreat
namespace Mc
open Go.RowKit
attribute [local go_sem ↓] Go.wp_at_zero Go.wp_at_succ
def RunPost (B gm n:Nat) (w:World) (r:RunEnd) (e:Ending) (w':World):Prop :=
 Below B w w'∧match r with
  | .ok s'=>e=.returned (.int .i64 0)∧PM w' B gm s'∧s'.Ok n∧s'.T.length≤2097152
  | .error k=>(k=11∨k=10)∧e=.returned (.int .i64 k)
set_option maxRecDepth 20000 in
set_option maxHeartbeats 1000000 in
theorem run_any (w:World) (B gm:Nat) (cv:Value) (os:List OpI) (k:Nat) (s:MS) (hcB:∀ W,Below B w W→OAt W cv os) (hco:codeOk os) (h:PM w B gm s) (hs:s.Ok os.length) (hk:k≤2097152) (hT0:s.T=[]) :
  Calls Tryz.prog 102 #[.pointer (some ⟨gm,0,none⟩),cv,.int .i64 (k:Int)] w (RunPost B gm os.length w (runN os k s)):=by
 obtain ⟨a,cap,rfl,-⟩:=hcB w (Below.refl _ _)
 have hnI:(os.length:Int)≤4096:=by have:=hco.1;omega
 have hkI:(k:Int)≤2097152:=by omega
 have HCB:=hide hcB
 have HCO:=hide hco
 have HK:=hide hk
 have H0:Hid (0≤k∧Below B w w∧PM w B gm s∧s.Ok os.length∧s.T.length≤0∧runN os (k - 0) s=runN os k s):=⟨Nat.zero_le _,Below.refl _ _,h,hs,by rw [hT0];exact Nat.le_refl _,rfl⟩
 generalize hR:runN os k s=R at *
 have HR:=hide hR
 clear hcB hco h hs hk hT0 hR
 go_enter Tryz.func102,Tryz.ntmps102
 go_wp2_with fail
 go_loopw [7] (fun ix wr=>∃ d:Nat,ix=.int .i64 (d:Int)∧Hid (∃ s1,d≤k∧Below B w wr∧PM wr B gm s1∧s1.Ok os.length∧s1.T.length≤d∧runN os (k - d) s1=R)) (fun ix _=>k - (intOf ix).toNat)
 case atStart=>exact ⟨0,rfl,s,by simpa [unhide HR] using unhide H0⟩
 case round =>
  rename World=>wr
  obtain ⟨d,rfl,HH⟩:=hrel
  obtain ⟨s1,hd,hBw,hPM,hOk,hTl,hrun⟩:=unhide HH
  obtain ⟨gmem,tv,hx⟩:=hPM
  have cp:=hx.cp hOk.lr
  have hdI:(d:Int)≤(k:Int):=by omega
  have HX:=hide hx
  have HBW:=hide hBw
  have HOK:=hide hOk
  have HTL:=hide hTl
  have HRUN:=hide hrun
  by_cases hp:s1.p < os.length
  ·have hpI:(s1.p:Int) < (os.length:Int):=by omega
   by_cases hdk:d < k
   ·have hdkI:(d:Int) < (k:Int):=by omega
    obtain ⟨a2,cap2,he,hcs⟩:=unhide HCB wr hBw
    simp only [Value.slice.injEq,true_and] at he
    obtain ⟨rfl,rfl⟩:=he
    obtain ⟨b,off,rfl,hcs2⟩:=hcs (by omega)
    obtain ⟨c0,c1,c2,c3⟩:=hcs2 s1.p hp
    have hop:=(unhide HCO).2 s1.p hp
    have HP:=hide hp
    have HDK:=hide hdk
    clear HH hd hBw hOk hTl hrun hp hdk hcs hcs2 hx
    generalize hoo:os.getD s1.p op0=o at *
    have HOO:=hide hoo
    have HOP:=hide hop
    clear hoo hop
    have hx1:=hide ((unhide HX).alloc (Obj.cells #[.int .i64 o.k,.int .i64 o.a,.int .i64 o.b,.int .i64 o.c] 209))
    have HHA:=hide (has_any _ B gm s1 os.length o ⟨gmem,tv,unhide hx1⟩ (unhide HOK) (unhide HOP))
    have HB1:Hid (Below B w (wr.alloc (Obj.cells #[.int .i64 o.k,.int .i64 o.a,.int .i64 o.b,.int .i64 o.c] 209))):=(unhide HBW).alloc (by have:=(unhide HX).hB;have:=(unhide HX).lt;omega) _
    have HBX:Hid ((wr.alloc (Obj.cells #[.int .i64 o.k,.int .i64 o.a,.int .i64 o.b,.int .i64 o.c] 209)).heap[wr.heap.size]?=some (Obj.cells #[.int .i64 o.k,.int .i64 o.a,.int .i64 o.b,.int .i64 o.c] 209)):=heap_alloc_new _ _
    have HDO:=hide (fun w1 s' (h1:PM w1 B gm s1) (h2:stepN o s1=some s')=>do_any w1 B gm s1 s' os.length o h1 (unhide HOK) (unhide HCO).1 (by have:=unhide HTL;have:=unhide HK;have:=unhide HDK;omega) (unhide HOP) h2)
    have HSN:Hid (∀ s',stepN o s1=some s'→s'.Ok os.length∧s'.T.length≤d+1∧runN os (k - (d+1)) s'=R):=fun s' h2=>by
     refine ⟨stepN_ok (unhide HOK) (unhide HP) (unhide HOP) h2,Nat.le_trans (stepN_T h2) (Nat.succ_le_succ (unhide HTL)),?_⟩
     rw [←unhide HRUN,show k - d=(k - (d+1))+1 by have:=unhide HDK;omega]
     exact (runN_step (unhide HP) (by rw [unhide HOO];exact h2)).symm
    have HNO:Hid (stepN o s1=none→R=.error 10):=fun h2=>by
     rw [←unhide HRUN,show k - d=(k - (d+1))+1 by have:=unhide HDK;omega]
     exact runN_addr (unhide HP) (by rw [unhide HOO];exact h2)
    unfold opV at HHA HDO
    cases hst:stepN o s1 with
    | none =>
     rw [hst] at HHA
     have HR2:=hide (unhide HNO hst)
     clear hst
     go_wp2_with fail
     refine (unhide HHA).mono ?_
     rintro e w1 ⟨rfl,hb1⟩
     have HB2:Hid (Below B w w1):=(unhide HB1).trans (hb1.mono (by have:=(unhide HX).hB;have:=(unhide HX).lt;simp;omega))
     clear hb1
     simp only [Option.isSome_none]
     go_wp2_with fail
     go_ret
     exact ⟨unhide HB2,by rw [unhide HR2];exact ⟨.inr rfl,rfl⟩⟩
    | some s' =>
     rw [hst] at HHA
     have HST:=hide hst
     have HSN2:=hide (unhide HSN s' hst)
     clear hst
     go_wp2_with fail
     refine (unhide HHA).mono ?_
     rintro e w1 ⟨rfl,hb1⟩
     have HB2:Hid (Below B w w1):=(unhide HB1).trans (hb1.mono (by have:=(unhide HX).hB;have:=(unhide HX).lt;simp;omega))
     have HDO2:=hide (unhide HDO w1 s' ⟨gmem,tv,(unhide hx1).fr (Fr.ofBelow hb1) (by simp) (by simp) (by simp)⟩ (unhide HST))
     have hbx:w1.heap[wr.heap.size]?=some (Obj.cells #[.int .i64 o.k,.int .i64 o.a,.int .i64 o.b,.int .i64 o.c] 209):=(hb1.block _ (by simp)).trans (unhide HBX)
     have d0:w1.cell? ⟨wr.heap.size,0,none⟩=some (.int .i64 o.k):=by rw [cell_of_row _ _ _ _ _ _ hbx];rfl
     have d1:w1.cell? ⟨wr.heap.size,1,none⟩=some (.int .i64 o.a):=by rw [cell_of_row _ _ _ _ _ _ hbx];rfl
     have d2:w1.cell? ⟨wr.heap.size,2,none⟩=some (.int .i64 o.b):=by rw [cell_of_row _ _ _ _ _ _ hbx];rfl
     have d3:w1.cell? ⟨wr.heap.size,3,none⟩=some (.int .i64 o.c):=by rw [cell_of_row _ _ _ _ _ _ hbx];rfl
     clear hb1 hbx
     simp only [Option.isSome_some]
     go_wp2_with fail
     refine (unhide HDO2).mono ?_
     rintro e w2 ⟨rfl,hb2,hp2⟩
     have HB3:Hid (Below B w w2):=(unhide HB2).trans hb2
     have HP2:=hide hp2
     clear hb2 hp2
     go_wp2_with fail
     go_roundw
     case rel=>exact ⟨d+1,by go_num,s',unhide HDK,unhide HB3,unhide HP2,(unhide HSN2).1,(unhide HSN2).2.1,(unhide HSN2).2.2⟩
     case measure=>have:=unhide HDK;simp [intOf];omega
   ·have hdk2:d=k:=by omega
    subst hdk2
    have HR2:Hid (R=.error 11):=by
     show R=.error 11
     rw [←hrun,Nat.sub_self]
     exact runN_zero hp
    clear HH hd hBw hOk hTl hrun hp hdk hx
    go_wp2_with fail
    go_ret
    exact ⟨unhide HBW,by rw [unhide HR2];exact ⟨.inl rfl,rfl⟩⟩
  ·have hpI:(os.length:Int)≤(s1.p:Int):=by omega
   have HR2:Hid (R=.ok s1):=by
    show R=.ok s1
    rw [←hrun]
    exact runN_ends (by omega)
   have HTL2:Hid (s1.T.length≤2097152):=by have:=unhide HK;show _≤_;omega
   clear HH hd hBw hOk hTl hrun hp hx
   go_wp2_with fail
   go_ret
   exact ⟨unhide HBW,by rw [unhide HR2];exact ⟨rfl,⟨gmem,tv,unhide HX⟩,unhide HOK,unhide HTL2⟩⟩
end Mc
end Go.Proofs.YtobfpgoepaeknaaGreat
namespace Go.Proofs.YtobfpgoepaeknaaGreat
namespace Mc
open Go.RowKit
attribute [local go_sem ↓] Go.wp_at_zero Go.wp_at_succ
def memI (zs:List Int) (i:Nat):List Nat:=(zs.take i).map Int.toNat++List.replicate (4096 - i) 0
theorem memI_len {zs:List Int} {i:Nat} (h:i≤zs.length) (h2:zs.length≤4096):(memI zs i).length=4096:=by simp [memI];omega
theorem memI_zero (zs:List Int):memI zs 0=List.replicate 4096 0:=by unfold memI;rw [List.take_zero,List.map_nil,List.nil_append]
theorem memI_all (zs:List Int):memI zs zs.length=mem0 zs:=by simp [memI,mem0]
theorem memI_step {zs:List Int} {i:Nat} (h:i < zs.length) (h2:zs.length≤4096):(memI zs i).set i (zs.getD i 0).toNat=memI zs (i+1):=by
 unfold memI
 rw [List.set_append_right _ _ (by simp;omega)]
 obtain ⟨m,hm⟩:∃ m,4096 - i=m+1:=⟨4096 - i - 1,by omega⟩
 rw [hm,show 4096 - (i+1)=m by omega,List.replicate_succ]
 have e:i - (List.map Int.toNat (zs.take i)).length=0:=by simp;omega
 rw [e,List.set_cons_zero,List.take_add_one,List.getElem?_eq_getElem h,List.getD_eq_getElem?_getD,List.getElem?_eq_getElem h,List.map_append,List.append_assoc]
 rfl
def DjV (u v:Value):Prop:=∀ q,u.ownBlock=some q→v.ownBlock=some q→False
def zc4:Array Value:=madeCells #[.int .i64 0] 4096
theorem run_make4 (w:World):(Instr.makeSlice 37 (.int .i64 4096) (.int .i64 4096)).run Tryz.prog w=.ok (.slice (some ⟨w.heap.size,0,none⟩) 4096 4096) (w.alloc (.cells zc4 3)):=by
 obtain ⟨i,i0,i1,i2,i3⟩:=info_of infoI
 have:=run_make (P:=Tryz.prog) w 37 3 i (.int .i64 0) Tryz.underlying37 i0 i1 .i64 .i64 4096 4096 (by decide) (by decide) (by rw [i3];decide) (by decide)
 rw [i2] at this
 exact this
theorem NR.new4 {w:World} {B:Nat} (hB:B≤w.heap.size):NR (w.alloc (.cells zc4 3)) B (.slice (some ⟨w.heap.size,0,none⟩) 4096 4096) (List.replicate 4096 0):=NR.new (n:=4096) hB (by unfold maxLen;omega)
def zcP:Array Value:=pmC (List.replicate 16 0) (.slice none 0 0) (.slice none 0 0) 0
theorem zvP (w:World):(zeroValue 181).run Tryz.prog w=.ok (.agg zcP) w:=by kernel_rfl
theorem zcP_size:zcP.size=19:=pmC_size (by simp)
theorem zcP_ne:zcP≠#[]:=fun e=>by have:=zcP_size;rw [e] at this;cases this
theorem pmC_setMem {R:List Nat} {mv tv:Value} {p:Nat} (h:R.length=16) (v:Value):(pmC R mv tv p).setIfInBounds 16 v=pmC R v tv p:=by
 unfold pmC
 rw [List.setIfInBounds_toArray,List.set_append_right _ _ (by rw [ncs_len];omega),ncs_len,h];rfl
theorem zcP_build (v:Value):zcP.setIfInBounds 16 v=pmC (List.replicate 16 0) v (.slice none 0 0) 0:=pmC_setMem (by simp) v
theorem ncs_one (R:List Nat):∀ v∈ncs R,v.oneCell'=true:=by
 intro v hv
 unfold ncs at hv
 obtain ⟨x,_,rfl⟩:=List.mem_map.1 hv
 rfl
theorem pmC_one {R:List Nat} {a b:Option Addr} {n m c d:Nat} {p:Nat}:(pmC R (.slice a n c) (.slice b m d) p).all (·.oneCell')=true:=by
 unfold pmC
 rw [List.all_toArray]
 simp only [List.all_append,Bool.and_eq_true]
 exact ⟨List.all_eq_true.2 (ncs_one R),rfl⟩
theorem setRow_alloc2' (w:World) (o:Obj) (A B:Array Value) (t:TypeId):((w.alloc o).alloc (Obj.cells A t)).setRow (w.heap.size+1) B=(w.alloc o).alloc (Obj.cells B t):=by
 have hs:(w.alloc o).heap.size=w.heap.size+1:=by simp
 rw [←hs]
 generalize w.alloc o=W
 simp only [World.setRow,World.alloc]
 congr 1
 apply Array.ext_getElem?
 intro i
 rw [Array.getElem?_modify,Array.getElem?_push,Array.getElem?_push]
 by_cases h:i=W.heap.size
 ·subst h;simp
 ·rw [if_neg (fun e=>h e.symm),if_neg h,if_neg h]
theorem wpList_store_whole {P:Program} {ops:Array Oper} {rest:List Oper} {o:Oper} {a:Act} {w:World} {Q:Exit→Act→World→Prop} (hgd:o.guard=none) (ty:TypeId) (x y:Operand) (ho:o.op=.store ty x y) (hd:o.dst=none)
  (g:Nat) (cells:Array Value) (hx:a.eval x=.pointer (some ⟨g,0,none⟩)) (hy:a.eval y=.agg cells)
  (t:TypeId) (old:Array Value) (hg:w.heap[g]?=some (.cells old t (0,0))) (hi:(P.info? ty).map (·.size)=some cells.size)
  (hold:old.size=cells.size) (h1:cells.all (·.oneCell')=true)
  (h:wpList P ops Q rest a (w.setRow g cells)):wpList P ops Q (o ::rest) a w :=
 wpList_store_row hgd ty x y ho g cells hx hy t old hg hi hold h1 (by rw [hd];exact h)
structure RunOut (w w':World) (ans:RunAns) (ov tv:Value):Prop where
 below:Below w.heap.size w w'
 out:NR w' w.heap.size ov ans.M
 tr:NR w' w.heap.size tv ans.T
 dj:DjV ov tv
 lt:ans.T.length≤2097152
 lm:ans.M.length≤4096
theorem RunOut.nil {w w':World} (h:Below w.heap.size w w') (e:Int):RunOut w w' ⟨e,[],[]⟩ (.slice none 0 0) (.slice none 0 0):=⟨h,NR.nil _ _,NR.nil _ _,(fun q hq _=>by cases hq),Nat.zero_le _,Nat.zero_le _⟩
theorem takes8 {os:List OpI} {zs:List Int} {k:Int} (h:codeB os=false):runAns os zs k=⟨8,[],[]⟩:=by
 have:takesE os zs k=8:=by unfold takesE;rw [if_pos h]
 unfold runAns;rw [this,if_pos (by decide)]
theorem takes9 {os:List OpI} {zs:List Int} {k:Int} (h:codeB os=true) (h2:memB zs=false):runAns os zs k=⟨9,[],[]⟩:=by
 have:takesE os zs k=9:=by unfold takesE;rw [h,if_neg (by decide),if_pos h2]
 unfold runAns;rw [this,if_pos (by decide)]
theorem takes4 {os:List OpI} {zs:List Int} {k:Int} (h:codeB os=true) (h2:memB zs=true) (h3:stepsB k=false):runAns os zs k=⟨4,[],[]⟩:=by
 have:takesE os zs k=4:=by unfold takesE;rw [h,if_neg (by decide),h2,if_neg (by decide),if_pos h3]
 unfold runAns;rw [this,if_pos (by decide)]
theorem takes0 {os:List OpI} {zs:List Int} {k:Int} (h:codeB os=true) (h2:memB zs=true) (h3:stepsB k=true):runAns os zs k=endAns (runN os k.toNat (ms0 zs)):=by
 have:takesE os zs k=0:=by unfold takesE;rw [h,if_neg (by decide),h2,if_neg (by decide),h3,if_neg (by decide)]
 unfold runAns;rw [this,if_neg (by decide)]
set_option maxRecDepth 20000 in
set_option maxHeartbeats 1000000 in
theorem Run_bad (w:World) (cv mv:Value) (os:List OpI) (zs:List Int) (k:Int) (hc:OAt w cv os) (hm:IAt w mv zs) (hbad:codeB os=false∨memB zs=false∨stepsB k=false) :
  Calls Tryz.prog 57 #[cv,mv,.int .i64 k] w fun e w'=>∃ ov tv,e=.returned (.tuple #[ov,tv,.int .i64 (runAns os zs k).e])∧RunOut w w' (runAns os zs k) ov tv:=by
 have HIC:=hide (isCode_any w cv os hc)
 have HIM:=hide (fun w' (h:Below w.heap.size w w')=>isMemory_any w' mv zs (hm.below h))
 obtain ⟨ca,cc,rfl,-⟩:=hc
 obtain ⟨ma,mc,rfl,-⟩:=hm
 cases hcb:codeB os with
 | false =>
  rw [takes8 hcb]
  rw [hcb] at HIC
  clear hbad hcb HIM
  go_enter Tryz.func57,Tryz.ntmps57
  go_wp2_with fail
  refine (unhide HIC).mono ?_
  rintro e w1 ⟨rfl,hb1⟩
  have HB1:=hide hb1
  clear hb1
  go_wp2_with fail
  refine bodyPost_ret (v:=.tuple #[.slice none 0 0,.slice none 0 0,.int .i64 8]) (by simp [results,Tryz.results57,go_sem]) rfl ?_
  exact ⟨_,_,rfl,RunOut.nil (unhide HB1) _⟩
 | true =>
  rw [hcb] at HIC
  cases hmb:memB zs with
  | false =>
   rw [takes9 hcb hmb]
   rw [hmb] at HIM
   clear hbad hcb hmb
   go_enter Tryz.func57,Tryz.ntmps57
   go_wp2_with fail
   refine (unhide HIC).mono ?_
   rintro e w1 ⟨rfl,hb1⟩
   have HB1:=hide hb1
   have HIM1:=hide (unhide HIM w1 hb1)
   clear hb1
   go_wp2_with fail
   refine (unhide HIM1).mono ?_
   rintro e w2 ⟨rfl,rfl⟩
   go_wp2_with fail
   refine bodyPost_ret (v:=.tuple #[.slice none 0 0,.slice none 0 0,.int .i64 9]) (by simp [results,Tryz.results57,go_sem]) rfl ?_
   exact ⟨_,_,rfl,RunOut.nil (unhide HB1) _⟩
  | true =>
   have hsb:stepsB k=false:=by rcases hbad with h | h | h<;>simp_all
   rw [takes4 hcb hmb hsb]
   rw [hmb] at HIM
   have hk:k < 0∨2097152 < k:=by simp [stepsB] at hsb;omega
   clear hbad hcb hmb hsb
   rcases hk with hk | hk
   all_goals
    go_enter Tryz.func57,Tryz.ntmps57
    go_wp2_with fail
    refine (unhide HIC).mono ?_
    rintro e w1 ⟨rfl,hb1⟩
    have HB1:=hide hb1
    have HIM1:=hide (unhide HIM w1 hb1)
    clear hb1
    go_wp2_with fail
    refine (unhide HIM1).mono ?_
    rintro e w2 ⟨rfl,rfl⟩
    go_wp2_with fail
    refine bodyPost_ret (v:=.tuple #[.slice none 0 0,.slice none 0 0,.int .i64 4]) (by simp [results,Tryz.results57,go_sem]) rfl ?_
    exact ⟨_,_,rfl,RunOut.nil (unhide HB1) _⟩
attribute [local go_sem ↓] zvP
attribute [local go_sem] zcP_size zcP_ne
set_option maxRecDepth 20000 in
set_option maxHeartbeats 1000000 in
theorem Run_good (w:World) (cv mv:Value) (os:List OpI) (zs:List Int) (k:Nat) (hc:OAt w cv os) (hm:IAt w mv zs) (hcb:codeB os=true) (hmb:memB zs=true) (hk:k≤2097152) :
  Calls Tryz.prog 57 #[cv,mv,.int .i64 (k:Int)] w fun e w'=>∃ ov tv,e=.returned (.tuple #[ov,tv,.int .i64 (endAns (runN os k (ms0 zs))).e])∧RunOut w w' (endAns (runN os k (ms0 zs))) ov tv:=by
 have hco:=(codeB_iff os).1 hcb
 have hme:=(memB_iff zs).1 hmb
 have HIC:=hide (isCode_any w cv os hc)
 have HIM:=hide (fun w' (h:Below w.heap.size w w')=>isMemory_any w' mv zs (hm.below h))
 have HOA:=hide hc
 have HMA:=hide hm
 rw [hcb] at HIC
 rw [hmb] at HIM
 have HCO:=hide hco
 have HME:=hide hme
 have HK:=hide hk
 have hkI:(k:Int)≤2097152:=by omega
 have hk0:(0:Int)≤(k:Int):=by omega
 have hzI:(zs.length:Int)≤4096:=by have:=hme.1;omega
 obtain ⟨ca,cc,rfl,-⟩:=hc
 obtain ⟨ma,mc,rfl,-⟩:=hm
 generalize hR:runN os k (ms0 zs)=R
 have HRR:=hide hR
 clear hcb hmb hco hme hk hR
 go_enter Tryz.func57,Tryz.ntmps57
 go_wp2_with fail
 refine (unhide HIC).mono ?_
 rintro e w1 ⟨rfl,hb1⟩
 have HB1:=hide hb1
 have HIM1:=hide (unhide HIM w1 hb1)
 clear hb1
 go_wp2_with fail
 refine (unhide HIM1).mono ?_
 rintro e w2 ⟨rfl,hww⟩
 obtain rfl:w1=w2:=hww.symm
 clear hww
 obtain ⟨mc4,hmk,HNR⟩:∃ mc4,(Instr.makeSlice 37 (.int .i64 4096) (.int .i64 4096)).run Tryz.prog w1=.ok (.slice (some ⟨w1.heap.size,0,none⟩) 4096 4096) (w1.alloc (.cells mc4 3))∧Hid (NR (w1.alloc (.cells mc4 3)) w.heap.size (.slice (some ⟨w1.heap.size,0,none⟩) 4096 4096) (List.replicate 4096 0)):=⟨zc4,run_make4 w1,NR.new4 (unhide HB1).size⟩
 go_wp2_with (refine wpList_store_whole rfl 181 _ _ rfl rfl (w1.heap.size+1) _ rfl rfl 181 _ (heap_alloc2_new w1 _ (Obj.cells zcP 181)) (by rw [zcP_build,pmC_size (by simp)];kernel_rfl) (by rw [zcP_build,pmC_size (by simp),zcP_size]) (by rw [zcP_build];exact pmC_one) ?_;rw [zcP_build,setRow_alloc2'])
 have H0:Hid (Below w.heap.size w ((w1.alloc (Obj.cells mc4 3)).alloc (Obj.cells (pmC (List.replicate 16 0) (.slice (some ⟨w1.heap.size,0,none⟩) 4096 4096) (.slice none 0 0) 0) 181))∧PMx ((w1.alloc (Obj.cells mc4 3)).alloc (Obj.cells (pmC (List.replicate 16 0) (.slice (some ⟨w1.heap.size,0,none⟩) 4096 4096) (.slice none 0 0) 0) 181)) w.heap.size (w1.heap.size+1) w1.heap.size (.slice none 0 0) ⟨List.replicate 16 0,memI zs 0,0,[]⟩):=by
  have hsz:=(unhide HB1).size
  refine ⟨((unhide HB1).alloc hsz _).alloc (by simp;omega) _,⟨by omega,heap_alloc2_new _ _ _,?_,NR.nil _ _,fun e=>by cases e⟩⟩
  rw [memI_zero]
  exact (Fr.ofAlloc _ _).own (unhide HNR) (by simp)
 generalize w1.heap.size+1=gm at *
 generalize w1.heap.size=gmem at *
 clear hmk HNR HIM HIM1 HIC
 go_loopw [10] (fun ix wr=>∃ i:Nat,ix=.int .i64 (i:Int)∧Hid (i≤zs.length∧Below w.heap.size w wr∧PMx wr w.heap.size gm gmem (.slice none 0 0) ⟨List.replicate 16 0,memI zs i,0,[]⟩)) (fun ix _=>lenLeft zs.length ix)
 case atStart=>exact ⟨0,rfl,Nat.zero_le _,(unhide H0).1,(unhide H0).2⟩
 case round =>
  clear H0
  rename World=>wr
  obtain ⟨i,rfl,HH⟩:=hrel
  obtain ⟨hi,hBw,hx⟩:=unhide HH
  have HX:=hide hx
  have HBW:=hide hBw
  have cm:=hx.cm (by simp)
  have hgm:=hx.lt
  have hgmem:=hx.ltm
  have hne1:¬gmem=gm:=hx.neM
  have hne2:¬gm=gmem:=fun e=>hx.neM e.symm
  by_cases hlt:i < zs.length
  ·obtain ⟨ma2,mc2,he,hcs⟩:=(unhide HMA).below hBw
   simp only [Value.slice.injEq,true_and] at he
   obtain ⟨rfl,rfl⟩:=he
   obtain ⟨b,off,rfl,hcs2⟩:=hcs (by omega)
   have cz:=hcs2 i hlt
   obtain ⟨z,hz,hz2⟩:∃ z:Nat,zs.getD i 0=(z:Int)∧(zs.getD i 0).toNat=z:=by
    have:=(unhide HME).2 i hlt
    simp [wordOk] at this
    exact ⟨(zs.getD i 0).toNat,by rw [List.getD_eq_getElem?_getD];omega,rfl⟩
   rw [hz] at cz
   have cM:=hx.cw (memI_len hi (unhide HME).1) (k:=i) (by have:=(unhide HME).1;omega)
   have fM:=hx.freeM (memI_len hi (unhide HME).1) i
   have hiI:(i:Int) < (zs.length:Int):=by omega
   have hi4:(i:Int) < 4096:=by omega
   have HLT:=hide hlt
   have HNX:Hid (PMx (wr.setCell ⟨gmem,i,none⟩ (.int .i64 (z:Int))) w.heap.size gm gmem (.slice none 0 0) ⟨List.replicate 16 0,memI zs (i+1),0,[]⟩):=by
    have:=hx.setM (memI_len hi (unhide HME).1) i z
    simp only at this
    rw [←hz2,memI_step hlt (unhide HME).1] at this
    rw [hz2] at this
    exact this
   have HGM:Hid (w.heap.size≤gmem):=(hx.mem.lt gmem rfl).1
   clear HH hi hBw hx hlt hcs hcs2 hz hz2
   generalize (memI zs i).getD i 0=y at *
   go_wp2_with fail
   go_region
   all_goals
    go_wp2_with fail
    go_roundw
    case rel=>exact ⟨i+1,by go_num,unhide HLT,(below_set (unhide HBW) (unhide HGM)).drew,(unhide HNX).drew⟩
    case measure=>have:=unhide HLT;simp [lenLeft,intOf];omega
  ·have hi2:i=zs.length:=by omega
   subst hi2
   rw [memI_all] at hx
   have HRA:=hide (run_any wr w.heap.size gm (.slice ca os.length cc) os k (ms0 zs) (fun W hW=>(unhide HOA).below (hBw.trans hW)) (unhide HCO) ⟨gmem,_,hx⟩ (ms0_ok (unhide HME) _) (unhide HK) rfl)
   rw [unhide HRR] at HRA
   clear HH hi hBw hx hlt
   go_wp2_with fail
   refine (unhide HRA).mono ?_
   rintro e w3 ⟨hb3,hpo⟩
   have HB3:Hid (Below w.heap.size w w3):=(unhide HBW).trans hb3
   clear hb3
   cases R with
   | error k =>
    obtain ⟨hk,rfl⟩:=hpo
    rcases hk with rfl | rfl
    ·go_wp2_with fail
     refine bodyPost_ret (v:=.tuple #[.slice none 0 0,.slice none 0 0,.int .i64 11]) (by simp [results,Tryz.results57,go_sem]) rfl ?_
     exact ⟨_,_,rfl,RunOut.nil (unhide HB3) _⟩
    ·go_wp2_with fail
     refine bodyPost_ret (v:=.tuple #[.slice none 0 0,.slice none 0 0,.int .i64 10]) (by simp [results,Tryz.results57,go_sem]) rfl ?_
     exact ⟨_,_,rfl,RunOut.nil (unhide HB3) _⟩
   | ok s' =>
    obtain ⟨rfl,⟨gmem2,tv,hx⟩,hok,hTl⟩:=hpo
    obtain ⟨ta,tc,rfl⟩:=hx.tr.form
    have cm:=hx.cm hok.lr
    have ct:=hx.ct hok.lr
    have HX:=hide hx
    have HOK:=hide hok
    have HTL:=hide hTl
    clear hx hok hTl
    go_wp2_with fail
    go_region
    all_goals
     go_wp2_with fail
     refine bodyPost_ret (v:=.tuple #[.slice (some ⟨gmem2,0,none⟩) 4096 4096,.slice ta s'.T.length tc,.int .i64 0]) (by simp [results,Tryz.results57,go_sem]) rfl ?_
     refine ⟨_,_,rfl,(unhide HB3).drew,(unhide HX).mem,(unhide HX).tr,fun q h1 h2=>?_,unhide HTL,by show _≤_;rw [show (endAns (.ok s')).M=s'.M from rfl,(unhide HOK).lm];exact Nat.le_refl _⟩
     have:gmem2=q:=by simpa [Value.ownBlock] using h1
     subst this
     exact (unhide HX).ne h2
theorem Run_any (w:World) (cv mv:Value) (os:List OpI) (zs:List Int) (k:Int) (hc:OAt w cv os) (hm:IAt w mv zs) :
  Calls Tryz.prog 57 #[cv,mv,.int .i64 k] w fun e w'=>∃ ov tv,e=.returned (.tuple #[ov,tv,.int .i64 (runAns os zs k).e])∧RunOut w w' (runAns os zs k) ov tv:=by
 cases hcb:codeB os with
 | false=>exact Run_bad w cv mv os zs k hc hm (.inl hcb)
 | true =>
  cases hmb:memB zs with
  | false=>exact Run_bad w cv mv os zs k hc hm (.inr (.inl hmb))
  | true =>
   cases hsb:stepsB k with
   | false=>exact Run_bad w cv mv os zs k hc hm (.inr (.inr hsb))
   | true =>
    obtain ⟨q,rfl⟩:∃ q:Nat,k=(q:Int):=⟨k.toNat,by simp [stepsB] at hsb;omega⟩
    have hq:q≤2097152:=by simp [stepsB] at hsb;omega
    rw [takes0 hcb hmb hsb,Int.toNat_natCast]
    exact Run_good w cv mv os zs q hc hm hcb hmb hq
end Mc
end Go.Proofs.YtobfpgoepaeknaaGreat
