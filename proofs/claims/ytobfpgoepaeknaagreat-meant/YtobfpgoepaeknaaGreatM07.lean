/-
  judge.Code: the code of an image and its data.
  As the law of the last operation that writes, for one that gives a value (a call): where no operation is guarded.
  judge.Code: the walk.
  The data of an image's code, laid in memory, are what the code wants.
-/
import Derived.Test.YtobfpgoepaeknaaGreatM06
import Derived.Test.YtobfpgoepaeknaaGreatM01
namespace Go.Proofs.YtobfpgoepaeknaaGreat
namespace Mc
open Go.RowKit
theorem own_keep {w w':World} {B e z:Nat} {v:Value} {n:Nat} {xs:List Value} (h:w.ownsRow B e z v n xs) (hk:∀ (k:Nat) (cs:Array Value) (fr:Nat × Nat),w.heap[k]?=some (Obj.cells cs e fr)→w'.heap[k]?=some (Obj.cells cs e fr)):w'.ownsRow B e z v n xs:=by
 refine ⟨h.1,?_⟩
 rcases h.2 with hl | ⟨g,cap,cur,rfl,h1,hg,rest⟩
 ·exact .inl hl
 ·exact .inr ⟨g,cap,cur,rfl,h1,hk _ _ _ hg,rest⟩
theorem WB.presL {w w':World} {B gw:Nat} {os:List OpI} (h:WB w B gw os) (hp:PresL B w w'):WB w' B gw os:=by
 obtain ⟨v,h1,h2⟩:=h.ex
 exact ⟨h.hB,v,hp.keep _ _ _ _ h1 (by decide) (by decide),own_keep h2 (fun k cs fr hk=>hp.keep k cs _ fr hk (by decide) (by decide))⟩
theorem LB.presW {w w':World} {B gl:Nat} {ds:List Nat} (h:LB w B gl ds) (hp:PresW B w w'):LB w' B gl ds:=by
 obtain ⟨v,h⟩:=h
 exact ⟨v,h.hB,hp.keep _ _ _ _ h.heap (by decide) (by decide),own_keep h.row (fun k cs fr hk=>hp.keep k cs _ fr hk (by decide) (by decide))⟩
structure PresC (B:Nat) (w w':World):Prop where
 below:Below B w w'
 keep:∀ (k:Nat) (cs:Array Value) (ty:TypeId) (fr:Nat × Nat),w.heap[k]?=some (.cells cs ty fr)→(ty=168∨ty=47)→w'.heap[k]?=some (.cells cs ty fr)
theorem PresW.c {B:Nat} {w w':World} (h:PresW B w w'):PresC B w w':=⟨h.below,fun k cs ty fr hk ht=>h.keep k cs ty fr hk (by rcases ht with rfl | rfl<;>decide) (by rcases ht with rfl | rfl<;>decide)⟩
theorem PresL.c {B:Nat} {w w':World} (h:PresL B w w'):PresC B w w':=⟨h.below,fun k cs ty fr hk ht=>h.keep k cs ty fr hk (by rcases ht with rfl | rfl<;>decide) (by rcases ht with rfl | rfl<;>decide)⟩
structure CS (B:Nat) (w wr:World) (gw gl:Nat) (os:List OpI) (ds:List Nat):Prop where
 below:Below B w wr
 wb:WB wr B gw os
 lb:LB wr B gl ds
section
variable {B : Nat} {w wr w' : World} {gw gl : Nat} {os os' : List OpI} {ds ds' : List Nat}
theorem CS.size (h:CS B w wr gw gl os ds):B≤wr.heap.size:=by have:=h.wb.lt;have:=h.wb.hB;omega
theorem CS.pw (h:CS B w wr gw gl os ds) (hp:PresW B wr w') (hw:WB w' B gw os'):CS B w w' gw gl os' ds:=⟨h.below.trans hp.below,hw,h.lb.presW hp⟩
theorem CS.pl (h:CS B w wr gw gl os ds) (hp:PresL B wr w') (hl:LB w' B gl ds'):CS B w w' gw gl os ds':=⟨h.below.trans hp.below,h.wb.presL hp,hl⟩
theorem CS.bel (h:CS B w wr gw gl os ds) (hb:Below wr.heap.size wr w'):CS B w w' gw gl os ds:=by
 have hp:=PresL.ofBelow (B:=B) hb h.size
 obtain ⟨v,hx⟩:=h.lb
 exact ⟨h.below.trans hp.below,h.wb.presL hp,v,hx.below hb⟩
theorem CS.alloc (h:CS B w wr gw gl os ds) (o:Obj):CS B w (wr.alloc o) gw gl os ds:=h.bel ((Below.refl _ _).alloc (Nat.le_refl _) _)
theorem CS.drewN (h:CS B w wr gw gl os ds) (n:Nat):CS B w (wr.drewN n) gw gl os ds:=by
 obtain ⟨v,hx⟩:=h.lb
 obtain ⟨v',h1,h2⟩:=h.wb.ex
 exact ⟨⟨h.below.os,h.below.tape,h.below.output,h.below.size,h.below.block⟩,⟨h.wb.hB,v',h1,h2⟩,v,hx.drewN n⟩
end
def layD (f:ByteArray) (m:Nat) (ts:Nat→TabN):Nat→List Nat
 | 0=>verdW f m (2 ^ m)
 | i+1=>layD f m ts i++clsW (ts i) 256++rowsW (ts i) (32+(layD f m ts i++clsW (ts i) 256).length) (2 ^ i) (ts i).S
def layP (f:ByteArray) (m:Nat) (ts:Nat→TabN):Nat→List Pt
 | 0=>[]
 | i+1=>layP f m ts i++[⟨32+(layD f m ts i).length,32+(layD f m ts i).length+256,ts i⟩]
theorem layP_len (f:ByteArray) (m:Nat) (ts:Nat→TabN):∀ i,(layP f m ts i).length=i
 | 0=>rfl
 | i+1=>by rw [layP,List.length_append,layP_len f m ts i];rfl
theorem partsOps_snoc (N:Nat) (x:Pt):∀ (l:List Pt) (p:Nat),partsOps N p (l++[x])=partsOps N p l++tableOps x.cb x.rb x.t N (p+l.length * (14+31 * N))
 | [],p=>by simp [partsOps]
 | y ::l,p=>by
  rw [List.cons_append,partsOps,partsOps,partsOps_snoc N x l,List.append_assoc,List.length_cons,Nat.add_mul,Nat.one_mul,show p+(14+31 * N)+l.length * (14+31 * N)=p+(l.length * (14+31 * N)+(14+31 * N)) by omega]
def layO (f:ByteArray) (m N:Nat) (ts:Nat→TabN) (i:Nat):List OpI:=headOps 32++partsOps N 4 (layP f m ts i)
theorem layO_len (f:ByteArray) (m N:Nat) (ts:Nat→TabN) (i:Nat):(layO f m N ts i).length=4+i * (14+31 * N):=by
 unfold layO;rw [List.length_append,partsOps_len,layP_len];rfl
theorem layO_succ (f:ByteArray) (m N:Nat) (ts:Nat→TabN) (i:Nat):layO f m N ts (i+1)=layO f m N ts i++tableOps (32+(layD f m ts i).length) (32+(layD f m ts i).length+256) (ts i) N (layO f m N ts i).length:=by
 rw [layO_len]
 unfold layO
 rw [layP,partsOps_snoc,layP_len,List.append_assoc]
theorem table_steps (os:List OpI) (cb rb N:Nat) (t:TabN):(os++[(⟨0,3,(rb:Int),0⟩:OpI),⟨0,4,0,0⟩]++readsOps cb (cb+256) rb (rb+t.S * (1+t.C)) (os.length+2) N)++addMarkOps rb (rb+t.S * (1+t.C)) (os++[(⟨0,3,(rb:Int),0⟩:OpI),⟨0,4,0,0⟩]++readsOps cb (cb+256) rb (rb+t.S * (1+t.C)) (os.length+2) N).length=os++tableOps cb rb t N os.length:=by
 rw [List.length_append,List.length_append,readsOps_len,Nat.add_comm 1 t.C]
 unfold tableOps
 simp only [List.append_assoc,List.length_cons,List.length_nil]
 rfl
theorem layD_len (f:ByteArray) (m:Nat) (ts:Nat→TabN) (h:∀ i,i < m→(ts i).Ok) (hm:m≤4):∀ i,i≤m→(layD f m ts i).length≤16+i * 856
 | 0,_=>by
  rw [layD,verdW_len]
  have:2 ^ m≤2 ^ 4:=Nat.pow_le_pow_right (by decide) hm
  omega
 | i+1,hi=>by
  have ih:=layD_len f m ts h hm i (by omega)
  have ho:=h i (by omega)
  have h1:(ts i).S * (1+(ts i).C)≤24 * 25:=Nat.mul_le_mul ho.s2 (by have:=ho.c2;omega)
  rw [layD,List.length_append,List.length_append,clsW_len,rowsW_len]
  omega
end Mc
end Go.Proofs.YtobfpgoepaeknaaGreat
namespace Go.Proofs.YtobfpgoepaeknaaGreat
namespace Mc
section
variable {P : Program} {md : Region.Mode} {C : World → Prop}
variable {front : List Oper} {o : Oper}
def nopN (o:Oper):Oper:={ o with op:=.move (.const undef),dst:=none }
def noGuards (l:List Oper):Bool:=l.all fun o=>o.guard.isNone
theorem noGuards_at {l:List Oper} (h:noGuards l=true) {i:Nat} {x:Oper} (hx:l.toArray[i]?=some x):x.guard=none:=by
 have hx':l[i]?=some x:=by simpa using hx
 have:=List.all_eq_true.1 h x (List.mem_of_getElem? hx')
 simpa using this
theorem ready_sameN:∀ ls,Region.ready md (front++[nopN o]).toArray ls=Region.ready md (front++[o]).toArray ls:=by
 intro ls
 unfold Region.ready
 have hs:(front++[nopN o]).toArray.size=(front++[o]).toArray.size:=by simp
 rw [hs]
 congr 1
 funext i
 congr 2
 by_cases hi:i < front.length
 ·simp [List.getElem?_append_left hi]
 ·by_cases hi2:i=front.length
  ·subst hi2;simp [nopN]
  ·simp [List.getElem?_append_right (show front.length≤i by omega),List.getElem?_eq_none (show [nopN o].length≤i - front.length by simp;omega),List.getElem?_eq_none (show [o].length≤i - front.length by simp;omega)]
theorem wpAny_lastN {Q:Exit→Act→World→Prop} (hng:noGuards (front++[o])=true) (hcov:covB md (front++[o])=true) (hback:backB (front++[o])=true) (hnop:∀ (K:Act→Prop) (a:Act),qOp P (front++[nopN o]).toArray C front.length K a→K a) :
  ∀ (fuel:Nat) (ls:Array Bool) (a:Act) (w:World),DownC md (front++[o]).toArray ls→ls.getD front.length false=false→C w →
   wpAnyQ P md (front++[nopN o]).toArray C (fun a'=>∀ w',C w'→wpOp P (front++[o]).toArray Q front.length (fun a2 w2=>Q .normal a2 w2) a' w') fuel ls a→wpAny P md (front++[o]).toArray Q fuel ls a w:=by
 intro fuel
 induction fuel with
 | zero =>
  intro ls a w hd hf _ h
  exact absurd (by rw [←ready_sameN];exact h.1) (some_left hback hd front.length (by omega) hf)
 | succ fuel ih =>
  intro ls a w hd hf hC h
  refine ⟨fun he=>absurd he (some_left hback hd front.length (by omega) hf),fun i hi=>?_⟩
  have h1:=h.2 i (by rw [ready_sameN];exact hi)
  by_cases hin:i=front.length
  ·subst hin
   have h2:=hnop _ _ h1
   have hnone:=none_left hcov hd hi
   have h3:∀ w',C w'→wpOp P (front++[o]).toArray Q front.length (fun a2 w2=>Q .normal a2 w2) a w':=by
    cases fuel with
    | zero=>exact h2.2
    | succ f=>exact h2.1 (by rw [ready_sameN];exact hnone)
   exact wpOp_mono (fun a' w' hq=>wpAny_done hnone hq _) (h3 w hC)
  ·have hsame:(front++[nopN o]).toArray[i]?=(front++[o]).toArray[i]?:=by
    by_cases hl:i < front.length
    ·simp [List.getElem?_append_left hl]
    ·simp [List.getElem?_append_right (show front.length≤i by omega),List.getElem?_eq_none (show [nopN o].length≤i - front.length by simp;omega),List.getElem?_eq_none (show [o].length≤i - front.length by simp;omega)]
   have h2:qOp P (front++[o]).toArray C i (wpAnyQ P md (front++[nopN o]).toArray C (fun a'=>∀ w',C w'→wpOp P (front++[o]).toArray Q front.length (fun a2 w2=>Q .normal a2 w2) a' w') fuel (ls.setIfInBounds i true)) a:=by
    unfold qOp at h1 ⊢
    rw [hsame] at h1
    cases hx:(front++[o]).toArray[i]? with
    | none=>rw [hx] at h1;exact h1
    | some x =>
     rw [hx] at h1
     have hg:=noGuards_at hng hx
     have hw:∀ f,Region.wanted x f=true:=fun f=>by unfold Region.wanted;rw [hg]
     simp only [hw,if_true] at h1 ⊢
     exact h1
   refine wpOp_of_qOp hC (fun a' w' hC' hk=>ih (ls.setIfInBounds i true) a' w' (hd.set hi) ?_ hC' hk) h2
   rw [getD_set_ne false hin];exact hf
theorem wp_region_call {id:Nat} {Q:Exit→Act→World→Prop} {a:Act} {w:World} {l:List Oper} (hl:l=l.dropLast++[o]) (hm:P.follows .mixedOrders=true) (hgd:o.guard=none) (hng:noGuards (l.dropLast++[o])=true)
  (hB:Region.lexB .any (l.dropLast++[nopN o]).toArray=true) (hcov:covB .any (l.dropLast++[o])=true) (hback:backB (l.dropLast++[o])=true)
  (h:wpQuiet P (l.dropLast++[nopN o]).toArray (fun w'=>∃ n,w'=w.drewN n) (fun a'=>∀ w',(∃ n,w'=w.drewN n)→o.wp P a' w' (fun a2 w2=>Q .normal a2 w2) Q) (l.dropLast++[nopN o]) a):(Code.region id l.toArray true).wp P Q a w:=by
 rw [hl]
 generalize l.dropLast=front at *
 have hsz:(front++[o]).toArray.size=front.length+1:=by simp
 refine wp_region_any hm ?_
 refine wpAny_lastN (C:=fun w'=>∃ n,w'=w.drewN n) hng hcov hback ?_ _ _ _ _ ⟨by simp,fun j oj hj hls=>?_⟩ ?_ ⟨1,rfl⟩ ?_
 ·intro K a hq
  unfold qOp at hq
  have:(front++[nopN o]).toArray[front.length]?=some (nopN o):=by simp
  rw [this] at hq
  simp only at hq
  have hw:Region.wanted (nopN o) (yielded (front++[nopN o]).toArray a.tmps)=true:=by
   unfold Region.wanted nopN;rw [hgd]
  rw [if_pos hw] at hq
  obtain ⟨v,-,hk⟩:=hq
  have hd2:(nopN o).dst=none:=rfl
  rw [hd2] at hk
  exact hk
 ·exfalso
  have hlt:j < (front++[o]).toArray.size:=(Array.getElem?_eq_some_iff.1 hj).1
  simp [Array.getElem?_replicate] at hls
  rw [if_pos (by simpa using hlt)] at hls
  cases hls
 ·simp
 ·simp only [Region.lexB,Bool.and_eq_true] at hB
  have h2:wpQuiet P (front++[nopN o]).toArray (fun w'=>∃ n,w'=w.drewN n) (fun a'=>∀ w',(∃ n,w'=w.drewN n)→wpOp P (front++[o]).toArray Q front.length (fun a2 w2=>Q .normal a2 w2) a' w') (front++[nopN o]) a:=by
   have e:(fun a'=>∀ w',(∃ n,w'=w.drewN n)→wpOp P (front++[o]).toArray Q front.length (fun a2 w2=>Q .normal a2 w2) a' w')=(fun a'=>∀ w',(∃ n,w'=w.drewN n)→(o.wp P a' w' (fun a2 w2=>Q .normal a2 w2) Q∨(o.asks P a' w'∧LetsOut Q))):=by
    funext a'
    apply propext
    refine forall_congr' fun w'=>imp_congr_right fun _=>?_
    unfold wpOp
    have:(front++[o]).toArray[front.length]?=some o:=by simp
    rw [this]
    simp only
    have hw:Region.wanted o (yielded (front++[o]).toArray a'.tmps)=true:=by
     unfold Region.wanted;rw [hgd]
    rw [if_pos hw]
   rw [e]
   exact quiet_last (fun a' hq w' hw'=>.inl (hq w' hw')) _ _ h
  have:=wpAnyQ_lex (C:=fun w'=>∃ n,w'=w.drewN n) (md:=.any) hB.1 (front++[nopN o]) 0 (Array.replicate (front++[nopN o]).toArray.size false) a (by simp) (by simpa using hB.2) h2
  simpa using this
end
end Mc
end Go.Proofs.YtobfpgoepaeknaaGreat
namespace Go.Proofs.YtobfpgoepaeknaaGreat
namespace Mc
open Go.RowKit
theorem code_steps (f:ByteArray) (m N:Nat) (ts:Nat→TabN):layO f m N ts m++[(⟨3,5,2,2⟩:OpI)]++lookOps 32 (32+2 ^ m) (layO f m N ts m++[(⟨3,5,2,2⟩:OpI)]).length++[(⟨0,10,17,0⟩:OpI),⟨7,6,10,0⟩]=codeOf 32 N (layP f m ts m):=by
 unfold codeOf tailOps
 rw [List.length_append,layO_len,layP_len]
 unfold layO
 simp only [List.append_assoc]
 rfl
section
attribute [local go_sem ↓] Go.wp_at_zero Go.wp_at_succ zvTb
attribute [local go_sem] zcTb_size zcTb_ne aggcells
set_option maxRecDepth 20000 in
set_option maxHeartbeats 2000000 in
theorem Code_any (w:World) (gi N m tc g:Nat) (f:ByteArray) (ts:Nat→TabN) (h:ImB w gi N f (some ⟨g,0,none⟩) m tc) (ht:Tbs w w.heap.size g m ts) (hm:m≤4) (hf:f.size≤1000) (hN:N≤16) :
  Calls Tryz.prog 55 #[.pointer (some ⟨gi,0,none⟩)] w fun e w'=>∃ cv dv,e=.returned (.tuple #[cv,dv])∧Below w.heap.size w w'∧OR w' w.heap.size cv (codeOf 32 N (layP f m ts m))∧NR w' w.heap.size dv (layD f m ts m):=by
 have hgi:=(Array.getElem?_eq_some_iff.1 h.heap).1
 have HI:=hide (fun w' (hb:Below w.heap.size w w')=>h.below hb hgi)
 have HTB:=hide (fun w' (hb:Below w.heap.size w w')=>ht.below hb)
 have HOK:Hid (∀ i,i < m→(ts i).Ok):=fun i hi=>by obtain ⟨_,_,_,hr⟩:=ht.at_ i hi;exact hr.ok
 have HM:=hide hm
 have HF:=hide hf
 have HN:=hide hN
 have hmI:(m:Int)≤4:=by omega
 have HC0:Hid (CS w.heap.size w ((w.alloc (Obj.cells #[.slice none 0 0] 164)).alloc (Obj.cells #[.slice none 0 0] 166)) w.heap.size (w.heap.size+1) [] []):=by
  have b1:Below w.heap.size w (w.alloc (Obj.cells #[.slice none 0 0] 164)):=(Below.refl _ _).alloc (Nat.le_refl _) _
  refine ⟨b1.alloc (by simp) _,⟨Nat.le_refl _,.slice none 0 0,?_,World.ownsRow_nil _ _ _ _⟩,.slice none 0 0,by omega,?_,NR.nil _ _⟩
  ·exact (Fr.ofAlloc _ _).at (heap_alloc_new _ _) (by simp)
  ·have:=heap_alloc_new (w.alloc (Obj.cells #[.slice none 0 0] 164)) (Obj.cells #[.slice none 0 0] 166)
   simpa using this
 clear h ht hm hf hN
 go_enter Tryz.func55,Tryz.ntmps55
 go_wp2_with fail
 generalize hw1:(w.alloc (Obj.cells #[.slice none 0 0] 164)).alloc (Obj.cells #[.slice none 0 0] 166)=w1 at *
 clear hw1
 refine (verdicts_any w1 w.heap.size (w.heap.size+1) gi N m tc f _ [] (unhide HC0).lb (unhide HI w1 (unhide HC0).below) (unhide HM) (unhide HF) (by simp)).mono ?_
 rintro e w2 ⟨rfl,hp2,hl2⟩
 have HC2:=hide (((unhide HC0).pl hp2 hl2).alloc (Obj.cells #[.int .i64 32,.int .i64 ((32+2 ^ m:Nat):Int)] 168))
 have HBX2:Hid ((w2.alloc (Obj.cells #[.int .i64 32,.int .i64 ((32+2 ^ m:Nat):Int)] 168)).heap[w2.heap.size]?=some (Obj.cells #[.int .i64 32,.int .i64 ((32+2 ^ m:Nat):Int)] 168 (0,0))):=heap_alloc_new _ _
 clear hp2 hl2 HC0
 simp only [List.length_nil,Nat.add_zero,List.nil_append] at HC2 ⊢
 generalize hve:32+2 ^ m=ve at *
 have HVE:=hide hve
 clear hve
 unfold arV
 go_wp2_with fail
 generalize w2.alloc (Obj.cells #[.int .i64 32,.int .i64 ((ve:Nat):Int)] 168)=w3 at *
 generalize w2.heap.size=g6 at *
 refine (set_any w3 w.heap.size w.heap.size [] 0 1 (unhide HC2).wb (by simp)).mono ?_
 rintro e w4 ⟨rfl,hp4,hw4⟩
 have HC4:=hide ((unhide HC2).pw hp4 hw4)
 have HBX4:=hide (hp4.c.keep _ _ _ _ (unhide HBX2) (Or.inl rfl))
 clear hp4 hw4 HC2 HBX2
 go_wp2_with fail
 refine (load_any w4 w.heap.size w.heap.size _ 1 0 (unhide HC4).wb (by simp)).mono ?_
 rintro e w5 ⟨rfl,hp5,hw5⟩
 have HC5:=hide ((unhide HC4).pw hp5 hw5)
 have HBX5:=hide (hp5.c.keep _ _ _ _ (unhide HBX4) (Or.inl rfl))
 obtain ⟨b0,-⟩:=boxA (unhide HBX5)
 clear hp5 hw5 HC4 HBX4
 go_wp2_with fail
 refine (set_any w5 w.heap.size w.heap.size _ 2 32 (unhide HC5).wb (by simp)).mono ?_
 rintro e w6 ⟨rfl,hp6,hw6⟩
 have HC6:Hid (CS w.heap.size w w6 w.heap.size (w.heap.size+1) (layO f m N ts 0) (layD f m ts 0)):=(unhide HC5).pw hp6 hw6
 have HBX6:=hide (hp6.c.keep _ _ _ _ (unhide HBX5) (Or.inl rfl))
 clear hp6 hw6 HC5 HBX5 b0
 go_wp2_with fail
 generalize hH:w.heap.size=H at *
 have HHW:=hide hH
 clear hH
 go_loopw [7,8] (fun kx ix wr=>∃ i:Nat,kx=.int .i64 ((2 ^ i:Nat):Int)∧ix=.int .i64 (i:Int)∧Hid (i≤m∧CS H w wr H (H+1) (layO f m N ts i) (layD f m ts i)∧wr.heap[g6]?=some (Obj.cells #[.int .i64 32,.int .i64 ((ve:Nat):Int)] 168 (0,0)))) (fun _ ix _=>lenLeft m ix)
 case atStart=>exact ⟨0,rfl,rfl,Nat.zero_le _,unhide HC6,unhide HBX6⟩
 case round =>
  clear HC6 HBX6
  rename World=>wr
  obtain ⟨i,rfl,rfl,HH⟩:=hrel
  obtain ⟨hi,hC,hbx⟩:=unhide HH
  have HR:=hide (Rules_any wr gi N m tc f _ (unhide HI wr hC.below))
  clear HH
  by_cases hlt:i < m
  ·have hltI:(i:Int) < (m:Int):=by omega
   have hok:=unhide HOK i hlt
   have hp8:2 ^ i≤16:=by
    have:=unhide HM
    exact Nat.le_trans (Nat.pow_le_pow_right (by decide) (show i≤4 by omega)) (by decide)
   have e1:((2 ^ i:Nat):Int) * 2=((2 ^ (i+1):Nat):Int):=by rw [Nat.pow_succ,Int.natCast_mul];rfl
   have ew:IntKind.i64.wrap ((2 ^ (i+1):Nat):Int)=((2 ^ (i+1):Nat):Int):=wrap_i64 (2 ^ (i+1)) (by rw [Nat.pow_succ];omega)
   have hmul:i * (14+31 * N)≤4 * (14+31 * 16):=Nat.mul_le_mul (show i≤4 by have:=unhide HM;omega) (by have:=unhide HN;omega)
   have HLO:Hid ((layO f m N ts i).length≤3000):=by show _≤_;rw [layO_len];omega
   have HLD:Hid ((layD f m ts i).length≤4000):=by have:=layD_len f m ts (unhide HOK) (unhide HM) i hi;have:=unhide HM;show _≤_;omega
   have HTA:=hide (Table_any wr H gi N m tc g f ts (unhide HI wr hC.below) (unhide HTB wr hC.below) hC.size i hlt (unhide HM))
   have HLT:=hide hlt
   have HC:=hide hC
   have HBX:=hide hbx
   have HP8:=hide hp8
   have HSD:Hid (layD f m ts (i+1)=layD f m ts i++clsW (ts i) 256++rowsW (ts i) (32+(layD f m ts i++clsW (ts i) 256).length) (2 ^ i) (ts i).S):=rfl
   have HSO:=hide (layO_succ f m N ts i)
   have HTS:=hide (table_steps (layO f m N ts i) (32+(layD f m ts i).length) (32+(layD f m ts i).length+256) N (ts i))
   clear hi hC hbx hlt hmul hp8 hok
   generalize 2 ^ i=p at *
   generalize hp2:2 ^ (i+1)=p2 at *
   have HP2:=hide hp2
   clear hp2
   generalize hts:ts i=t at *
   generalize layD f m ts i=ds at *
   generalize layO f m N ts i=os at *
   go_wp2_with fail
   refine (unhide HR).mono ?_
   rintro e w7 ⟨rfl,hww⟩
   obtain rfl:wr=w7:=hww.symm
   clear hww HR
   go_wp2_with fail
   refine (unhide HTA).mono ?_
   rintro e w8 ⟨hb8,gv,nv,rfl,hr8⟩
   have HC8:=hide ((unhide HC).bel hb8)
   have HBX8:=hide ((Fr.ofBelow hb8).at (unhide HBX) (by simp))
   have HR8:=hide hr8
   obtain ⟨a1,n1,k1,a2,n2,k2,rfl,rfl⟩:=hr8.form
   have hb9:Below w8.heap.size w8 ((w8.alloc (.cells zcTb 47)).setRow w8.heap.size (tbC t.cl t.C (.slice a1 n1 k1) (.slice a2 n2 k2))):=((Fr.ofAlloc w8 _).row (Or.inr (Nat.le_refl _)) _).below (fun x hx=>by cases hx)
   have hT9:=setRow_heap _ _ _ (tbC t.cl t.C (.slice a1 n1 k1) (.slice a2 n2 k2)) _ _ (heap_alloc_new w8 (.cells zcTb 47))
   have HTB9:=hide ((hr8.below (hb9.mono (unhide HC8).size)).tab hT9)
   have HC9:=hide ((unhide HC8).bel hb9)
   have HBX9:=hide ((Fr.ofBelow hb9).at (unhide HBX8) (by simp))
   have HSZ:=hide (tbC_size t.cl t.C (.slice a1 n1 k1) (.slice a2 n2 k2))
   have HON:=hide (tbC_one a1 a2 n1 n2 k1 k2 t.cl t.C)
   clear hb8 hr8 HC HBX HTA HC8 HBX8 HR8 hb9 hT9
   generalize tbC t.cl t.C (.slice a1 n1 k1) (.slice a2 n2 k2)=cs at *
   go_wp2_with (refine store_row rfl 47 _ _ rfl rfl w8.heap.size cs rfl rfl 47 _ (heap_alloc_new _ _) (by rw [unhide HSZ];exact infoT) (by rw [zcTb_size];exact (unhide HSZ).symm) (unhide HON) ?_)
   generalize (w8.alloc (.cells zcTb 47)).setRow w8.heap.size cs=w9 at *
   generalize w8.heap.size=g9 at *
   refine (classes_any w9 H (H+1) g9 t ds (unhide HC9).lb (unhide HTB9) (by have:=unhide HLD;omega)).mono ?_
   rintro e w10 ⟨rfl,hp10,hl10⟩
   have hD1:32+(ds++clsW t 256).length=32+ds.length+256:=by rw [List.length_append,clsW_len];omega
   have HLD1:Hid ((ds++clsW t 256).length≤50000):=by rw [List.length_append,clsW_len];have:=unhide HLD;show _≤_;omega
   have HC10':=hide ((unhide HC9).pl hp10 hl10)
   have HTB10':=hide ((unhide HTB9).presL hp10)
   have HBX10':=hide (hp10.c.keep _ _ _ _ (unhide HBX9) (Or.inl rfl))
   rw [hD1] at HSD
   generalize hDe:ds++clsW t 256=D1 at *
   generalize hcb:32+ds.length=cb at *
   generalize hce:cb+256=ce at *
   have HC10:=hide ((unhide HC10').alloc (Obj.cells #[.int .i64 (cb:Int),.int .i64 (ce:Int)] 168))
   have HPA:Hid (PresL H w10 (w10.alloc (Obj.cells #[.int .i64 (cb:Int),.int .i64 (ce:Int)] 168))):=PresL.alloc H w10 _ (unhide HC10').size
   have HTB10:=hide ((unhide HTB10').presL (unhide HPA))
   have HBX10:=hide ((unhide HPA).c.keep _ _ _ _ (unhide HBX10') (Or.inl rfl))
   have HB10:Hid ((w10.alloc (Obj.cells #[.int .i64 (cb:Int),.int .i64 (ce:Int)] 168)).heap[w10.heap.size]?=some (Obj.cells #[.int .i64 (cb:Int),.int .i64 (ce:Int)] 168 (0,0))):=heap_alloc_new _ _
   have HRW:=hide (rows_any _ H (H+1) g9 t D1 p (unhide HC10).lb (unhide HTB10) (unhide HLD1) (by have:=unhide HP8;omega))
   rw [hD1] at HRW
   have HDe:=hide hDe
   clear hp10 hl10 hDe hcb hce hD1 HC10' HTB10' HBX10' HPA HC9 HTB9 HBX9 hts
   unfold arV
   go_wp2_with fail
   generalize w10.alloc (Obj.cells #[.int .i64 (cb:Int),.int .i64 (ce:Int)] 168)=w11 at *
   generalize w10.heap.size=g10 at *
   refine (unhide HRW).mono ?_
   rintro e w12 ⟨rfl,hp12,hl12⟩
   have HC12':=hide ((unhide HC10).pl hp12 hl12)
   have HBX12':=hide (hp12.c.keep _ _ _ _ (unhide HBX10) (Or.inl rfl))
   have HB12':=hide (hp12.c.keep _ _ _ _ (unhide HB10) (Or.inl rfl))
   generalize hre:ce+t.S * (1+t.C)=re at *
   have HC12:=hide ((unhide HC12').alloc (Obj.cells #[.int .i64 (ce:Int),.int .i64 (re:Int)] 168))
   have HPA:Hid (PresC H w12 (w12.alloc (Obj.cells #[.int .i64 (ce:Int),.int .i64 (re:Int)] 168))):=(PresL.alloc H w12 _ (unhide HC12').size).c
   have HBX12:=hide ((unhide HPA).keep _ _ _ _ (unhide HBX12') (Or.inl rfl))
   have HB12:=hide ((unhide HPA).keep _ _ _ _ (unhide HB12') (Or.inl rfl))
   have HB13:Hid ((w12.alloc (Obj.cells #[.int .i64 (ce:Int),.int .i64 (re:Int)] 168)).heap[w12.heap.size]?=some (Obj.cells #[.int .i64 (ce:Int),.int .i64 (re:Int)] 168 (0,0))):=heap_alloc_new _ _
   clear hp12 hl12 HC12' HBX12' HB12' HPA HRW HC10 HTB10 HBX10 HB10 hre
   unfold arV
   go_upto_region 14 with fail
   generalize w12.alloc (Obj.cells #[.int .i64 (ce:Int),.int .i64 (re:Int)] 168)=w13 at *
   generalize w12.heap.size=g11 at *
   have HMO:=hide (fun (n:Nat)=>Most_any (w13.drewN n) gi N m tc f _ (unhide HI (w13.drewN n) (below_drewN (unhide HC12).below n)))
   obtain ⟨b0,b1⟩:=boxA (unhide HB12)
   obtain ⟨d0,d1⟩:=boxA (unhide HB13)
   refine wp_region_call rfl (by kernel_rfl) rfl (by kernel_rfl) (by kernel_rfl) (by kernel_rfl) (by kernel_rfl) ?_
   simp only [List.dropLast,List.cons_append,List.nil_append,nopN]
   repeat (quiet_step ((go_at_call 54;exact Calls.quiet_of_same (unhide HMO _))))
   refine wpQuiet_nil ?_
   rintro w' ⟨nq,rfl⟩
   go_simp
   refine (readSecret_w _ H H os N cb ce ce re ((unhide HC12).drewN nq).wb (by have:=unhide HLO;omega) (unhide HN)).mono ?_
   rintro e w14 ⟨rfl,hp14,hw14⟩
   have HC14:=hide (((unhide HC12).drewN nq).pw hp14 hw14)
   have HBX14:=hide (hp14.c.keep _ _ _ _ (show (w13.drewN nq).heap[g6]?=_ from unhide HBX12) (Or.inl rfl))
   have HB14:=hide (hp14.c.keep _ _ _ _ (show (w13.drewN nq).heap[g11]?=_ from unhide HB13) (Or.inl rfl))
   have HLN:Hid ((os++[(⟨0,3,(ce:Int),0⟩:OpI),⟨0,4,0,0⟩]++readsOps cb ce ce re (os.length+2) N).length≤99000):=by
    rw [List.length_append,List.length_append,readsOps_len]
    have:=unhide HLO
    have:=unhide HN
    show _≤_
    simp only [List.length_cons,List.length_nil]
    omega
   clear hp14 hw14 HC12 HBX12 HB12 HB13 HMO b0 b1 d0 d1
   obtain ⟨d0,d1⟩:=boxA (unhide HB14)
   generalize os++[(⟨0,3,(ce:Int),0⟩:OpI),⟨0,4,0,0⟩]++readsOps cb ce ce re (os.length+2) N=os2 at *
   go_wp2_with fail
   refine (addMark_w w14 H H os2 ce re (unhide HC14).wb (unhide HLN)).mono ?_
   rintro e w15 ⟨rfl,hp15,hw15⟩
   have hC15:=(unhide HC14).pw hp15 hw15
   rw [show os2++addMarkOps ce re os2.length=_ from unhide HTS,←show layO f m N ts (i+1)=_ from unhide HSO,←show layD f m ts (i+1)=_ from unhide HSD] at hC15
   have HC15:=hide hC15
   have HBX15:=hide (hp15.c.keep _ _ _ _ (unhide HBX14) (Or.inl rfl))
   clear hp15 hw15 hC15 HC14 HBX14 HB14 d0 d1
   go_wp2_with fail
   go_roundw
   case rel=>exact ⟨i+1,by rw [unhide HP2],by go_num,unhide HLT,unhide HC15,unhide HBX15⟩
   case measure=>have:=unhide HLT;simp [lenLeft,intOf];omega
  ·have hi2:i=m:=by omega
   subst hi2
   have HC:=hide hC
   have HBX:=hide hbx
   have hmul:i * (14+31 * N)≤4 * (14+31 * 16):=Nat.mul_le_mul (unhide HM) (by have:=unhide HN;omega)
   have HLO:Hid ((layO f i N ts i).length≤3000):=by show _≤_;rw [layO_len];omega
   clear hi hC hbx hlt hmul
   generalize hpe:2 ^ i=p at *
   have HPE:=hide hpe
   clear hpe
   go_wp2_with fail
   refine (unhide HR).mono ?_
   rintro e w7 ⟨rfl,hww⟩
   obtain rfl:wr=w7:=hww.symm
   clear hww HR
   go_wp2_with fail
   refine (write_any wr H H _ 3 5 2 2 (unhide HC).wb (by have:=unhide HLO;omega)).mono ?_
   rintro e w8 ⟨rfl,hp8,hw8⟩
   have HC8:=hide ((unhide HC).pw hp8 hw8)
   have hbx8:=hp8.c.keep _ _ _ _ (unhide HBX) (Or.inl rfl)
   obtain ⟨b0,b1⟩:=boxA hbx8
   clear hp8 hw8 HC HBX hbx8
   go_wp2_with fail
   refine (look_w w8 H H _ 32 ve (unhide HC8).wb (by have:=unhide HLO;simp;omega)).mono ?_
   rintro e w9 ⟨rfl,hp9,hw9⟩
   have HC9:=hide ((unhide HC8).pw hp9 hw9)
   clear hp9 hw9 HC8 b0 b1
   go_wp2_with fail
   refine (store_any w9 H H _ 6 17 (unhide HC9).wb (by have:=unhide HLO;simp [lookOps];omega)).mono ?_
   rintro e w10 ⟨rfl,hp10,hw10⟩
   have hC10:=(unhide HC9).pw hp10 hw10
   clear hp10 hw10 HC9
   have hve:32+2 ^ i=ve:=by rw [unhide HPE];exact unhide HVE
   rw [←hve,code_steps] at hC10
   clear hve
   obtain ⟨cv,k1,k2⟩:=hC10.wb.ex
   obtain ⟨dv,kx⟩:=hC10.lb
   have c1:w10.cell? ⟨H,0,none⟩=some cv:=by rw [cell_of_row _ _ _ _ _ _ k1];rfl
   have c2:w10.cell? ⟨H+1,0,none⟩=some dv:=kx.cell
   obtain ⟨ca,cc,rfl⟩:=k2.form
   obtain ⟨da,dc,rfl⟩:=kx.row.form
   have HK2:=hide k2
   have HKX:=hide kx.row
   have HB:=hide hC10.below
   clear hC10 k1 k2 kx
   go_wp2_with fail
   go_quiet (fail)
   go_wp2_with fail
   go_ret2
   rw [unhide HHW]
   exact ⟨_,_,rfl,below_drewN (unhide HB) _,unhide HK2,unhide HKX⟩
end
end Mc
end Go.Proofs.YtobfpgoepaeknaaGreat
namespace Go.Proofs.YtobfpgoepaeknaaGreat
namespace Mc
theorem sumG_succ:∀ (l:List Bool) (i:Nat),sumG (i+1) l=2 * sumG i l
 | [],_=>rfl
 | b ::l,i=>by
  rw [sumG,sumG,sumG_succ l (i+1),Nat.pow_succ]
  split<;>omega
theorem bits_sum:∀ (l:List Bool),bitsM (sumG 0 l) l.length=l
 | []=>rfl
 | b ::l=>by
  rw [sumG,sumG_succ,List.length_cons,bitsM]
  cases b
  ·have e1:(0+2 * sumG 0 l) % 2=0:=by omega
   have e2:(0+2 * sumG 0 l) / 2=sumG 0 l:=by omega
   simp only [Bool.false_eq_true,if_false,e1,e2,bits_sum l]
   rfl
  ·have e1:(2 ^ 0+2 * sumG 0 l) % 2=1:=by omega
   have e2:(2 ^ 0+2 * sumG 0 l) / 2=sumG 0 l:=by omega
   simp only [if_true,e1,e2,bits_sum l]
   rfl
theorem getD_left {xs ys:List Nat} {k:Nat} (h:k < xs.length):(xs++ys).getD k 0=xs.getD k 0:=by
 rw [List.getD_eq_getElem?_getD,List.getElem?_append_left h,←List.getD_eq_getElem?_getD]
theorem getD_right (xs ys:List Nat) (k:Nat):(xs++ys).getD (xs.length+k) 0=ys.getD k 0:=by
 rw [List.getD_eq_getElem?_getD,List.getElem?_append_right (by omega),Nat.add_sub_cancel_left,←List.getD_eq_getElem?_getD]
theorem getD_map {f:Nat→Nat} {n k:Nat} (h:k < n):((List.range n).map f).getD k 0=f k:=by
 rw [List.getD_eq_getElem?_getD,List.getElem?_map,List.getElem?_range h];rfl
theorem rowsW_get (t:TabN) (b mark:Nat):∀ (n q j:Nat),q < n→j < 1+t.C→(rowsW t b mark n).getD (q * (1+t.C)+j) 0=(rowW t b mark q t.C).getD j 0
 | n+1,q,j,hq,hj=>by
  rw [rowsW]
  by_cases h:q < n
  ·have h1:(q+1) * (1+t.C)≤n * (1+t.C):=Nat.mul_le_mul_right _ h
   rw [Nat.add_mul,Nat.one_mul] at h1
   rw [getD_left (by rw [rowsW_len];omega)]
   exact rowsW_get t b mark n q j h hj
  ·have e:q=n:=by omega
   subst e
   have:=getD_right (rowsW t b mark q) (rowW t b mark q t.C) j
   rwa [rowsW_len] at this
theorem rowW_s (t:TabN) (b mark q:Nat) {c:Nat} (h:c < t.C):(rowW t b mark q t.C).getD (1+c) 0=b+t.nx q c * (1+t.C):=by
 have:=getD_right [if t.gr q then mark else 0] ((List.range t.C).map fun k=>b+t.nx q k * (1+t.C)) c
 unfold rowW
 rw [show (1:Nat)+c=[if t.gr q then mark else 0].length+c from rfl,this,getD_map h]
theorem layD_pre (f:ByteArray) (m:Nat) (ts:Nat→TabN) (i:Nat):∀ k,∃ r,layD f m ts (i+k)=layD f m ts i++r
 | 0=>⟨[],by simp⟩
 | k+1=>by
  obtain ⟨r,hr⟩:=layD_pre f m ts i k
  rw [←Nat.add_assoc,layD]
  exact ⟨r++clsW (ts (i+k)) 256++rowsW (ts (i+k)) (32+(layD f m ts (i+k)++clsW (ts (i+k)) 256).length) (2 ^ (i+k)) (ts (i+k)).S,by rw [hr];simp only [List.append_assoc]⟩
section
variable {f : ByteArray} {m : Nat} {ts : Nat → TabN} {M : List Nat}
theorem layP_get:∀ (i j:Nat) (x:Pt),(layP f m ts i)[j]?=some x→j < i∧x=⟨32+(layD f m ts j).length,32+(layD f m ts j).length+256,ts j⟩
 | 0,j,x,h=>by simp [layP] at h
 | i+1,j,x,h=>by
  rw [layP] at h
  by_cases hj:j < i
  ·rw [List.getElem?_append_left (by rw [layP_len];exact hj)] at h
   have:=layP_get i j x h
   exact ⟨by omega,this.2⟩
  ·rw [List.getElem?_append_right (by rw [layP_len];omega),layP_len] at h
   by_cases hj2:j=i
   ·subst hj2
    simp at h
    exact ⟨by omega,h.symm⟩
   ·rw [List.getElem?_eq_none (by simp;omega)] at h
    cases h
theorem data_ok (hok:∀ i,i < m→(ts i).Ok) (hm:m≤4) (hM:∀ j,j < (layD f m ts m).length→M.getD (32+j) 0=(layD f m ts m).getD j 0):PartsOk M 0 (layP f m ts m):=by
 intro j x hx
 obtain ⟨hj,rfl⟩:=layP_get m j x hx
 have ho:=hok j hj
 have hl:=layD_len f m ts hok hm j (by omega)
 have hl2:=layD_len f m ts hok hm (j+1) (by omega)
 have hle:=hl2
 rw [layD,List.length_append,List.length_append,clsW_len,rowsW_len] at hl2
 obtain ⟨r,hr⟩:=layD_pre f m ts (j+1) (m - (j+1))
 rw [show j+1+(m - (j+1))=m by omega] at hr
 have hpre:∀ k,k < (layD f m ts (j+1)).length→M.getD (32+k) 0=(layD f m ts (j+1)).getD k 0:=fun k hk=>by
  rw [hM k (by rw [hr,List.length_append];omega),hr,getD_left hk]
 have hlen:(layD f m ts (j+1)).length=(layD f m ts j).length+256+(ts j).S * (1+(ts j).C):=by rw [layD,List.length_append,List.length_append,clsW_len,rowsW_len]
 have hrow:∀ q k,q < (ts j).S→k < 1+(ts j).C→M.getD (32+(layD f m ts j).length+256+q * ((ts j).C+1)+k) 0=(rowW (ts j) (32+(layD f m ts j).length+256) (2 ^ j) q (ts j).C).getD k 0:=fun q k hq hk=>by
  have h1:(q+1) * (1+(ts j).C)≤(ts j).S * (1+(ts j).C):=Nat.mul_le_mul_right _ hq
  rw [Nat.add_mul,Nat.one_mul] at h1
  have e:32+(layD f m ts j).length+256+q * ((ts j).C+1)+k=32+((layD f m ts j).length+256+(q * (1+(ts j).C)+k)):=by rw [Nat.add_comm (ts j).C 1];omega
  rw [e,hpre _ (by rw [hlen];omega),layD]
  have h2:=getD_right (layD f m ts j++clsW (ts j) 256) (rowsW (ts j) (32+(layD f m ts j++clsW (ts j) 256).length) (2 ^ j) (ts j).S) (q * (1+(ts j).C)+k)
  have h3:(layD f m ts j++clsW (ts j) 256).length=(layD f m ts j).length+256:=by rw [List.length_append,clsW_len]
  rw [h3] at h2 ⊢
  rw [h2,rowsW_get _ _ _ _ _ _ hq hk,show 32+((layD f m ts j).length+256)=32+(layD f m ts j).length+256 by omega]
 refine ⟨ho,?_,?_,fun b hb=>?_,fun q hq=>?_,fun q c hq hc=>?_⟩
 ·show 32+(layD f m ts j).length+256≤4096
  omega
 ·show 32+(layD f m ts j).length+256+(ts j).S * ((ts j).C+1)≤4096
  rw [Nat.add_comm (ts j).C 1]
  omega
 ·show M.getD (32+(layD f m ts j).length+b) 0=_
  rw [Nat.add_assoc,hpre _ (by rw [hlen];omega),layD,getD_left (by rw [List.length_append,clsW_len];omega),getD_right]
  exact getD_map hb
 ·have:=hrow q 0 hq (by omega)
  rw [Nat.zero_add]
  exact this
 ·have hc':c < (ts j).C:=hc
  have:=hrow q (1+c) hq (by omega)
  rw [rowW_s _ _ _ _ hc',Nat.add_comm 1 (ts j).C] at this
  exact this
theorem verd_ok (hM:∀ j,j < (layD f m ts m).length→M.getD (32+j) 0=(layD f m ts m).getD j 0) (l:List Bool) (hl:l.length=m):M.getD (32+sumG 0 l) 0=(trueF f l).toNat:=by
 obtain ⟨r,hr⟩:=layD_pre f m ts 0 m
 rw [Nat.zero_add] at hr
 have h1:=sumG_lt l 0
 rw [Nat.zero_add,hl] at h1
 have h0:(layD f m ts 0).length=2 ^ m:=by rw [layD,verdW_len]
 have h2:sumG 0 l < 2 ^ m:=by omega
 rw [hM _ (by rw [hr,List.length_append,h0];omega),hr,getD_left (by rw [h0];exact h2),layD,verdW,getD_map h2,←hl,bits_sum]
end
end Mc
end Go.Proofs.YtobfpgoepaeknaaGreat
