/-
  judge.memory: what a secret and the code's data are laid into.
  The code of an image is code, its memory is memory, and what it answers.
  What the code of an image answers.
  judge.Check.
-/
import Derived.Test.YtobfpgoepaeknaaGreatM07
namespace Go.Proofs.YtobfpgoepaeknaaGreat
namespace Mc
open Go.RowKit
attribute [local go_sem ↓] Go.wp_at_zero Go.wp_at_succ
def memW (s:ByteArray):Nat→List Nat
 | 0=>(List.replicate 32 0).set 0 s.size
 | i+1=>(memW s i).set (1+i) (bt s i)
theorem memW_len (s:ByteArray):∀ i,(memW s i).length=32
 | 0=>by rw [memW,List.length_set,List.length_replicate]
 | i+1=>by rw [memW,List.length_set,memW_len s i]
theorem appR {ops:Array Oper} {rest:List Oper} {o:Oper} {a:Act} {W:World} {Q:Exit→Act→World→Prop} (hgd:o.guard=none) (s x:Operand)
  (ho:o.op=.call { callee:=.builtin .append,args:=#[s,x],argTypes:=#[37,37] }) (B:Nat) (v:Value) (xs:List Nat) (hs:a.eval s=v) (hown:NR W B v xs) (g0 cap0 B0:Nat) (ys:List Nat)
  (hx:a.eval x=.slice (some ⟨g0,0,none⟩) ys.length cap0) (hy:NR W B0 (.slice (some ⟨g0,0,none⟩) ys.length cap0) ys) (hp:0 < ys.length) (hlen:xs.length+ys.length≤3000000) (hB:B≤W.heap.size) (H:Nat) (hH:W.heap.size=H)
  (h:∀ g cap w',NR w' B (.slice (some ⟨g,0,none⟩) (xs.length+ys.length) cap) (xs++ys)→W.grownBy w' v.ownBlock→(v.ownBlock=some g∨g=H)→g < w'.heap.size→wpList Tryz.prog ops Q rest (a.put o.dst (.slice (some ⟨g,0,none⟩) (xs.length+ys.length) cap)) w'):wpList Tryz.prog ops Q (o ::rest) a W:=by
 obtain ⟨i,i0,i1,i2,i3⟩:=info_of infoI
 refine wpList_append_lies W hgd s x 37 ho B 3 i (.int .i64 0) 1 8 Tryz.underlying37 i0 i1 i2 i3 rfl (by decide) v xs.length (ncs xs) hs hown ⟨g0,0,none⟩ ys.length cap0 (ncs ys) hx (by rw [ncs_len,Nat.mul_one]) ?_ (ncs_one ys) hp (by unfold maxLen;omega) (by omega) hB H hH ?_
 ·intro j u hj
  have hy':W.ownsRow B0 3 1 (.slice (some ⟨g0,0,none⟩) ys.length cap0) ys.length (ncs ys):=hy
  exact hy'.cells (g:=g0) rfl j u hj
 ·intro g cap w' h1 h2 h3 h4
  refine h g cap w' ?_ h2 h3 h4
  unfold NR
  rw [List.length_append,show ncs (xs++ys)=ncs xs++ncs ys from by unfold ncs;rw [List.map_append]]
  exact h1
set_option maxRecDepth 20000 in
set_option maxHeartbeats 1000000 in
theorem memory_any (w:World) (s:ByteArray) (B0:Nat) (dv:Value) (ds:List Nat) (hd:NR w B0 dv ds) (hp:0 < ds.length) (hl:ds.length≤4000) (hs:s.size≤16) :
  Calls Tryz.prog 56 #[.string s,dv] w fun e w'=>∃ v,e=.returned v∧Below w.heap.size w w'∧NR w' w.heap.size v (memW s s.size++ds):=by
 obtain ⟨gd,capd,rfl⟩:=own_form (show w.ownsRow B0 3 1 dv ds.length (ncs ds) from hd) hp
 obtain ⟨mc,hmk,HNR⟩:∃ mc,(Instr.makeSlice 37 (.int .i64 32) (.int .i64 32)).run Tryz.prog w=.ok (.slice (some ⟨w.heap.size,0,none⟩) 32 32) (w.alloc (.cells mc 3))∧Hid (NR (w.alloc (.cells mc 3)) w.heap.size (.slice (some ⟨w.heap.size,0,none⟩) 32 32) (List.replicate 32 0)):=by
  obtain ⟨i,i0,i1,i2,i3⟩:=info_of infoI
  have:=run_make (P:=Tryz.prog) w 37 3 i (.int .i64 0) Tryz.underlying37 i0 i1 .i64 .i64 32 32 (by decide) (by decide) (by rw [i3];decide) (by decide)
  rw [i2] at this
  exact ⟨_,this,NR.new (n:=32) (Nat.le_refl _) (by unfold maxLen;omega)⟩
 have HB0:Hid (Below w.heap.size w (w.alloc (.cells mc 3))):=(Below.refl _ _).alloc (Nat.le_refl _) _
 have HD:=hide (fun w' (hb:Below w.heap.size w w')=>(Fr.ofBelow hb).own hd (by simp))
 have HR1:Hid (NR ((w.alloc (.cells mc 3)).setCell ⟨w.heap.size,0,none⟩ (.int .i64 (s.size:Int))) w.heap.size (.slice (some ⟨w.heap.size,0,none⟩) 32 32) (memW s 0)):=(unhide HNR).put 0 s.size
 have HB1:Hid (Below w.heap.size w ((w.alloc (.cells mc 3)).setCell ⟨w.heap.size,0,none⟩ (.int .i64 (s.size:Int)))):=below_set (unhide HB0) (Nat.le_refl _)
 obtain ⟨g',cap',he,c0⟩:=(unhide HNR).at (k:=0) (by simp)
 simp only [Value.slice.injEq,Option.some.injEq,Addr.mk.injEq,and_true] at he
 obtain ⟨rfl,-,rfl⟩:=he
 have f0:=own_free (unhide HNR) 0
 have hsI:(s.size:Int)≤16:=by omega
 have HL:=hide hl
 have HP:=hide hp
 clear hd hl hp
 generalize hgH:w.heap.size=H at *
 have HGH:=hide hgH
 clear hgH
 go_enter Tryz.func56,Tryz.ntmps56
 go_wp2_with fail
 generalize (w.alloc (.cells mc 3)).setCell ⟨H,0,none⟩ (.int .i64 (s.size:Int))=w1 at *
 clear hmk HNR HB0 c0 f0
 go_loopw [6] (fun ix wr=>∃ i:Nat,ix=.int .i64 (i:Int)∧Hid (i≤s.size∧Below H w wr∧NR wr H (.slice (some ⟨H,0,none⟩) 32 32) (memW s i))) (fun ix _=>lenLeft s.size ix)
 case atStart=>exact ⟨0,rfl,Nat.zero_le _,unhide HB1,unhide HR1⟩
 case round =>
  clear HB1 HR1
  rename World=>wr
  obtain ⟨i,rfl,HH⟩:=hrel
  obtain ⟨hi,hB,hR⟩:=unhide HH
  clear HH
  by_cases hlt:i < s.size
  ·have hltI:(i:Int) < (s.size:Int):=by omega
   have hi16:(i:Int) < 16:=by omega
   have hb:=bt_at s i
   have hbI:((bt s i:Nat):Int) < 256:=by have:=bt_le s i;omega
   have h0:(0:Int)≤(i:Int):=by omega
   have h1:((i:Int)).toNat=i:=by omega
   have e1:(1:Int)+(i:Int)=((1+i:Nat):Int):=by omega
   have ew:IntKind.i64.wrap ((1+i:Nat):Int)=((1+i:Nat):Int):=wrap_i64 (1+i) (by omega)
   have hx0:(0:Int)≤((1+i:Nat):Int):=by omega
   have hx1:(((1+i:Nat):Int)).toNat=1+i:=by omega
   have hx2:((1+i:Nat):Int) < 32:=by omega
   have hx3:1+i < 32:=by omega
   obtain ⟨g',cap',he,c1⟩:=hR.at (k:=1+i) (by rw [memW_len];omega)
   simp only [Value.slice.injEq,Option.some.injEq,Addr.mk.injEq,and_true] at he
   obtain ⟨rfl,-,rfl⟩:=he
   have f1:=own_free (show wr.ownsRow H 3 1 (.slice (some ⟨H,0,none⟩) 32 32) 32 (ncs (memW s i)) from by have:NR wr H (.slice (some ⟨H,0,none⟩) 32 32) (memW s i):=hR;unfold NR at this;rwa [memW_len] at this) (1+i)
   have HN:Hid (NR (wr.setCell ⟨H,1+i,none⟩ (.int .i64 ((bt s i:Nat):Int))) H (.slice (some ⟨H,0,none⟩) 32 32) (memW s (i+1))):=by
    have h3:NR wr H (.slice (some ⟨H,0,none⟩) (memW s i).length 32) (memW s i):=by rw [memW_len];exact hR
    have:=h3.put (1+i) (bt s i)
    rw [memW_len] at this
    exact this
   have HB2:Hid (Below H w (wr.setCell ⟨H,1+i,none⟩ (.int .i64 ((bt s i:Nat):Int)))):=below_set hB (Nat.le_refl _)
   have HLT:=hide hlt
   clear hi hB hR
   generalize (memW s i).getD (1+i) 0=y at *
   generalize hk:1+i=k at *
   go_wp2_with fail
   go_roundw
   case rel=>exact ⟨i+1,by go_num,unhide HLT,unhide HB2,unhide HN⟩
   case measure=>have:=unhide HLT;simp [lenLeft,intOf];omega
  ·have hi2:i=s.size:=by omega
   subst hi2
   have HB:=hide hB
   have HR:Hid (NR wr H (.slice (some ⟨H,0,none⟩) (memW s s.size).length 32) (memW s s.size)):=by rw [memW_len];exact hR
   have HSZ:Hid (H≤wr.heap.size):=by have:=hB.size;have:=unhide HGH;show _≤_;omega
   have HML:=hide (memW_len s s.size)
   clear hi hB hR hlt
   generalize hms:memW s s.size=ms at *
   have HMS:=hide hms
   clear hms
   go_wp2_with (at_builtin;refine appR rfl (.tmp 30) (.tmp 31) rfl H (.slice (some ⟨H,0,none⟩) 32 32) ms rfl (by have:=unhide HR;rwa [unhide HML] at this) gd capd B0 ds rfl (unhide HD wr (unhide HB)) (unhide HP) (by have:=unhide HL;have:=unhide HML;omega) (unhide HSZ) wr.heap.size rfl ?_;intro g5 cap5 w8 ho hgrow hlies hlt5;have HO:=hide ho;have HB8:=hide (below_grown (unhide HB) hgrow (unhide HSZ) (fun q hq=>by have:H=q:=(by simpa [Value.ownBlock] using hq);omega));clear ho hgrow hlies)
   go_ret
   rw [unhide HMS]
   exact ⟨_,rfl,unhide HB8,unhide HO⟩
end Mc
end Go.Proofs.YtobfpgoepaeknaaGreat
namespace Go.Proofs.YtobfpgoepaeknaaGreat
namespace Mc
section
variable {n : Nat}
theorem look_ok {b e p:Nat} (hb:b≤65535) (he:e≤65535) (hp:p+10≤n):(lookOps b e p).all (fun o=>opOk o (n:Int))=true:=by
 simp [lookOps,opOk,opN,regOk,wordOk]
 omega
theorem readByte_ok {i cb ce rb re p:Nat} (hi:i≤16) (h1:cb≤65535) (h2:ce≤65535) (h3:rb≤65535) (h4:re≤65535) (hp:p+31≤n):(readByteOps i cb ce rb re p).all (fun o=>opOk o (n:Int))=true:=by
 unfold readByteOps
 rw [List.all_append,List.all_append,List.all_append,List.all_append,look_ok h1 h2 (by omega),look_ok h3 h4 (by omega)]
 simp [opOk,opN,regOk,wordOk]
 omega
theorem reads_ok {cb ce rb re p:Nat} (h1:cb≤65535) (h2:ce≤65535) (h3:rb≤65535) (h4:re≤65535):∀ N,N≤16→p+31 * N≤n→(readsOps cb ce rb re p N).all (fun o=>opOk o (n:Int))=true
 | 0,_,_=>rfl
 | N+1,hN,hp=>by
  rw [readsOps,List.all_append,reads_ok h1 h2 h3 h4 N (by omega) (by omega),readByte_ok (by omega) h1 h2 h3 h4 (by omega)]
  rfl
theorem addMark_ok {rb re p:Nat} (h3:rb≤65535) (h4:re≤65535) (hp:p+12≤n):(addMarkOps rb re p).all (fun o=>opOk o (n:Int))=true:=by
 unfold addMarkOps
 rw [List.all_append,List.all_append,look_ok h3 h4 (by omega)]
 rfl
theorem table_ok {cb rb N p:Nat} {t:TabN} (h1:cb+256≤4096) (h2:rb+t.S * (t.C+1)≤4096) (hN:N≤16) (hp:p+(14+31 * N)≤n):(tableOps cb rb t N p).all (fun o=>opOk o (n:Int))=true:=by
 unfold tableOps
 rw [List.all_append,List.all_append,reads_ok (by omega) (by omega) (by omega) (by omega) N hN (by omega),addMark_ok (by omega) (by omega) (by omega)]
 simp [opOk,opN,regOk,wordOk]
 omega
theorem parts_ok {N:Nat} (hN:N≤16):∀ (l:List Pt) (p:Nat),(∀ x∈l,x.cb+256≤4096∧x.rb+x.t.S * (x.t.C+1)≤4096)→p+l.length * (14+31 * N)≤n→(partsOps N p l).all (fun o=>opOk o (n:Int))=true
 | [],_,_,_=>rfl
 | x ::l,p,h,hp=>by
  rw [List.length_cons,Nat.add_mul,Nat.one_mul] at hp
  rw [partsOps,List.all_append,table_ok (h x (by simp)).1 (h x (by simp)).2 hN (by omega),parts_ok hN l _ (fun y hy=>h y (by simp [hy])) (by omega)]
  rfl
end
theorem code_ok {N:Nat} {l:List Pt} {M:List Nat} {i:Nat} (hN:N≤16) (hl:l.length≤4) (h:PartsOk M i l):codeB (codeOf 32 N l)=true:=by
 have hlen:=codeOf_len 32 N l
 have hmul:l.length * (14+31 * N)≤4 * (14+31 * 16):=Nat.mul_le_mul hl (by omega)
 have h2:2 ^ l.length≤2 ^ 4:=Nat.pow_le_pow_right (by decide) hl
 unfold codeB
 rw [Bool.and_eq_true]
 refine ⟨by simp;omega,?_⟩
 rw [hlen]
 unfold codeOf
 rw [List.all_append,List.all_append,parts_ok hN l 4 (fun x hx=>by
  obtain ⟨j,hj⟩:=List.getElem?_of_mem hx
  exact ⟨(h j x hj).ce,(h j x hj).re⟩) (by omega)]
 unfold tailOps headOps
 rw [List.all_append,List.all_append,look_ok (by decide) (by omega) (by omega)]
 simp [opOk,opN,regOk,wordOk]
end Mc
end Go.Proofs.YtobfpgoepaeknaaGreat
namespace Go.Proofs.YtobfpgoepaeknaaGreat
namespace Mc
theorem getD_set_eq {xs:List Nat} {k:Nat} (h:k < xs.length) (x:Nat):(xs.set k x).getD k 0=x:=by
 rw [List.getD_eq_getElem?_getD,List.getElem?_set_self h];rfl
theorem getD_set_ne' {xs:List Nat} {k j:Nat} (h:k≠j) (x:Nat):(xs.set k x).getD j 0=xs.getD j 0:=by
 rw [List.getD_eq_getElem?_getD,List.getElem?_set_ne h,←List.getD_eq_getElem?_getD]
theorem getD_rep (n k:Nat):(List.replicate n 0).getD k 0=0:=by
 rw [List.getD_eq_getElem?_getD,List.getElem?_replicate];split<;>rfl
theorem memW_0 (s:ByteArray):∀ i,(memW s i).getD 0 0=s.size
 | 0=>by rw [memW,getD_set_eq (by simp)]
 | i+1=>by rw [memW,getD_set_ne' (by omega),memW_0 s i]
theorem memW_s (s:ByteArray):∀ i k,i≤16→(memW s i).getD (1+k) 0=if k < i then bt s k else 0
 | 0,k,_=>by rw [memW,getD_set_ne' (by omega),getD_rep,if_neg (by omega)]
 | i+1,k,hi=>by
  rw [memW]
  by_cases h:k=i
  ·subst h
   rw [getD_set_eq (by rw [memW_len];omega),if_pos (by omega)]
  ·rw [getD_set_ne' (by omega),memW_s s i k (by omega)]
   by_cases h2:k < i
   ·rw [if_pos h2,if_pos (by omega)]
   ·rw [if_neg h2,if_neg (by omega)]
theorem memW_le (s:ByteArray) (hs:s.size≤16) {i:Nat} (hi:i≤16) (k:Nat):(memW s i).getD k 0≤65535:=by
 cases k with
 | zero=>rw [memW_0];omega
 | succ k =>
  rw [Nat.add_comm k 1,memW_s s i k hi]
  split
  ·have:=bt_le s k;omega
  ·omega
def btsN (s:ByteArray):List Nat:=(List.range s.size).map (bt s)
theorem btsN_len (s:ByteArray):(btsN s).length=s.size:=by unfold btsN;simp
theorem btsN_get (s:ByteArray) (k:Nat):(btsN s).getD k 0=if k < s.size then bt s k else 0:=by
 by_cases h:k < s.size
 ·rw [if_pos h];exact getD_map h
 ·rw [if_neg h,List.getD_eq_getElem?_getD,List.getElem?_eq_none (by rw [btsN_len];omega)];rfl
theorem mem_rowsW {t:TabN} {b mark x:Nat}:∀ n,x∈rowsW t b mark n→∃ q,q < n∧x∈rowW t b mark q t.C
 | 0,h=>by simp [rowsW] at h
 | n+1,h=>by
  rw [rowsW,List.mem_append] at h
  rcases h with h | h
  ·obtain ⟨q,hq,hx⟩:=mem_rowsW n h
   exact ⟨q,by omega,hx⟩
  ·exact ⟨n,by omega,h⟩
theorem rows_le {t:TabN} (h:t.Ok) {b mark n x:Nat} (hb:b≤5000) (hm:mark≤1000) (hn:n≤t.S) (hx:x∈rowsW t b mark n):x≤65535:=by
 obtain ⟨q,hq,hx⟩:=mem_rowsW n hx
 unfold rowW at hx
 rw [List.mem_append] at hx
 rcases hx with hx | hx
 ·simp at hx
  rw [hx];split<;>omega
 ·obtain ⟨c,hc,rfl⟩:=List.mem_map.1 hx
  have hc':=List.mem_range.1 hc
  have h1:=h.nx q c (by omega) hc'
  have h2:t.nx q c * (1+t.C)≤24 * 25:=Nat.mul_le_mul (by have:=h.s2;omega) (by have:=h.c2;omega)
  omega
theorem layD_le {f:ByteArray} {m:Nat} {ts:Nat→TabN} (h:∀ i,i < m→(ts i).Ok) (hm:m≤4):∀ i,i≤m→∀ x∈layD f m ts i,x≤65535
 | 0,_,x,hx=>by
  rw [layD,verdW] at hx
  obtain ⟨s,_,rfl⟩:=List.mem_map.1 hx
  have:(trueF f (bitsM s m)).toNat≤1:=by cases trueF f (bitsM s m)<;>decide
  omega
 | i+1,hi,x,hx=>by
  have hl:=layD_len f m ts h hm i (by omega)
  have ho:=h i (by omega)
  rw [layD,List.mem_append,List.mem_append] at hx
  rcases hx with (hx | hx) | hx
  ·exact layD_le h hm i (by omega) x hx
  ·obtain ⟨b,hb,rfl⟩:=List.mem_map.1 hx
   have h1:=ho.cl b (List.mem_range.1 hb)
   have:=ho.c2
   omega
  ·refine rows_le ho ?_ ?_ (Nat.le_refl _) hx
   ·rw [List.length_append,clsW_len];omega
   ·have:2 ^ i≤2 ^ 4:=Nat.pow_le_pow_right (by decide) (by omega)
    omega
theorem getD_le_of {xs:List Nat} (h:∀ x∈xs,x≤65535) (k:Nat):xs.getD k 0≤65535:=by
 rw [List.getD_eq_getElem?_getD]
 cases hk:xs[k]? with
 | none=>exact Nat.zero_le _
 | some x=>exact h x (List.mem_of_getElem? hk)
theorem mem0_nat (xs:List Nat):mem0 (xs.map Int.ofNat)=xs++List.replicate (4096 - xs.length) 0:=by
 unfold mem0
 rw [List.length_map,List.map_map]
 congr 1
 conv=>rhs;rw [←List.map_id xs]
 apply List.map_congr_left
 intro x _
 rfl
def ruleT (m:Nat) (ts:Nat→TabN) (bs:List Nat):List Bool:=(List.range m).map fun i=>(ts i).gr ((ts i).run bs)
theorem truths_layP (f:ByteArray) (m:Nat) (ts:Nat→TabN) (bs:List Nat):∀ i,truths bs (layP f m ts i)=ruleT i ts bs
 | 0=>rfl
 | i+1=>by
  have ih:=truths_layP f m ts bs i
  unfold truths ruleT at *
  rw [layP,List.map_append,ih,List.range_succ,List.map_append]
  rfl
theorem judged {f:ByteArray} {m N:Nat} {ts:Nat→TabN} {s:ByteArray} (hok:∀ i,i < m→(ts i).Ok) (hm:m≤4) (hN:N≤16) (hs:s.size≤N) :
  ∃ M:List Nat,M.length=4096∧runAns (codeOf 32 N (layP f m ts m)) ((memW s s.size++layD f m ts m).map Int.ofNat) 2097152=⟨0,M.set 17 (trueF f (ruleT m ts (btsN s))).toNat,codeT 32 N (layP f m ts m)⟩:=by
 have hl:=layD_len f m ts hok hm m (Nat.le_refl _)
 have hlen:(memW s s.size++layD f m ts m).length=32+(layD f m ts m).length:=by rw [List.length_append,memW_len]
 have hM0:=mem0_nat (memW s s.size++layD f m ts m)
 have hget:∀ k,k < 32→(mem0 ((memW s s.size++layD f m ts m).map Int.ofNat)).getD k 0=(memW s s.size).getD k 0:=fun k hk=>by
  rw [hM0,getD_left (by omega),getD_left (by rw [memW_len];exact hk)]
 have hdat:∀ j,j < (layD f m ts m).length→(mem0 ((memW s s.size++layD f m ts m).map Int.ofNat)).getD (32+j) 0=(layD f m ts m).getD j 0:=fun j hj=>by
  rw [hM0,getD_left (by omega)]
  have:=getD_right (memW s s.size) (layD f m ts m) j
  rwa [memW_len] at this
 have hword:∀ k,(memW s s.size++layD f m ts m).getD k 0≤65535:=fun k=>by
  by_cases hk:k < 32
  ·rw [getD_left (by rw [memW_len];exact hk)];exact memW_le s (by omega) (by omega) k
  ·have:=getD_right (memW s s.size) (layD f m ts m) (k - 32)
   rw [memW_len,show 32+(k - 32)=k by omega] at this
   rw [this]
   exact getD_le_of (layD_le hok hm m (Nat.le_refl _)) _
 have hMw:∀ i,(mem0 ((memW s s.size++layD f m ts m).map Int.ofNat)).getD i 0≤65535:=fun i=>by
  rw [hM0]
  by_cases hi:i < (memW s s.size++layD f m ts m).length
  ·rw [getD_left hi];exact hword i
  ·have:=getD_right (memW s s.size++layD f m ts m) (List.replicate (4096 - (memW s s.size++layD f m ts m).length) 0) (i - (memW s s.size++layD f m ts m).length)
   rw [show (memW s s.size++layD f m ts m).length+(i - (memW s s.size++layD f m ts m).length)=i by omega] at this
   rw [this,getD_rep]
   exact Nat.zero_le _
 have hpo:=data_ok hok hm hdat
 have hsec:SecOk (mem0 ((memW s s.size++layD f m ts m).map Int.ofNat)) (btsN s):=⟨fun b hb=>by
  obtain ⟨k,_,rfl⟩:=List.mem_map.1 hb
  exact bt_le s k,fun i hi=>by rw [hget _ (by omega),memW_s s _ _ (by omega),btsN_get]⟩
 have hpl:=layP_len f m ts m
 have h2:2 ^ (layP f m ts m).length≤2 ^ 4:=Nat.pow_le_pow_right (by decide) (by rw [hpl];exact hm)
 obtain ⟨R,hR⟩:=code_runs (M:=mem0 ((memW s s.size++layD f m ts m).map Int.ofNat)) (L:=s.size) (N:=N) (vb:=32) (bs:=btsN s) (l:=layP f m ts m) hMw (by rw [hget 0 (by decide),memW_0]) hsec (btsN_len s) hs hN (by rw [hpl];exact hm) hpo (by omega)
 rw [truths_layP,verd_ok hdat (ruleT m ts (btsN s)) (by simp [ruleT])] at hR
 refine ⟨mem0 ((memW s s.size++layD f m ts m).map Int.ofNat),mem0_len (by rw [List.length_map];omega),?_⟩
 have hcb:=code_ok hN (by rw [hpl];exact hm) hpo
 have hmb:memB ((memW s s.size++layD f m ts m).map Int.ofNat)=true:=by
  unfold memB
  rw [Bool.and_eq_true]
  refine ⟨by rw [List.length_map];simp only [decide_eq_true_eq];omega,?_⟩
  rw [List.all_eq_true]
  intro z hz
  obtain ⟨x,hx,rfl⟩:=List.mem_map.1 hz
  obtain ⟨k,hk⟩:=List.getElem?_of_mem hx
  have:=hword k
  rw [List.getD_eq_getElem?_getD,hk] at this
  simp only [Option.getD_some] at this
  unfold wordOk
  rw [Bool.and_eq_true,decide_eq_true_eq,decide_eq_true_eq]
  exact ⟨Int.natCast_nonneg x,by show (x:Int)≤65535;omega⟩
 have ht:takesE (codeOf 32 N (layP f m ts m)) ((memW s s.size++layD f m ts m).map Int.ofNat) 2097152=0:=by
  unfold takesE
  rw [hcb,hmb]
  rfl
 unfold runAns
 rw [ht,if_neg (by simp)]
 show endAns (runN _ 2097152 (ms0 _))=_
 unfold ms0
 rw [hR]
 rfl
end Mc
end Go.Proofs.YtobfpgoepaeknaaGreat
namespace Go.Proofs.YtobfpgoepaeknaaGreat
namespace Mc
open Go.RowKit
attribute [local go_sem ↓] Go.wp_at_zero Go.wp_at_succ
theorem OR.oat {w:World} {B:Nat} {v:Value} {os:List OpI} (h:OR w B v os):OAt w v os:=by
 obtain ⟨a,c,rfl⟩:=h.form
 refine ⟨a,c,rfl,fun hp=>?_⟩
 have h':w.ownsRow B 209 4 (.slice a os.length c) os.length (oCells os):=h
 obtain ⟨g,cap,e⟩:=own_form h' hp
 simp only [Value.slice.injEq,true_and] at e
 obtain ⟨rfl,rfl⟩:=e
 refine ⟨g,0,rfl,fun j hj=>?_⟩
 have hc:∀ i u,i < 4→(ocs (os.getD j op0))[i]?=some u→w.cell? ⟨g,j * 4+i,none⟩=some u:=fun i u hi hu=>by
  have:=h'.cells (g:=g) rfl (j * 4+i) u (by rw [oCells_get os j i hj hi];exact hu)
  rwa [add0] at this
 rw [Nat.zero_add]
 exact ⟨hc 0 _ (by decide) rfl,hc 1 _ (by decide) rfl,hc 2 _ (by decide) rfl,hc 3 _ (by decide) rfl⟩
theorem layD_pos (f:ByteArray) (m:Nat) (ts:Nat→TabN):0 < (layD f m ts m).length:=by
 obtain ⟨r,hr⟩:=layD_pre f m ts 0 m
 rw [Nat.zero_add] at hr
 rw [hr,List.length_append,layD,verdW_len]
 have:0 < 2 ^ m:=Nat.pow_pos (by decide)
 omega
set_option maxRecDepth 20000 in
set_option maxHeartbeats 1000000 in
theorem Check_long (w:World) (gi N m tc:Nat) (f:ByteArray) (ta:Option Addr) (h:ImB w gi N f ta m tc) (hN:N≤16) (s:ByteArray) (hs:N < s.size) (hs2:s.size≤9223372036854775807) :
  Calls Tryz.prog 34 #[.pointer (some ⟨gi,0,none⟩),.string s] w fun e w'=>e=.returned (.tuple #[.bool false,.slice none 0 0,.int .i64 1])∧Below w.heap.size w w':=by
 have HM:=hide (Most_any w gi N m tc f ta h)
 have hsI:(N:Int) < (s.size:Int):=by omega
 have hs3:(s.size:Int)≤9223372036854775807:=by omega
 have hNI:(N:Int)≤16:=by omega
 clear h
 go_enter Tryz.func34,Tryz.ntmps34
 go_wp2_with fail
 refine (unhide HM).mono ?_
 rintro e w1 ⟨rfl,hww⟩
 rw [hww]
 clear hww
 go_wp2_with fail
 refine bodyPost_ret (v:=.tuple #[.bool false,.slice none 0 0,.int .i64 1]) (by simp [results,Tryz.results34,go_sem]) rfl ?_
 exact ⟨rfl,Below.refl _ _⟩
set_option maxRecDepth 20000 in
set_option maxHeartbeats 1000000 in
theorem Check_ok (w:World) (gi N m tc g:Nat) (f:ByteArray) (ts:Nat→TabN) (h:ImB w gi N f (some ⟨g,0,none⟩) m tc) (ht:Tbs w w.heap.size g m ts) (hm:m≤4) (hf:f.size≤1000) (hN:N≤16) (s:ByteArray) (hs:s.size≤N) :
  Calls Tryz.prog 34 #[.pointer (some ⟨gi,0,none⟩),.string s] w fun e w'=>∃ tv,e=.returned (.tuple #[.bool (trueF f (ruleT m ts (btsN s))),tv,.int .i64 0])∧Below w.heap.size w w'∧NR w' w.heap.size tv (codeT 32 N (layP f m ts m)):=by
 have hok:∀ i,i < m→(ts i).Ok:=fun i hi=>by obtain ⟨_,_,_,hr⟩:=ht.at_ i hi;exact hr.ok
 obtain ⟨M,hM,hans⟩:=judged (f:=f) (s:=s) hok hm hN hs
 have HM:=hide (Most_any w gi N m tc f _ h)
 have HCO:=hide (Code_any w gi N m tc g f ts h ht hm hf hN)
 have HDL:Hid ((layD f m ts m).length≤4000):=by have:=layD_len f m ts hok hm m (Nat.le_refl _);show _≤_;omega
 have HDP:=hide (layD_pos f m ts)
 have hsI:(s.size:Int)≤(N:Int):=by omega
 have hNI:(N:Int)≤16:=by omega
 have HS:Hid (s.size≤16):=by show _≤_;omega
 have HANS:=hide hans
 have HML:=hide hM
 clear h ht hm hf hN hok hans hM hs
 generalize layD f m ts m=ds at *
 generalize codeOf 32 N (layP f m ts m)=os at *
 generalize codeT 32 N (layP f m ts m)=T at *
 generalize trueF f (ruleT m ts (btsN s))=y at *
 go_enter Tryz.func34,Tryz.ntmps34
 go_wp2_with fail
 refine (unhide HM).mono ?_
 rintro e w1 ⟨rfl,hww⟩
 rw [hww]
 clear hww HM
 go_wp2_with fail
 refine (unhide HCO).mono ?_
 rintro e w2 ⟨cv,dv,rfl,hb2,ho2,hn2⟩
 obtain ⟨ca,cc,rfl⟩:=ho2.form
 have HME:=hide (memory_any w2 s w.heap.size dv ds hn2 (unhide HDP) (unhide HDL) (unhide HS))
 obtain ⟨da,dc,rfl⟩:=hn2.form
 have HB2:=hide hb2
 have HO2:=hide ho2
 clear hb2 ho2 hn2 HCO
 go_wp2_with fail
 refine (unhide HME).mono ?_
 rintro e w3 ⟨mv,rfl,hb3,hn3⟩
 have HRU:=hide (Run_any w3 _ mv os _ 2097152 ((unhide HO2).oat.below hb3) hn3.iat)
 rw [show runAns os ((memW s s.size++ds).map Int.ofNat) 2097152=_ from unhide HANS] at HRU
 obtain ⟨ma,mc,rfl⟩:=hn3.form
 have HB3:Hid (Below w.heap.size w w3):=(unhide HB2).trans (hb3.mono (unhide HB2).size)
 clear hb3 hn3 HME HB2 HO2
 generalize memW s s.size++ds=zs at *
 go_wp2_with fail
 refine (unhide HRU).mono ?_
 rintro e w4 ⟨ov,tv,rfl,hr⟩
 obtain ⟨g5,cap5,he,c5⟩:=hr.out.at (k:=17) (by show 17 < (M.set 17 _).length;rw [List.length_set];have:=unhide HML;omega)
 subst he
 have hln:(M.set 17 y.toNat).length=4096:=by rw [List.length_set];exact unhide HML
 have hc5:w4.cell? ⟨g5,17,none⟩=some (.int .i64 ((y.toNat:Nat):Int)):=by
  rw [c5]
  show some (Value.int _ (((M.set 17 y.toNat).getD 17 0:Nat):Int))=_
  rw [getD_set_eq (by have:=unhide HML;omega)]
 obtain ⟨ta,tc5,rfl⟩:=hr.tr.form
 have HTR:Hid (NR w4 w3.heap.size (.slice ta T.length tc5) T):=hr.tr
 have HB4:Hid (Below w.heap.size w w4):=(unhide HB3).trans (hr.below.mono (unhide HB3).size)
 have HSZ:Hid (w.heap.size≤w3.heap.size):=(unhide HB3).size
 simp only [hln]
 clear hr c5 hln HRU HB3 HANS
 cases y
 ·simp only [Bool.toNat_false] at hc5
  go_wp2_with fail
  refine bodyPost_ret (v:=.tuple #[.bool false,.slice ta T.length tc5,.int .i64 0]) (by simp [results,Tryz.results34,go_sem]) rfl ?_
  exact ⟨_,rfl,unhide HB4,(unhide HTR).less (unhide HSZ)⟩
 ·simp only [Bool.toNat_true] at hc5
  go_wp2_with fail
  refine bodyPost_ret (v:=.tuple #[.bool true,.slice ta T.length tc5,.int .i64 0]) (by simp [results,Tryz.results34,go_sem]) rfl ?_
  exact ⟨_,rfl,unhide HB4,(unhide HTR).less (unhide HSZ)⟩
end Mc
end Go.Proofs.YtobfpgoepaeknaaGreat
