/-
  The code that judges a secret, whole: it ends, with the right verdict, and its trace hangs on no secret.
  judge.writer: operations are written one behind the other.
  judge.writer: set, load, store, look, readByte, addMark.
  judge.writer.readSecret; what is asked of a table: States, Classes, Class, Granted, Next.
-/
import Derived.Test.YtobfpgoepaeknaaGreatM03
import Derived.Test.YtobfpgoepaeknaaGreatM02
namespace Go.Proofs.YtobfpgoepaeknaaGreat
namespace Mc
structure Pt where
 cb:Nat
 rb:Nat
 t:TabN
def partsOps (N:Nat):Nat→List Pt→List OpI
 | _,[]=>[]
 | p,x ::l=>tableOps x.cb x.rb x.t N p++partsOps N (p+(14+31 * N)) l
def partsT (N:Nat):List Pt→List Nat
 | []=>[]
 | x ::l=>tableT x.cb x.rb x.t N++partsT N l
def partsN (N:Nat):List Pt→Nat
 | []=>0
 | x ::l=>tableN x.cb x.rb x.t N+partsN N l
def sumG:Nat→List Bool→Nat
 | _,[]=>0
 | i,b ::l=>(if b then 2 ^ i else 0)+sumG (i+1) l
theorem sumG_lt:∀ (l:List Bool) (i:Nat),sumG i l+2 ^ i≤2 ^ (i+l.length)
 | [],i=>by simp [sumG]
 | b ::l,i=>by
  have h:=sumG_lt l (i+1)
  rw [show i+1+l.length=i+(b ::l).length by simp;omega] at h
  have h2:2 ^ (i+1)=2 * 2 ^ i:=by rw [Nat.pow_succ];omega
  unfold sumG
  split<;>omega
theorem partsOps_len (N:Nat):∀ (l:List Pt) (p:Nat),(partsOps N p l).length=l.length * (14+31 * N)
 | [],_=>by simp [partsOps]
 | x ::l,p=>by rw [partsOps,List.length_append,tableOps_len,partsOps_len N l,List.length_cons,Nat.add_mul];omega
def truths (bs:List Nat) (l:List Pt):List Bool:=l.map fun x=>x.t.gr (x.t.run bs)
def PartsOk (M:List Nat) (i:Nat) (l:List Pt):Prop:=∀ j x,l[j]?=some x→AreaOk M x.cb x.rb (2 ^ (i+j)) x.t
theorem parts_any {cs:List OpI} {M:List Nat} {L N:Nat} {bs:List Nat} (hM:∀ i,M.getD i 0≤65535) (hs:SecOk M bs) (hL:bs.length=L) (hN:L≤N) (hN2:N≤16) :
  ∀ (l:List Pt) (p i v:Nat) (g:Nat→Nat) (T:List Nat),PartsOk M i l→i+l.length≤4→v+16 * l.length≤65535→g 0=1→g 1=L→g 2=v→At cs p (partsOps N p l) →
   Goes cs (partsN N l) g M p T (fun g'=>g' 0=1∧g' 1=L∧g' 2=v+sumG i (truths bs l)) M (p+l.length * (14+31 * N)) (T++partsT N l)
 | [],p,i,v,g,T,_,_,_,h0,h1,h2,_=>by
  simp only [partsN,partsT,List.length_nil,Nat.zero_mul,Nat.add_zero,List.append_nil,truths,List.map_nil,sumG]
  exact Goes.zero ⟨h0,h1,h2⟩
 | x ::l,p,i,v,g,T,ho,hi,hv,h0,h1,h2,hc=>by
  obtain ⟨c1,c2⟩:=At.app (show At cs p (tableOps x.cb x.rb x.t N p++partsOps N (p+(14+31 * N)) l) from hc)
  rw [tableOps_len] at c2
  have ha:=ho 0 x rfl
  rw [Nat.add_zero] at ha
  simp only [List.length_cons] at hi hv
  have hm:2 ^ i≤8:=by
   have:2 ^ i≤2 ^ 3:=Nat.pow_le_pow_right (by decide) (by omega)
   simpa using this
  unfold partsN partsT
  refine Goes.next (table_any hM ha hs hL hN hN2 (by omega) h0 h1 h2 c1) fun q hq=>?_
  obtain ⟨q0,q1,q2⟩:=hq
  have ih:=parts_any hM hs hL hN hN2 l (p+(14+31 * N)) (i+1) (v+(if x.t.gr (x.t.run bs) then 2 ^ i else 0)) q (T++tableT x.cb x.rb x.t N) (fun j y hy=>by have:=ho (j+1) y (by simpa using hy);rwa [show i+1+j=i+(j+1) by omega]) (by omega) (by split<;>omega) q0 q1 q2 c2
  rw [List.length_cons,Nat.add_mul,Nat.one_mul,show p+(l.length * (14+31 * N)+(14+31 * N))=p+(14+31 * N)+l.length * (14+31 * N) by omega,←List.append_assoc]
  refine ih.mono fun r hr=>⟨hr.1,hr.2.1,?_⟩
  rw [hr.2.2,Nat.add_assoc];rfl
def headOps (vb:Nat):List OpI:=[opN 0 0 1 0,opN 0 10 0 0,opN 6 1 10 0,opN 0 2 vb 0]
def tailOps (vb ve p:Nat):List OpI:=[opN 3 5 2 2]++(lookOps vb ve (p+1)++[opN 0 10 17 0,opN 7 6 10 0])
def codeOf (vb N:Nat) (l:List Pt):List OpI:=headOps vb++(partsOps N 4 l++tailOps vb (vb+2 ^ l.length) (4+l.length * (14+31 * N)))
def codeT (vb N:Nat) (l:List Pt):List Nat:=[0]++(partsT N l++(lookT vb (vb+2 ^ l.length - vb)++[10017]))
def codeSteps (vb N:Nat) (l:List Pt):Nat:=4+(partsN N l+(1+((3+7 * (vb+2 ^ l.length - vb))+2)))
theorem codeOf_len (vb N:Nat) (l:List Pt):(codeOf vb N l).length=4+l.length * (14+31 * N)+13:=by
 simp [codeOf,headOps,tailOps,lookOps,partsOps_len];omega
theorem at_self (cs:List OpI):At cs 0 cs:=fun i _=>by rw [Nat.zero_add]
theorem code_goes {M:List Nat} {L N vb:Nat} {bs:List Nat} {l:List Pt} (hM:∀ i,M.getD i 0≤65535) (h0:M.getD 0 0=L) (hs:SecOk M bs) (hL:bs.length=L) (hN:L≤N) (hN2:N≤16) (hl:l.length≤4) (ho:PartsOk M 0 l) (hv:vb+2 ^ l.length≤4096) (g:Nat→Nat) :
  Goes (codeOf vb N l) (codeSteps vb N l) g M 0 [] (fun _=>True) (M.set 17 (M.getD (vb+sumG 0 (truths bs l)) 0)) (codeOf vb N l).length (codeT vb N l):=by
 obtain ⟨c1,c2⟩:=At.app (show At (codeOf vb N l) 0 (headOps vb++(partsOps N 4 l++tailOps vb (vb+2 ^ l.length) (4+l.length * (14+31 * N)))) from at_self _)
 obtain ⟨c3,c4⟩:=c2.app
 rw [partsOps_len] at c4
 simp only [headOps,List.length_cons,List.length_nil,Nat.zero_add] at c3 c4
 obtain ⟨t1,t2⟩:=c4.app
 obtain ⟨t3,t4⟩:=t2.app
 simp only [List.length_cons,List.length_nil,Nat.zero_add,lookOps] at t3 t4
 have hlen:=codeOf_len vb N l
 generalize codeOf vb N l=cs at *
 have e0:=c1.get 0 rfl
 have e1:=c1.get 1 rfl
 have e2:=c1.get 2 rfl
 have e3:=c1.get 3 rfl
 have f0:=t1.get 0 rfl
 have f11:=t4.get 0 rfl
 have f12:=t4.get 1 rfl
 have hsum:=sumG_lt (truths bs l) 0
 simp only [truths,List.length_map,Nat.zero_add,Nat.pow_zero] at hsum
 have hp1:0 < 2 ^ l.length:=Nat.pow_pos (by decide)
 unfold codeSteps codeT
 have hd:Goes cs 4 g M 0 [] (fun q=>q 0=1∧q 1=L∧q 2=vb) M 4 [0]:=by
  refine Goes.next (n:=1) (m:=3) (goes_set (post:=fun q=>q=upd g 0 1) e0 rfl) fun q hq=>?_
  subst hq
  refine Goes.next (n:=1) (m:=2) (goes_set (post:=fun q=>q=upd (upd g 0 1) 10 0) e1 rfl) fun q hq=>?_
  subst hq
  have hld:=goes_load (g:=upd (upd g 0 1) 10 0) (M:=M) (p:=2) (T:=[]) (a:=1) (x:=10) (c:=0) (post:=fun q=>q 0=1∧q 1=L) (by decide) (by rw [upd_same];decide) e2 ⟨by rw [upd_ne _ _ (by decide),upd_ne _ _ (by decide),upd_same],by rw [upd_same,upd_same,h0]⟩
  rw [upd_same] at hld
  refine Goes.next (n:=1) (m:=1) hld fun q hq=>?_
  exact goes_set e3 ⟨by rw [upd_ne _ _ (by decide)];exact hq.1,by rw [upd_ne _ _ (by decide)];exact hq.2,upd_same _ _ _⟩
 refine Goes.next hd fun q hq=>?_
 obtain ⟨q0,q1,q2⟩:=hq
 refine Goes.next (parts_any hM hs hL hN hN2 l 4 0 vb q [0] ho (by omega) (by omega) q0 q1 q2 c3) fun q hq=>?_
 obtain ⟨q0,q1,q2⟩:=hq
 generalize hS:vb+sumG 0 (truths bs l)=S at *
 have hS1:vb≤S∧S < vb+2 ^ l.length:=by
  rw [←hS]
  simp only [truths]
  omega
 generalize 4+l.length * (14+31 * N)=p at *
 generalize hT:[0]++partsT N l=T1
 rw [show [0]++(partsT N l++(lookT vb (vb+2 ^ l.length - vb)++[10017]))=T1++lookT vb (vb+2 ^ l.length - vb)++[10017] by rw [←hT];simp [List.append_assoc]]
 refine Goes.next (n:=1) (goes_join (k:=3) (post:=fun r=>r 0=1∧r 5=S) (by decide) (by decide) (by decide) f0 ⟨?_,?_⟩) fun r hr=>?_
 ·rw [upd_ne _ _ (by decide)];exact q0
 ·rw [upd_same,j3,Nat.or_self];exact q2
 refine Goes.next ((look_any (p:=p+1) (by simpa [lookOps] using t3) hM (by omega) hv r hr.1 T1).mono (post2:=fun s=>s 6=M.getD S 0) fun s hs=>?_) fun s h6=>?_
 ·rw [hs.2,hr.2,found,if_pos hS1]
 refine Goes.next (n:=1) (m:=1) (goes_set (post:=fun q=>q 6=M.getD S 0∧q 10=17) f11 ⟨?_,upd_same _ _ _⟩) fun q hq=>?_
 ·rw [upd_ne _ _ (by decide)];exact h6
 have hst:=goes_store (g:=q) (M:=M) (p:=p+1+10+1) (T:=T1++lookT vb (vb+2 ^ l.length - vb)) (a:=6) (x:=10) (c:=0) (post:=fun _=>True) (by decide) (by decide) (by rw [hq.2];decide) f12 trivial
 rw [hq.1,hq.2] at hst
 rw [hlen]
 exact hst
theorem readByteN_le (cb rb:Nat) {t:TabN} (h:t.Ok):readByteN cb (cb+256) rb (rb+t.S * (t.C+1))≤6009:=by
 have h1:t.S * (t.C+1)≤24 * 25:=Nat.mul_le_mul h.s2 (by have:=h.c2;omega)
 unfold readByteN
 omega
theorem tableN_le (cb rb:Nat) {t:TabN} (h:t.Ok) {N:Nat} (hN:N≤16):tableN cb rb t N≤110000:=by
 have h1:t.S * (t.C+1)≤24 * 25:=Nat.mul_le_mul h.s2 (by have:=h.c2;omega)
 have h2:N * readByteN cb (cb+256) rb (rb+t.S * (t.C+1))≤16 * 6009:=Nat.mul_le_mul hN (readByteN_le cb rb h)
 unfold tableN
 omega
theorem partsN_le {M:List Nat} {N:Nat} (hN:N≤16):∀ (l:List Pt) (i:Nat),PartsOk M i l→partsN N l≤110000 * l.length
 | [],_,_=>Nat.zero_le _
 | x ::l,i,h=>by
  have h1:=tableN_le x.cb x.rb (h 0 x rfl).ok hN
  have h2:=partsN_le hN l (i+1) (fun j y hy=>by have:=h (j+1) y (by simpa using hy);rwa [show i+1+j=i+(j+1) by omega])
  rw [partsN,List.length_cons]
  omega
theorem code_runs {M:List Nat} {L N vb:Nat} {bs:List Nat} {l:List Pt} (hM:∀ i,M.getD i 0≤65535) (h0:M.getD 0 0=L) (hs:SecOk M bs) (hL:bs.length=L) (hN:L≤N) (hN2:N≤16) (hl:l.length≤4) (ho:PartsOk M 0 l) (hv:vb+2 ^ l.length≤4096) :
  ∃ R,runN (codeOf vb N l) 2097152 ⟨List.replicate 16 0,M,0,[]⟩=.ok ⟨R,M.set 17 (M.getD (vb+sumG 0 (truths bs l)) 0),(codeOf vb N l).length,codeT vb N l⟩:=by
 obtain ⟨s',g',h1,h2,-⟩:=code_goes hM h0 hs hL hN hN2 hl ho hv (fun _=>0) ⟨List.replicate 16 0,M,0,[]⟩ ⟨by simp,fun j _=>by rw [List.getD_eq_getElem?_getD,List.getElem?_replicate];split<;>rfl,rfl,rfl,rfl⟩
 have hp:=partsN_le hN2 l 0 ho
 have h2l:2 ^ l.length≤16:=by
  have:2 ^ l.length≤2 ^ 4:=Nat.pow_le_pow_right (by decide) hl
  simpa using this
 have hst:codeSteps vb N l≤2097152:=by
  unfold codeSteps
  have:110000 * l.length≤440000:=by omega
  omega
 refine ⟨s'.R,?_⟩
 rw [runN_of_steps _ _ _ _ h1 (by rw [h2.pos];exact Nat.le_refl _) hst]
 obtain ⟨R,M',p',T'⟩:=s'
 have e1:=h2.mem
 have e2:=h2.pos
 have e3:=h2.tr
 simp only at e1 e2 e3
 rw [e1,e2,e3]
end Mc
end Go.Proofs.YtobfpgoepaeknaaGreat
namespace Go.Proofs.YtobfpgoepaeknaaGreat
namespace Mc
open Go.RowKit
attribute [local go_sem ↓] Go.wp_at_zero Go.wp_at_succ
def OR (w:World) (B:Nat) (v:Value) (os:List OpI):Prop:=w.ownsRow B 209 4 v os.length (oCells os)
theorem OR.form {w:World} {B:Nat} {v:Value} {os:List OpI} (h:OR w B v os):(∃ a c,v=.slice a os.length c):=by
 rcases h.2 with ⟨rfl,h0⟩ | ⟨g,cap,cur,rfl,_⟩
 ·exact ⟨none,0,by rw [h0]⟩
 ·exact ⟨_,_,rfl⟩
theorem oCells_snoc (os:List OpI) (o:OpI):oCells (os++[o])=oCells os++ocs o:=by simp [oCells]
theorem app4 {ops:Array Oper} {rest:List Oper} {o:Oper} {a:Act} {W:World} {Q:Exit→Act→World→Prop} (hgd:o.guard=none) (s x:Operand)
  (ho:o.op=.call { callee:=.builtin .append,args:=#[s,x],argTypes:=#[117,117] }) (B:Nat) (v:Value) (os:List OpI) (hs:a.eval s=v) (hown:OR W B v os) (g0:Nat) (y:OpI)
  (hx:a.eval x=.slice (some ⟨g0,0,none⟩) 1 1) (hc:W.heap[g0]?=some (.cells #[.int .i64 y.k,.int .i64 y.a,.int .i64 y.b,.int .i64 y.c] 209 (0,0))) (hlen:os.length≤100000) (hB:B≤W.heap.size) (H:Nat) (hH:W.heap.size=H)
  (h:∀ g cap w',OR w' B (.slice (some ⟨g,0,none⟩) (os.length+1) cap) (os++[y])→W.grownBy w' v.ownBlock→(v.ownBlock=some g∨g=H)→g < w'.heap.size→wpList Tryz.prog ops Q rest (a.put o.dst (.slice (some ⟨g,0,none⟩) (os.length+1) cap)) w'):wpList Tryz.prog ops Q (o ::rest) a W:=by
 obtain ⟨i,i0,i1,i2,i3⟩:=info_of infoO
 refine wpList_append_lies W hgd s x 117 ho B 209 i (.agg #[.int .i64 0,.int .i64 0,.int .i64 0,.int .i64 0]) 4 32 Tryz.underlying117 i0 i1 i2 i3 rfl (by decide) v os.length (oCells os) hs hown ⟨g0,0,none⟩ 1 1 (ocs y) hx rfl ?_ (by intro u hu;simp [ocs] at hu;rcases hu with rfl | rfl | rfl | rfl<;>rfl) (by decide) (by unfold maxLen;omega) (by omega) hB H hH ?_
 ·intro j u hj
  rw [add0,cell_of_row _ _ _ _ _ _ hc]
  simpa [ocs] using hj
 ·intro g cap w' h1 h2 h3 h4
  refine h g cap w' ?_ h2 h3 h4
  unfold OR
  rw [List.length_append,oCells_snoc]
  exact h1
structure PresW (B:Nat) (w w':World):Prop where
 below:Below B w w'
 keep:∀ (k:Nat) (cs:Array Value) (ty:TypeId) (fr:Nat × Nat),w.heap[k]?=some (.cells cs ty fr)→ty≠164→ty≠209→w'.heap[k]?=some (.cells cs ty fr)
theorem PresW.refl (B:Nat) (w:World):PresW B w w:=⟨Below.refl _ _,fun _ _ _ _ h _ _=>h⟩
theorem PresW.trans {B:Nat} {a b c:World} (h:PresW B a b) (k:PresW B b c):PresW B a c:=⟨h.below.trans k.below,fun q cs ty fr h1 h2 h3=>k.keep q cs ty fr (h.keep q cs ty fr h1 h2 h3) h2 h3⟩
theorem PresW.alloc (B:Nat) (w:World) (o:Obj) (h:B≤w.heap.size):PresW B w (w.alloc o):=⟨(Below.refl _ _).alloc h _,fun k cs ty fr h1 _ _=>(Fr.ofAlloc w o).at h1 (by simp)⟩
structure WB (w:World) (B gw:Nat) (os:List OpI):Prop where
 hB:B≤gw
 ex:∃ v,w.heap[gw]?=some (.cells #[v] 164 (0,0))∧OR w B v os
theorem WB.lt {w:World} {B gw:Nat} {os:List OpI} (h:WB w B gw os):gw < w.heap.size:=by obtain ⟨v,h1,_⟩:=h.ex;exact (Array.getElem?_eq_some_iff.1 h1).1
theorem WB.alloc {w:World} {B gw:Nat} {os:List OpI} (h:WB w B gw os) (o:Obj):WB (w.alloc o) B gw os:=by
 obtain ⟨v,h1,h2⟩:=h.ex
 exact ⟨h.hB,v,(Fr.ofAlloc w o).at h1 (by simp),(Fr.ofAlloc w o).own h2 (by simp)⟩
set_option maxRecDepth 20000 in
set_option maxHeartbeats 1000000 in
theorem write_any (w:World) (B gw:Nat) (os:List OpI) (k a b c:Int) (h:WB w B gw os) (hl:os.length≤100000) :
  Calls Tryz.prog 97 #[.pointer (some ⟨gw,0,none⟩),.int .i64 k,.int .i64 a,.int .i64 b,.int .i64 c] w fun e w'=>e=.returned (.tuple #[])∧PresW B w w'∧WB w' B gw (os++[⟨k,a,b,c⟩]):=by
 obtain ⟨v,h1,h2⟩:=h.ex
 have hgw:=h.lt
 obtain ⟨va,vc,rfl⟩:=h2.form
 have c0:w.cell? ⟨gw,0,none⟩=some (.slice va os.length vc):=by rw [cell_of_row _ _ _ _ _ _ h1];rfl
 have H1:=hide h1
 have H2:=hide h2
 have HB:=hide h.hB
 have HL:=hide hl
 have HO:Hid (OR (w.alloc (Obj.cells #[.int .i64 k,.int .i64 a,.int .i64 b,.int .i64 c] 209)) B (.slice va os.length vc) os):=(Fr.ofAlloc w _).own h2 (by simp)
 have HNE:Hid (∀ q,(Value.slice va os.length vc).ownBlock=some q→q≠gw):=own_off h2 h1 (by decide)
 have HRL:Hid (∀ q,(Value.slice va os.length vc).ownBlock=some q→B≤q∧q < w.heap.size):=h2.lt
 have HRT:Hid (∀ q,(Value.slice va os.length vc).ownBlock=some q→∃ cs,w.heap[q]?=some (.cells cs 209 (0,0))):=fun q hq=>by
  rcases h2.2 with ⟨he,_⟩ | ⟨g,cap,cur,he,_,hg,_⟩
  ·rw [he] at hq;cases hq
  ·rw [he] at hq
   have:g=q:=by simpa [Value.ownBlock] using hq
   subst this
   exact ⟨cur,hg⟩
 clear h h1 h2 hl
 go_enter Tryz.func97,Tryz.ntmps97
 go_wp2_with (at_builtin;refine app4 rfl (.tmp 14) (.tmp 20) rfl B _ _ rfl (unhide HO) w.heap.size ⟨k,a,b,c⟩ rfl (heap_alloc_new _ _) (unhide HL) (by have:=unhide HB;simp;omega) (w.heap.size+1) (by simp) ?_;intro g5 cap5 w8 ho hgrow hlies hlt5;have hgb:w8.heap[gw]?=_:=(Fr.ofGrown hgrow).at ((Fr.ofAlloc w _).at (unhide H1) (by simp)) (fun hm=>unhide HNE _ (Option.mem_toList.1 hm) rfl);have c9:w8.cell? ⟨gw,0,none⟩=some (.slice va os.length vc):=(by rw [cell_of_row _ _ _ _ _ _ hgb];rfl);have f9:w8.frozen? ⟨gw,0,none⟩=false:=frozen_of_row _ _ _ _ _ hgb;have HGB:=hide hgb;have HOR:=hide ho;have HGR:Hid ((w.alloc (Obj.cells #[.int .i64 k,.int .i64 a,.int .i64 b,.int .i64 c] 209)).grownBy w8 (Value.slice va os.length vc).ownBlock):=hgrow;have HLI:Hid ((Value.slice va os.length vc).ownBlock=some g5∨g5=w.heap.size+1):=hlies;clear ho hgrow hlies hgb)
 go_end0
 have hB:=unhide HB
 have hg5:g5≠gw:=by
  rcases unhide HLI with e | e
  ·exact unhide HNE _ e
  ·omega
 refine ⟨rfl,⟨?_,fun q cs ty fr hq n1 n2=>?_⟩,hB,.slice (some ⟨g5,0,none⟩) (os.length+1) cap5,?_,?_⟩
 ·exact below_set (below_grown ((Below.refl B w).alloc (by omega) _) (unhide HGR) (by simp;omega) (fun q hq=>(unhide HRL q hq).1)) hB
 ·have hne1:q≠gw:=by rintro rfl;rw [unhide H1] at hq;simp at hq;exact n1 hq.2.1.symm
  have hne2:q∉(Value.slice va os.length vc).ownBlock.toList:=fun hm=>by
   obtain ⟨cs2,h2⟩:=unhide HRT q (Option.mem_toList.1 hm)
   rw [h2] at hq;simp at hq;exact n2 hq.2.1.symm
  exact (Fr.ofSet _ _ _ _).at ((Fr.ofGrown (unhide HGR)).at ((Fr.ofAlloc w _).at hq (by simp)) hne2) (by simpa using hne1)
 ·rw [heap_setCell_same _ _ _ _ _ _ (unhide HGB)];rfl
 ·exact (Fr.ofSet _ _ _ _).own (unhide HOR) (fun q hq=>by
   have:g5=q:=by simpa [Value.ownBlock] using hq
   rw [←this];simpa using hg5)
end Mc
end Go.Proofs.YtobfpgoepaeknaaGreat
namespace Go.Proofs.YtobfpgoepaeknaaGreat
namespace Mc
open Go.RowKit
attribute [local go_sem ↓] Go.wp_at_zero Go.wp_at_succ
theorem boxA {w:World} {g:Nat} {x y:Int} (h:w.heap[g]?=some (.cells #[.int .i64 x,.int .i64 y] 168 (0,0))):w.cell? ⟨g,0,none⟩=some (.int .i64 x)∧w.cell? ⟨g,1,none⟩=some (.int .i64 y) :=
 ⟨by rw [cell_of_row _ _ _ _ _ _ h];rfl,by rw [cell_of_row _ _ _ _ _ _ h];rfl⟩
theorem WB.code {w:World} {B gw:Nat} {os:List OpI} (h:WB w B gw os):∃ a c,w.cell? ⟨gw,0,none⟩=some (.slice a os.length c):=by
 obtain ⟨v,h1,h2⟩:=h.ex
 obtain ⟨a,c,rfl⟩:=h2.form
 exact ⟨a,c,by rw [cell_of_row _ _ _ _ _ _ h1];rfl⟩
theorem WB.to {w:World} {B gw:Nat} {os os':List OpI} (h:WB w B gw os) (e:os=os'):WB w B gw os':=e ▸ h
theorem lookOps_len (b e p:Nat):(lookOps b e p).length=10:=rfl
def arV (x y:Nat):Value:=.agg #[.int .i64 (x:Int),.int .i64 (y:Int)]
set_option maxRecDepth 20000 in
set_option maxHeartbeats 1000000 in
theorem set_any (w:World) (B gw:Nat) (os:List OpI) (a b:Int) (h:WB w B gw os) (hl:os.length≤99999) :
  Calls Tryz.prog 89 #[.pointer (some ⟨gw,0,none⟩),.int .i64 a,.int .i64 b] w fun e w'=>e=.returned (.tuple #[])∧PresW B w w'∧WB w' B gw (os++[⟨0,a,b,0⟩]):=by
 have hgw:=h.lt
 have HSZ:Hid (B≤w.heap.size):=by have:=h.hB;show _≤_;omega
 have HP0:Hid (PresW B w w):=PresW.refl B w
 have HW0:=hide h
 have HL:=hide hl
 clear h hl
 go_enter Tryz.func89,Tryz.ntmps89
 go_wp2_with fail
 refine (write_any w B gw _ _ _ _ _ (unhide HW0) (by have:=unhide HL;omega)).mono ?_
 rintro e w1 ⟨rfl,hp,hw⟩
 have HP1:=hide ((unhide HP0).trans hp)
 have HW1:=hide hw
 clear hp hw
 go_wp2_with fail
 go_end0
 exact ⟨rfl,unhide HP1,(unhide HW1).to rfl⟩
set_option maxRecDepth 20000 in
set_option maxHeartbeats 1000000 in
theorem load_any (w:World) (B gw:Nat) (os:List OpI) (a b:Int) (h:WB w B gw os) (hl:os.length≤99990) :
  Calls Tryz.prog 90 #[.pointer (some ⟨gw,0,none⟩),.int .i64 a,.int .i64 b] w fun e w'=>e=.returned (.tuple #[])∧PresW B w w'∧WB w' B gw (os++[⟨0,10,b,0⟩,⟨6,a,10,0⟩]):=by
 have hgw:=h.lt
 have HSZ:Hid (B≤w.heap.size):=by have:=h.hB;show _≤_;omega
 have HP0:Hid (PresW B w w):=PresW.refl B w
 have HW0:=hide h
 have HL:=hide hl
 clear h hl
 go_enter Tryz.func90,Tryz.ntmps90
 go_wp2_with fail
 refine (set_any w B gw _ _ _ (unhide HW0) (by have:=unhide HL;omega)).mono ?_
 rintro e w1 ⟨rfl,hp,hw⟩
 have HP1:=hide ((unhide HP0).trans hp)
 have HW1:=hide hw
 clear hp hw
 go_wp2_with fail
 refine (write_any w1 B gw _ _ _ _ _ (unhide HW1) (by have:=unhide HL;simp;omega)).mono ?_
 rintro e w2 ⟨rfl,hp,hw⟩
 have HP2:=hide ((unhide HP1).trans hp)
 have HW2:=hide hw
 clear hp hw
 go_wp2_with fail
 go_end0
 exact ⟨rfl,unhide HP2,(unhide HW2).to (by simp)⟩
set_option maxRecDepth 20000 in
set_option maxHeartbeats 1000000 in
theorem store_any (w:World) (B gw:Nat) (os:List OpI) (a b:Int) (h:WB w B gw os) (hl:os.length≤99990) :
  Calls Tryz.prog 99 #[.pointer (some ⟨gw,0,none⟩),.int .i64 a,.int .i64 b] w fun e w'=>e=.returned (.tuple #[])∧PresW B w w'∧WB w' B gw (os++[⟨0,10,b,0⟩,⟨7,a,10,0⟩]):=by
 have hgw:=h.lt
 have HSZ:Hid (B≤w.heap.size):=by have:=h.hB;show _≤_;omega
 have HP0:Hid (PresW B w w):=PresW.refl B w
 have HW0:=hide h
 have HL:=hide hl
 clear h hl
 go_enter Tryz.func99,Tryz.ntmps99
 go_wp2_with fail
 refine (set_any w B gw _ _ _ (unhide HW0) (by have:=unhide HL;omega)).mono ?_
 rintro e w1 ⟨rfl,hp,hw⟩
 have HP1:=hide ((unhide HP0).trans hp)
 have HW1:=hide hw
 clear hp hw
 go_wp2_with fail
 refine (write_any w1 B gw _ _ _ _ _ (unhide HW1) (by have:=unhide HL;simp;omega)).mono ?_
 rintro e w2 ⟨rfl,hp,hw⟩
 have HP2:=hide ((unhide HP1).trans hp)
 have HW2:=hide hw
 clear hp hw
 go_wp2_with fail
 go_end0
 exact ⟨rfl,unhide HP2,(unhide HW2).to (by simp)⟩
set_option maxRecDepth 20000 in
set_option maxHeartbeats 1000000 in
theorem look_w (w:World) (B gw:Nat) (os:List OpI) (x y:Nat) (h:WB w B gw os) (hl:os.length≤99900) :
  Calls Tryz.prog 98 #[.pointer (some ⟨gw,0,none⟩),arV x y] w fun e w'=>e=.returned (.tuple #[])∧PresW B w w'∧WB w' B gw (os++lookOps x y os.length):=by
 have hgw:=h.lt
 have HSZ:Hid (B≤w.heap.size):=by have:=h.hB;show _≤_;omega
 have hb0:=h.alloc (Obj.cells #[.int .i64 (x:Int),.int .i64 (y:Int)] 168)
 have HP0:Hid (PresW B w (w.alloc (Obj.cells #[.int .i64 (x:Int),.int .i64 (y:Int)] 168))):=PresW.alloc B w _ (unhide HSZ)
 have HX0:Hid ((w.alloc (Obj.cells #[.int .i64 (x:Int),.int .i64 (y:Int)] 168)).heap[w.heap.size]?=some (Obj.cells #[.int .i64 (x:Int),.int .i64 (y:Int)] 168 (0,0))):=heap_alloc_new _ _
 have HW0:=hide hb0
 have HL:=hide hl
 clear h hl hb0
 unfold arV
 go_enter Tryz.func98,Tryz.ntmps98
 go_wp2_with fail
 refine (set_any (w.alloc (Obj.cells #[.int .i64 (x:Int),.int .i64 (y:Int)] 168)) B gw _ _ _ (unhide HW0) (by have:=unhide HL;omega)).mono ?_
 rintro e w1 ⟨rfl,hp,hw⟩
 have HP1:=hide ((unhide HP0).trans hp)
 have HW1:=hide hw
 have HX0:=hide (hp.keep _ _ _ _ (unhide HX0) (by decide) (by decide))
 clear hp hw
 obtain ⟨x10,y10⟩:=boxA (unhide HX0)
 go_wp2_with fail
 refine (set_any w1 B gw _ _ _ (unhide HW1) (by have:=unhide HL;simp;omega)).mono ?_
 rintro e w2 ⟨rfl,hp,hw⟩
 have HP2:=hide ((unhide HP1).trans hp)
 have HW2:=hide hw
 have HX0:=hide (hp.keep _ _ _ _ (unhide HX0) (by decide) (by decide))
 clear hp hw x10 y10
 obtain ⟨x20,y20⟩:=boxA (unhide HX0)
 go_wp2_with fail
 refine (set_any w2 B gw _ _ _ (unhide HW2) (by have:=unhide HL;simp;omega)).mono ?_
 rintro e w3 ⟨rfl,hp,hw⟩
 have HP3:=hide ((unhide HP2).trans hp)
 have HW3:=hide hw
 have HX0:=hide (hp.keep _ _ _ _ (unhide HX0) (by decide) (by decide))
 clear hp hw x20 y20
 obtain ⟨x30,y30⟩:=boxA (unhide HX0)
 obtain ⟨ca,cc,hcode⟩:=(unhide HW3).code
 go_wp2_with fail
 refine (write_any w3 B gw _ _ _ _ _ (unhide HW3) (by have:=unhide HL;simp;omega)).mono ?_
 rintro e w4 ⟨rfl,hp,hw⟩
 have HP4:=hide ((unhide HP3).trans hp)
 have HW4:=hide hw
 have HX0:=hide (hp.keep _ _ _ _ (unhide HX0) (by decide) (by decide))
 clear hp hw x30 y30
 obtain ⟨x40,y40⟩:=boxA (unhide HX0)
 go_wp2_with fail
 refine (write_any w4 B gw _ _ _ _ _ (unhide HW4) (by have:=unhide HL;simp;omega)).mono ?_
 rintro e w5 ⟨rfl,hp,hw⟩
 have HP5:=hide ((unhide HP4).trans hp)
 have HW5:=hide hw
 have HX0:=hide (hp.keep _ _ _ _ (unhide HX0) (by decide) (by decide))
 clear hp hw x40 y40
 obtain ⟨x50,y50⟩:=boxA (unhide HX0)
 go_wp2_with fail
 refine (write_any w5 B gw _ _ _ _ _ (unhide HW5) (by have:=unhide HL;simp;omega)).mono ?_
 rintro e w6 ⟨rfl,hp,hw⟩
 have HP6:=hide ((unhide HP5).trans hp)
 have HW6:=hide hw
 have HX0:=hide (hp.keep _ _ _ _ (unhide HX0) (by decide) (by decide))
 clear hp hw x50 y50
 obtain ⟨x60,y60⟩:=boxA (unhide HX0)
 go_wp2_with fail
 refine (write_any w6 B gw _ _ _ _ _ (unhide HW6) (by have:=unhide HL;simp;omega)).mono ?_
 rintro e w7 ⟨rfl,hp,hw⟩
 have HP7:=hide ((unhide HP6).trans hp)
 have HW7:=hide hw
 have HX0:=hide (hp.keep _ _ _ _ (unhide HX0) (by decide) (by decide))
 clear hp hw x60 y60
 obtain ⟨x70,y70⟩:=boxA (unhide HX0)
 go_wp2_with fail
 refine (write_any w7 B gw _ _ _ _ _ (unhide HW7) (by have:=unhide HL;simp;omega)).mono ?_
 rintro e w8 ⟨rfl,hp,hw⟩
 have HP8:=hide ((unhide HP7).trans hp)
 have HW8:=hide hw
 have HX0:=hide (hp.keep _ _ _ _ (unhide HX0) (by decide) (by decide))
 clear hp hw x70 y70
 obtain ⟨x80,y80⟩:=boxA (unhide HX0)
 go_wp2_with fail
 refine (write_any w8 B gw _ _ _ _ _ (unhide HW8) (by have:=unhide HL;simp;omega)).mono ?_
 rintro e w9 ⟨rfl,hp,hw⟩
 have HP9:=hide ((unhide HP8).trans hp)
 have HW9:=hide hw
 have HX0:=hide (hp.keep _ _ _ _ (unhide HX0) (by decide) (by decide))
 clear hp hw x80 y80
 obtain ⟨x90,y90⟩:=boxA (unhide HX0)
 go_wp2_with fail
 refine (write_any w9 B gw _ _ _ _ _ (unhide HW9) (by have:=unhide HL;simp;omega)).mono ?_
 rintro e w10 ⟨rfl,hp,hw⟩
 have HP10:=hide ((unhide HP9).trans hp)
 have HW10:=hide hw
 have HX0:=hide (hp.keep _ _ _ _ (unhide HX0) (by decide) (by decide))
 clear hp hw x90 y90
 go_wp2_with fail
 go_end0
 exact ⟨rfl,unhide HP10,(unhide HW10).to (by simp [lookOps,opN])⟩
set_option maxRecDepth 20000 in
set_option maxHeartbeats 1000000 in
theorem readByte_w (w:World) (B gw:Nat) (os:List OpI) (i x y u v:Nat) (hi:(i:Int)≤100) (h:WB w B gw os) (hl:os.length≤99000) :
  Calls Tryz.prog 139 #[.pointer (some ⟨gw,0,none⟩),.int .i64 (i:Int),arV x y,arV u v] w fun e w'=>e=.returned (.tuple #[])∧PresW B w w'∧WB w' B gw (os++readByteOps i x y u v os.length):=by
 have hgw:=h.lt
 have HSZ:Hid (B≤w.heap.size):=by have:=h.hB;show _≤_;omega
 have hb0:=h.alloc (Obj.cells #[.int .i64 (x:Int),.int .i64 (y:Int)] 168)
 have hb1:=hb0.alloc (Obj.cells #[.int .i64 (u:Int),.int .i64 (v:Int)] 168)
 have HP0:Hid (PresW B w ((w.alloc (Obj.cells #[.int .i64 (x:Int),.int .i64 (y:Int)] 168)).alloc (Obj.cells #[.int .i64 (u:Int),.int .i64 (v:Int)] 168))):=(PresW.alloc B w _ (unhide HSZ)).trans (PresW.alloc B _ _ (by have:=unhide HSZ;simp;omega))
 have HX0:Hid (((w.alloc (Obj.cells #[.int .i64 (x:Int),.int .i64 (y:Int)] 168)).alloc (Obj.cells #[.int .i64 (u:Int),.int .i64 (v:Int)] 168)).heap[w.heap.size]?=some (Obj.cells #[.int .i64 (x:Int),.int .i64 (y:Int)] 168 (0,0))):=heap_alloc2_old _ _ _
 have HX1:Hid (((w.alloc (Obj.cells #[.int .i64 (x:Int),.int .i64 (y:Int)] 168)).alloc (Obj.cells #[.int .i64 (u:Int),.int .i64 (v:Int)] 168)).heap[w.heap.size+1]?=some (Obj.cells #[.int .i64 (u:Int),.int .i64 (v:Int)] 168 (0,0))):=heap_alloc2_new _ _ _
 have HW0:=hide hb1
 have HL:=hide hl
 clear h hl hb0 hb1
 unfold arV
 go_enter Tryz.func139,Tryz.ntmps139
 go_wp2_with fail
 refine (set_any ((w.alloc (Obj.cells #[.int .i64 (x:Int),.int .i64 (y:Int)] 168)).alloc (Obj.cells #[.int .i64 (u:Int),.int .i64 (v:Int)] 168)) B gw _ _ _ (unhide HW0) (by have:=unhide HL;omega)).mono ?_
 rintro e w1 ⟨rfl,hp,hw⟩
 have HP1:=hide ((unhide HP0).trans hp)
 have HW1:=hide hw
 have HX0:=hide (hp.keep _ _ _ _ (unhide HX0) (by decide) (by decide))
 have HX1:=hide (hp.keep _ _ _ _ (unhide HX1) (by decide) (by decide))
 clear hp hw
 obtain ⟨x10,y10⟩:=boxA (unhide HX0)
 obtain ⟨x11,y11⟩:=boxA (unhide HX1)
 go_wp2_with fail
 refine (write_any w1 B gw _ _ _ _ _ (unhide HW1) (by have:=unhide HL;simp;omega)).mono ?_
 rintro e w2 ⟨rfl,hp,hw⟩
 have HP2:=hide ((unhide HP1).trans hp)
 have HW2:=hide hw
 have HX0:=hide (hp.keep _ _ _ _ (unhide HX0) (by decide) (by decide))
 have HX1:=hide (hp.keep _ _ _ _ (unhide HX1) (by decide) (by decide))
 clear hp hw x10 y10 x11 y11
 obtain ⟨x20,y20⟩:=boxA (unhide HX0)
 obtain ⟨x21,y21⟩:=boxA (unhide HX1)
 go_wp2_with fail
 refine (write_any w2 B gw _ _ _ _ _ (unhide HW2) (by have:=unhide HL;simp;omega)).mono ?_
 rintro e w3 ⟨rfl,hp,hw⟩
 have HP3:=hide ((unhide HP2).trans hp)
 have HW3:=hide hw
 have HX0:=hide (hp.keep _ _ _ _ (unhide HX0) (by decide) (by decide))
 have HX1:=hide (hp.keep _ _ _ _ (unhide HX1) (by decide) (by decide))
 clear hp hw x20 y20 x21 y21
 obtain ⟨x30,y30⟩:=boxA (unhide HX0)
 obtain ⟨x31,y31⟩:=boxA (unhide HX1)
 go_wp2_with fail
 refine (load_any w3 B gw _ _ _ (unhide HW3) (by have:=unhide HL;simp;omega)).mono ?_
 rintro e w4 ⟨rfl,hp,hw⟩
 have HP4:=hide ((unhide HP3).trans hp)
 have HW4:=hide hw
 have HX0:=hide (hp.keep _ _ _ _ (unhide HX0) (by decide) (by decide))
 have HX1:=hide (hp.keep _ _ _ _ (unhide HX1) (by decide) (by decide))
 clear hp hw x30 y30 x31 y31
 obtain ⟨x40,y40⟩:=boxA (unhide HX0)
 obtain ⟨x41,y41⟩:=boxA (unhide HX1)
 go_wp2_with fail
 refine (set_any w4 B gw _ _ _ (unhide HW4) (by have:=unhide HL;simp;omega)).mono ?_
 rintro e w5 ⟨rfl,hp,hw⟩
 have HP5:=hide ((unhide HP4).trans hp)
 have HW5:=hide hw
 have HX0:=hide (hp.keep _ _ _ _ (unhide HX0) (by decide) (by decide))
 have HX1:=hide (hp.keep _ _ _ _ (unhide HX1) (by decide) (by decide))
 clear hp hw x40 y40 x41 y41
 obtain ⟨x50,y50⟩:=boxA (unhide HX0)
 obtain ⟨x51,y51⟩:=boxA (unhide HX1)
 go_wp2_with fail
 refine (write_any w5 B gw _ _ _ _ _ (unhide HW5) (by have:=unhide HL;simp;omega)).mono ?_
 rintro e w6 ⟨rfl,hp,hw⟩
 have HP6:=hide ((unhide HP5).trans hp)
 have HW6:=hide hw
 have HX0:=hide (hp.keep _ _ _ _ (unhide HX0) (by decide) (by decide))
 have HX1:=hide (hp.keep _ _ _ _ (unhide HX1) (by decide) (by decide))
 clear hp hw x50 y50 x51 y51
 obtain ⟨x60,y60⟩:=boxA (unhide HX0)
 obtain ⟨x61,y61⟩:=boxA (unhide HX1)
 go_wp2_with fail
 refine (look_w w6 B gw _ _ _ (unhide HW6) (by have:=unhide HL;simp;omega)).mono ?_
 rintro e w7 ⟨rfl,hp,hw⟩
 have HP7:=hide ((unhide HP6).trans hp)
 have HW7:=hide hw
 have HX0:=hide (hp.keep _ _ _ _ (unhide HX0) (by decide) (by decide))
 have HX1:=hide (hp.keep _ _ _ _ (unhide HX1) (by decide) (by decide))
 clear hp hw x60 y60 x61 y61
 obtain ⟨x70,y70⟩:=boxA (unhide HX0)
 obtain ⟨x71,y71⟩:=boxA (unhide HX1)
 go_wp2_with fail
 refine (write_any w7 B gw _ _ _ _ _ (unhide HW7) (by have:=unhide HL;simp [lookOps_len];omega)).mono ?_
 rintro e w8 ⟨rfl,hp,hw⟩
 have HP8:=hide ((unhide HP7).trans hp)
 have HW8:=hide hw
 have HX0:=hide (hp.keep _ _ _ _ (unhide HX0) (by decide) (by decide))
 have HX1:=hide (hp.keep _ _ _ _ (unhide HX1) (by decide) (by decide))
 clear hp hw x70 y70 x71 y71
 obtain ⟨x80,y80⟩:=boxA (unhide HX0)
 obtain ⟨x81,y81⟩:=boxA (unhide HX1)
 go_wp2_with fail
 refine (look_w w8 B gw _ _ _ (unhide HW8) (by have:=unhide HL;simp [lookOps_len];omega)).mono ?_
 rintro e w9 ⟨rfl,hp,hw⟩
 have HP9:=hide ((unhide HP8).trans hp)
 have HW9:=hide hw
 have HX0:=hide (hp.keep _ _ _ _ (unhide HX0) (by decide) (by decide))
 have HX1:=hide (hp.keep _ _ _ _ (unhide HX1) (by decide) (by decide))
 clear hp hw x80 y80 x81 y81
 obtain ⟨x90,y90⟩:=boxA (unhide HX0)
 obtain ⟨x91,y91⟩:=boxA (unhide HX1)
 go_wp2_with fail
 refine (write_any w9 B gw _ _ _ _ _ (unhide HW9) (by have:=unhide HL;simp [lookOps_len];omega)).mono ?_
 rintro e w10 ⟨rfl,hp,hw⟩
 have HP10:=hide ((unhide HP9).trans hp)
 have HW10:=hide hw
 have HX0:=hide (hp.keep _ _ _ _ (unhide HX0) (by decide) (by decide))
 have HX1:=hide (hp.keep _ _ _ _ (unhide HX1) (by decide) (by decide))
 clear hp hw x90 y90 x91 y91
 obtain ⟨x100,y100⟩:=boxA (unhide HX0)
 obtain ⟨x101,y101⟩:=boxA (unhide HX1)
 go_wp2_with fail
 refine (write_any w10 B gw _ _ _ _ _ (unhide HW10) (by have:=unhide HL;simp [lookOps_len];omega)).mono ?_
 rintro e w11 ⟨rfl,hp,hw⟩
 have HP11:=hide ((unhide HP10).trans hp)
 have HW11:=hide hw
 have HX0:=hide (hp.keep _ _ _ _ (unhide HX0) (by decide) (by decide))
 have HX1:=hide (hp.keep _ _ _ _ (unhide HX1) (by decide) (by decide))
 clear hp hw x100 y100 x101 y101
 obtain ⟨x110,y110⟩:=boxA (unhide HX0)
 obtain ⟨x111,y111⟩:=boxA (unhide HX1)
 go_wp2_with fail
 refine (write_any w11 B gw _ _ _ _ _ (unhide HW11) (by have:=unhide HL;simp [lookOps_len];omega)).mono ?_
 rintro e w12 ⟨rfl,hp,hw⟩
 have HP12:=hide ((unhide HP11).trans hp)
 have HW12:=hide hw
 have HX0:=hide (hp.keep _ _ _ _ (unhide HX0) (by decide) (by decide))
 have HX1:=hide (hp.keep _ _ _ _ (unhide HX1) (by decide) (by decide))
 clear hp hw x110 y110 x111 y111
 go_wp2_with fail
 go_end0
 exact ⟨rfl,unhide HP12,(unhide HW12).to (by simp [readByteOps,opN,lookOps_len])⟩
set_option maxRecDepth 20000 in
set_option maxHeartbeats 1000000 in
theorem addMark_w (w:World) (B gw:Nat) (os:List OpI) (x y:Nat) (h:WB w B gw os) (hl:os.length≤99000) :
  Calls Tryz.prog 96 #[.pointer (some ⟨gw,0,none⟩),arV x y] w fun e w'=>e=.returned (.tuple #[])∧PresW B w w'∧WB w' B gw (os++addMarkOps x y os.length):=by
 have hgw:=h.lt
 have HSZ:Hid (B≤w.heap.size):=by have:=h.hB;show _≤_;omega
 have hb0:=h.alloc (Obj.cells #[.int .i64 (x:Int),.int .i64 (y:Int)] 168)
 have HP0:Hid (PresW B w (w.alloc (Obj.cells #[.int .i64 (x:Int),.int .i64 (y:Int)] 168))):=PresW.alloc B w _ (unhide HSZ)
 have HX0:Hid ((w.alloc (Obj.cells #[.int .i64 (x:Int),.int .i64 (y:Int)] 168)).heap[w.heap.size]?=some (Obj.cells #[.int .i64 (x:Int),.int .i64 (y:Int)] 168 (0,0))):=heap_alloc_new _ _
 have HW0:=hide hb0
 have HL:=hide hl
 clear h hl hb0
 unfold arV
 go_enter Tryz.func96,Tryz.ntmps96
 go_wp2_with fail
 refine (write_any (w.alloc (Obj.cells #[.int .i64 (x:Int),.int .i64 (y:Int)] 168)) B gw _ _ _ _ _ (unhide HW0) (by have:=unhide HL;omega)).mono ?_
 rintro e w1 ⟨rfl,hp,hw⟩
 have HP1:=hide ((unhide HP0).trans hp)
 have HW1:=hide hw
 have HX0:=hide (hp.keep _ _ _ _ (unhide HX0) (by decide) (by decide))
 clear hp hw
 obtain ⟨x10,y10⟩:=boxA (unhide HX0)
 go_wp2_with fail
 refine (look_w w1 B gw _ _ _ (unhide HW1) (by have:=unhide HL;simp;omega)).mono ?_
 rintro e w2 ⟨rfl,hp,hw⟩
 have HP2:=hide ((unhide HP1).trans hp)
 have HW2:=hide hw
 have HX0:=hide (hp.keep _ _ _ _ (unhide HX0) (by decide) (by decide))
 clear hp hw x10 y10
 obtain ⟨x20,y20⟩:=boxA (unhide HX0)
 go_wp2_with fail
 refine (write_any w2 B gw _ _ _ _ _ (unhide HW2) (by have:=unhide HL;simp [lookOps_len];omega)).mono ?_
 rintro e w3 ⟨rfl,hp,hw⟩
 have HP3:=hide ((unhide HP2).trans hp)
 have HW3:=hide hw
 have HX0:=hide (hp.keep _ _ _ _ (unhide HX0) (by decide) (by decide))
 clear hp hw x20 y20
 go_wp2_with fail
 go_end0
 exact ⟨rfl,unhide HP3,(unhide HW3).to (by simp [addMarkOps,opN])⟩
end Mc
end Go.Proofs.YtobfpgoepaeknaaGreat
namespace Go.Proofs.YtobfpgoepaeknaaGreat
namespace Mc
open Go.RowKit
attribute [local go_sem ↓] Go.wp_at_zero Go.wp_at_succ
set_option maxRecDepth 20000 in
set_option maxHeartbeats 1000000 in
theorem readSecret_w (w:World) (B gw:Nat) (os:List OpI) (N x y u v:Nat) (h:WB w B gw os) (hl:os.length≤90000) (hN:N≤16) :
  Calls Tryz.prog 95 #[.pointer (some ⟨gw,0,none⟩),.int .i64 (N:Int),arV x y,arV u v] w fun e w'=>e=.returned (.tuple #[])∧PresW B w w'∧WB w' B gw (os++[⟨0,3,(u:Int),0⟩,⟨0,4,0,0⟩]++readsOps x y u v (os.length+2) N):=by
 have hgw:=h.lt
 have HSZ:Hid (B≤w.heap.size):=by have:=h.hB;show _≤_;omega
 have HW0:=hide ((h.alloc (Obj.cells #[.int .i64 (x:Int),.int .i64 (y:Int)] 168)).alloc (Obj.cells #[.int .i64 (u:Int),.int .i64 (v:Int)] 168))
 have HP0:Hid (PresW B w ((w.alloc (Obj.cells #[.int .i64 (x:Int),.int .i64 (y:Int)] 168)).alloc (Obj.cells #[.int .i64 (u:Int),.int .i64 (v:Int)] 168))):=(PresW.alloc B w _ (unhide HSZ)).trans (PresW.alloc B _ _ (by have:=unhide HSZ;simp;omega))
 have HX0:Hid (((w.alloc (Obj.cells #[.int .i64 (x:Int),.int .i64 (y:Int)] 168)).alloc (Obj.cells #[.int .i64 (u:Int),.int .i64 (v:Int)] 168)).heap[w.heap.size]?=some (Obj.cells #[.int .i64 (x:Int),.int .i64 (y:Int)] 168 (0,0))):=heap_alloc2_old _ _ _
 have HX1:Hid (((w.alloc (Obj.cells #[.int .i64 (x:Int),.int .i64 (y:Int)] 168)).alloc (Obj.cells #[.int .i64 (u:Int),.int .i64 (v:Int)] 168)).heap[w.heap.size+1]?=some (Obj.cells #[.int .i64 (u:Int),.int .i64 (v:Int)] 168 (0,0))):=heap_alloc2_new _ _ _
 have HL:=hide hl
 have HN:=hide hN
 have hNI:(N:Int)≤16:=by omega
 unfold arV
 clear h hl hN
 go_enter Tryz.func95,Tryz.ntmps95
 go_wp2_with fail
 refine (set_any _ B gw _ _ _ (unhide HW0) (by have:=unhide HL;omega)).mono ?_
 rintro e w1 ⟨rfl,hp,hw⟩
 have HP1:=hide ((unhide HP0).trans hp)
 have HW1:=hide hw
 have HX0:=hide (hp.keep _ _ _ _ (unhide HX0) (by decide) (by decide))
 have HX1:=hide (hp.keep _ _ _ _ (unhide HX1) (by decide) (by decide))
 clear hp hw
 go_wp2_with fail
 refine (set_any w1 B gw _ _ _ (unhide HW1) (by have:=unhide HL;simp;omega)).mono ?_
 rintro e w2 ⟨rfl,hp,hw⟩
 have HP2:=hide ((unhide HP1).trans hp)
 have HW2:Hid (WB w2 B gw (os++[⟨0,3,(u:Int),0⟩,⟨0,4,0,0⟩]++readsOps x y u v (os.length+2) 0)):=hw.to (by simp [readsOps])
 have HX0:=hide (hp.keep _ _ _ _ (unhide HX0) (by decide) (by decide))
 have HX1:=hide (hp.keep _ _ _ _ (unhide HX1) (by decide) (by decide))
 clear hp hw
 go_wp2_with fail
 generalize w.heap.size=g0 at *
 go_loopw [8] (fun ix wr=>∃ i:Nat,ix=.int .i64 (i:Int)∧Hid (i≤N∧PresW B w wr∧WB wr B gw (os++[⟨0,3,(u:Int),0⟩,⟨0,4,0,0⟩]++readsOps x y u v (os.length+2) i)∧wr.heap[g0]?=some (Obj.cells #[.int .i64 (x:Int),.int .i64 (y:Int)] 168 (0,0))∧wr.heap[g0+1]?=some (Obj.cells #[.int .i64 (u:Int),.int .i64 (v:Int)] 168 (0,0)))) (fun ix _=>lenLeft N ix)
 case atStart=>exact ⟨0,rfl,Nat.zero_le _,unhide HP2,unhide HW2,unhide HX0,unhide HX1⟩
 case round =>
  clear HP0 HP1 HP2 HW0 HW1 HW2 HX0 HX1
  rename World=>wr
  obtain ⟨i,rfl,HH⟩:=hrel
  obtain ⟨hi,hP,hW,hx0,hx1⟩:=unhide HH
  by_cases hlt:i < N
  ·have hiI:(i:Int) < (N:Int):=by omega
   obtain ⟨a0,a1⟩:=boxA hx0
   obtain ⟨b0,b1⟩:=boxA hx1
   have HB:=hide (readByte_w wr B gw _ i x y u v (by omega) hW (by have:=unhide HL;have:=unhide HN;simp [readsOps_len];omega))
   have HP:=hide hP
   have HLT:=hide hlt
   have HX0:=hide hx0
   have HX1:=hide hx1
   unfold arV at HB
   clear HH hi hP hW hx0 hx1 hlt
   go_wp2_with fail
   refine (unhide HB).mono ?_
   rintro e w3 ⟨rfl,hp,hw⟩
   have HP3:=hide ((unhide HP).trans hp)
   have HW3:=hide hw
   have HX0:=hide (hp.keep _ _ _ _ (unhide HX0) (by decide) (by decide))
   have HX1:=hide (hp.keep _ _ _ _ (unhide HX1) (by decide) (by decide))
   clear hp hw
   go_wp2_with fail
   go_roundw
   case rel=>exact ⟨i+1,by go_num,unhide HLT,unhide HP3,(unhide HW3).to (by simp [readsOps,readsOps_len,List.append_assoc];congr 1;omega),unhide HX0,unhide HX1⟩
   case measure=>have:=unhide HLT;simp [lenLeft,intOf];omega
  ·have hi2:i=N:=by omega
   subst hi2
   have HP:=hide hP
   have HW:=hide hW
   clear HH hi hP hW hx0 hx1 hlt
   go_wp2_with fail
   go_end0
   exact ⟨rfl,unhide HP,unhide HW⟩
def tbC (cl:Nat→Nat) (C:Nat) (gv nv:Value):Array Value:=(ncs ((List.range 256).map cl)++[.int .i64 (C:Int),gv,nv]).toArray
theorem tbC_cl (cl:Nat→Nat) (C:Nat) (gv nv:Value) {b:Nat} (hb:b < 256):(tbC cl C gv nv)[b]?=some (.int .i64 ((cl b:Nat):Int)):=by
 unfold tbC
 rw [List.getElem?_toArray,List.getElem?_append_left (by rw [ncs_len];simpa using hb),ncs_get _ (by simpa using hb),List.getD_eq_getElem?_getD,List.getElem?_map,List.getElem?_range hb];rfl
theorem tbC_tail (cl:Nat→Nat) (C:Nat) (gv nv:Value) (j:Nat):(tbC cl C gv nv)[256+j]?=[.int .i64 (C:Int),gv,nv][j]?:=by
 unfold tbC
 rw [List.getElem?_toArray,List.getElem?_append_right (by rw [ncs_len];simp),ncs_len,List.length_map,List.length_range,Nat.add_sub_cancel_left]
def bcs (bs:List Bool):List Value:=bs.map fun b=>.bool b
def BR (w:World) (B:Nat) (v:Value) (bs:List Bool):Prop:=w.ownsRow B 4 1 v bs.length (bcs bs)
theorem BR.form {w:World} {B:Nat} {v:Value} {xs:List Bool} (h:BR w B v xs):(∃ a c,v=.slice a xs.length c):=by
 rcases h.2 with ⟨rfl,h0⟩ | ⟨g,cap,cur,rfl,_⟩
 ·exact ⟨none,0,by rw [h0]⟩
 ·exact ⟨_,_,rfl⟩
theorem BR.at {w:World} {B:Nat} {v:Value} {xs:List Bool} (h:BR w B v xs) {k:Nat} (hk:k < xs.length):∃ g cap,v=.slice (some ⟨g,0,none⟩) xs.length cap∧w.cell? ⟨g,k,none⟩=some (.bool (xs.getD k false)):=by
 have h':w.ownsRow B 4 1 v xs.length (bcs xs):=h
 obtain ⟨g,cap,rfl⟩:=own_form h' (by omega)
 refine ⟨g,cap,rfl,?_⟩
 have:=h'.cells (g:=g) rfl k (.bool (xs.getD k false)) (by simp [bcs,hk])
 rwa [add0] at this
structure TbB (w:World) (B gt:Nat) (t:TabN):Prop where
 ok:t.Ok
 ex:∃ gv nv bs ns,w.heap[gt]?=some (.cells (tbC t.cl t.C gv nv) 47 (0,0))∧BR w 0 gv bs∧NR w 0 nv ns∧(∀ q,gv.ownBlock=some q→q < B)∧(∀ q,nv.ownBlock=some q→q < B)∧bs.length=t.S∧(∀ q,q < t.S→bs.getD q false=t.gr q)∧ns.length=t.S * t.C∧∀ q c,q < t.S→c < t.C→ns.getD (q * t.C+c) 0=t.nx q c
theorem row_keep {w w':World} {B e z:Nat} (hb:Below B w w') {v:Value} {n:Nat} {xs:List Value} (h:w.ownsRow 0 e z v n xs) (hq:∀ q,v.ownBlock=some q→q < B):w'.ownsRow 0 e z v n xs:=by
 refine ⟨h.1,?_⟩
 rcases h.2 with hl | ⟨g,cap,cur,rfl,h1,hg,rest⟩
 ·exact .inl hl
 ·exact .inr ⟨g,cap,cur,rfl,h1,(hb.block g (hq g rfl)).trans hg,rest⟩
theorem TbB.keep {w w':World} {B gt:Nat} {t:TabN} (h:TbB w B gt t) (hb:Below B w w') (hk:∀ cs,w.heap[gt]?=some (.cells cs 47 (0,0))→w'.heap[gt]?=some (.cells cs 47 (0,0))):TbB w' B gt t:=by
 obtain ⟨gv,nv,bs,ns,h1,h2,h3,q1,q2,r⟩:=h.ex
 exact ⟨h.ok,gv,nv,bs,ns,hk _ h1,row_keep hb h2 q1,row_keep hb h3 q2,q1,q2,r⟩
set_option maxRecDepth 20000 in
theorem States_any (w:World) (B gt:Nat) (t:TabN) (h:TbB w B gt t):Calls Tryz.prog 135 #[.pointer (some ⟨gt,0,none⟩)] w fun e w'=>e=.returned (.int .i64 (t.S:Int))∧w'=w:=by
 obtain ⟨gv,nv,bs,ns,h1,h2,h3,q1,q2,hS,r⟩:=h.ex
 obtain ⟨a,c,rfl⟩:=h2.form
 have c0:w.cell? ⟨gt,257,none⟩=some (.slice a bs.length c):=by rw [cell_of_row _ _ _ _ _ _ h1];exact tbC_tail _ _ _ _ 1
 rw [hS] at c0
 clear h h1 h2 h3 q1 q2 hS r
 go_enter Tryz.func135,Tryz.ntmps135
 go_wp2
 go_ret
 exact ⟨rfl,rfl⟩
set_option maxRecDepth 20000 in
theorem Classes_any (w:World) (B gt:Nat) (t:TabN) (h:TbB w B gt t):Calls Tryz.prog 137 #[.pointer (some ⟨gt,0,none⟩)] w fun e w'=>e=.returned (.int .i64 (t.C:Int))∧w'=w:=by
 obtain ⟨gv,nv,bs,ns,h1,-⟩:=h.ex
 have c0:w.cell? ⟨gt,256,none⟩=some (.int .i64 (t.C:Int)):=by rw [cell_of_row _ _ _ _ _ _ h1];exact tbC_tail _ _ _ _ 0
 clear h h1
 go_enter Tryz.func137,Tryz.ntmps137
 go_wp2
 go_ret
 exact ⟨rfl,rfl⟩
set_option maxRecDepth 20000 in
theorem Class_any (w:World) (B gt:Nat) (t:TabN) (h:TbB w B gt t) (b:Nat) (hb:b < 256):Calls Tryz.prog 134 #[.pointer (some ⟨gt,0,none⟩),.int .u8 (b:Int)] w fun e w'=>e=.returned (.int .i64 ((t.cl b:Nat):Int))∧w'=w:=by
 obtain ⟨gv,nv,bs,ns,h1,-⟩:=h.ex
 have c0:w.cell? ⟨gt,b,none⟩=some (.int .i64 ((t.cl b:Nat):Int)):=by rw [cell_of_row _ _ _ _ _ _ h1];exact tbC_cl _ _ _ _ hb
 have hbI:(b:Int) < 256:=by omega
 clear h h1 hb
 generalize t.cl b=x at *
 go_enter Tryz.func134,Tryz.ntmps134
 go_wp2
 go_ret
 exact ⟨rfl,rfl⟩
set_option maxRecDepth 20000 in
theorem Granted_any (w:World) (B gt:Nat) (t:TabN) (h:TbB w B gt t) (q:Nat) (hq:q < t.S):Calls Tryz.prog 136 #[.pointer (some ⟨gt,0,none⟩),.int .i64 (q:Int)] w fun e w'=>e=.returned (.bool (t.gr q))∧w'=w:=by
 obtain ⟨gv,nv,bs,ns,h1,h2,h3,q1,q2,hS,hg,r⟩:=h.ex
 have hok:=h.ok.s2
 obtain ⟨g,cap,rfl,hc⟩:=h2.at (k:=q) (by omega)
 rw [hg q hq] at hc
 have c0:w.cell? ⟨gt,257,none⟩=some (.slice (some ⟨g,0,none⟩) bs.length cap):=by rw [cell_of_row _ _ _ _ _ _ h1];exact tbC_tail _ _ _ _ 1
 rw [hS] at c0
 have hqI:(q:Int) < (t.S:Int):=by omega
 have hsI:(t.S:Int)≤24:=by omega
 clear h h1 h2 h3 q1 q2 hS hg r hq hok
 generalize t.gr q=x at *
 go_enter Tryz.func136,Tryz.ntmps136
 go_wp2
 go_ret
 exact ⟨rfl,rfl⟩
end Mc
end Go.Proofs.YtobfpgoepaeknaaGreat
