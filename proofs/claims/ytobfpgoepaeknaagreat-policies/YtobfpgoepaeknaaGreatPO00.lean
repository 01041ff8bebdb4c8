/-
  What lies in memory: rows of numbers, rows of operations; what a call leaves as it was.
  The two machines in memory: the program's and the document's.
  machine.isCode, isMemory.
  machine.machine.do at operations that join two registers.
-/
import Derived.Test.YtobfpgoepaeknaaGreatRows
import Derived.WalkKit
import Derived.WalkSpells
import Derived.WalkLawsBesides
import Derived.Laws.BitsAllLaws
import Derived.Deep.DrawnRows
import Derived.Deep.AppendLies
import Derived.Deep.OwnRows
import Derived.Deep.RegionWith
import Derived.Deep.RegionLaw
import Derived.Deep.RegionHeld3
import Derived.Deep.LoopGhost
import Derived.Deep.DeepCutAuto
import Derived.BigQuiet
import Derived.Deep.QuietTactic
namespace Go.Proofs.YtobfpgoepaeknaaGreat
namespace Mc
open Go.RowKit
theorem hide {p:Prop} (h:p):Hid p:=h
theorem unhide {p:Prop} (h:Hid p):p:=h
theorem ret_int {k:IntKind} {a b:Int} (h:a=b):Ending.returned (.int k a)=.returned (.int k b):=by rw [h]
theorem info_of {P:Program} {t:TypeId} {z:Value} {n m:Nat} (h:(P.info? t).map (fun i=>(i.zero,i.size,i.bytes))=some (some z,n,m)) :
  ∃ i,P.info? t=some i∧i.zero=some z∧i.size=n∧i.bytes=m:=by
 cases hi:P.info? t with
 | none=>rw [hi] at h;cases h
 | some i =>
  rw [hi] at h
  simp only [Option.map_some,Option.some.injEq,Prod.mk.injEq] at h
  exact ⟨i,rfl,h.1,h.2.1,h.2.2⟩
theorem infoI:(Tryz.prog.info? 3).map (fun i=>(i.zero,i.size,i.bytes))=some (some (.int .i64 0),1,8):=by kernel_rfl
theorem add0 (g k:Nat):(⟨g,0,none⟩:Addr).add k=⟨g,k,none⟩:=by unfold Addr.add;split<;>simp_all
structure Fr (S:List Nat) (w w':World):Prop where
 os:w'.os=w.os
 tape:w'.tape=w.tape
 output:w'.output=w.output
 size:w.heap.size≤w'.heap.size
 block:∀ k,k < w.heap.size→k∉S→w'.heap[k]?=w.heap[k]?
theorem Fr.refl (S:List Nat) (w:World):Fr S w w:=⟨rfl,rfl,rfl,Nat.le_refl _,fun _ _ _=>rfl⟩
theorem Fr.and {S S':List Nat} {a b c:World} (h:Fr S a b) (k:Fr S' b c) (hs:∀ x∈S',x∈S∨a.heap.size≤x):Fr S a c :=
 ⟨k.os.trans h.os,k.tape.trans h.tape,k.output.trans h.output,Nat.le_trans h.size k.size,fun i hi hn=>(k.block i (Nat.lt_of_lt_of_le hi h.size) (fun hm=>(hs i hm).elim hn (by omega))).trans (h.block i hi hn)⟩
theorem Fr.drew {S:List Nat} {w w':World} (h:Fr S w w'):Fr S w w'.drew:=⟨h.os,h.tape,h.output,h.size,h.block⟩
theorem Fr.ofBelow {w w':World} (h:Below w.heap.size w w'):Fr [] w w':=⟨h.os,h.tape,h.output,h.size,fun k hk _=>h.block k hk⟩
theorem Fr.ofGrown {w w':World} {row:Option Nat} (h:w.grownBy w' row):Fr row.toList w w':=⟨h.os,h.tape,h.output,h.size,fun k hk hn=>h.block k hk (fun e=>hn (by rw [←e];simp))⟩
theorem Fr.ofAlloc (w:World) (o:Obj):Fr [] w (w.alloc o):=Fr.ofBelow ((Below.refl _ _).alloc (Nat.le_refl _) _)
theorem Fr.ofSet (w:World) (b o:Nat) (u:Value):Fr [b] w (w.setCell ⟨b,o,none⟩ u):=⟨rfl,rfl,rfl,by simp [World.setCell],fun k _ hn=>Below.heap_setCell _ _ _ _ (by simpa using hn)⟩
theorem Fr.ofRow (w:World) (b:Nat) (cs:Array Value):Fr [b] w (w.setRow b cs):=⟨rfl,rfl,rfl,by simp,fun k _ hn=>setRow_other _ _ _ _ (by simpa using hn)⟩
theorem Fr.next {S:List Nat} {w w1 w2:World} (h:Fr S w w1) (hb:Below w1.heap.size w1 w2):Fr S w w2:=h.and (Fr.ofBelow hb) (fun x hx=>by cases hx)
theorem Fr.set {S:List Nat} {w w1:World} (h:Fr S w w1) {b:Nat} (hb:b∈S∨w.heap.size≤b) (o:Nat) (u:Value):Fr S w (w1.setCell ⟨b,o,none⟩ u):=h.and (Fr.ofSet w1 b o u) (fun x hx=>by simp at hx;subst hx;exact hb)
theorem Fr.row {S:List Nat} {w w1:World} (h:Fr S w w1) {b:Nat} (hb:b∈S∨w.heap.size≤b) (cs:Array Value):Fr S w (w1.setRow b cs):=h.and (Fr.ofRow w1 b cs) (fun x hx=>by simp at hx;subst hx;exact hb)
theorem Fr.grown {S:List Nat} {w w1 w2:World} {row:Option Nat} (h:Fr S w w1) (hg:w1.grownBy w2 row) (hr:∀ k,row=some k→k∈S∨w.heap.size≤k):Fr S w w2:=h.and (Fr.ofGrown hg) (fun x hx=>hr x (by simpa using hx))
theorem Fr.below {S:List Nat} {w w':World} (h:Fr S w w') (hs:∀ x∈S,w.heap.size≤x):Below w.heap.size w w':=⟨h.os,h.tape,h.output,h.size,fun k hk=>h.block k hk (fun hm=>by have:=hs k hm;omega)⟩
theorem Fr.at {S:List Nat} {w w':World} (h:Fr S w w') {b:Nat} {o:Obj} (hb:w.heap[b]?=some o) (hn:b∉S):w'.heap[b]?=some o:=by
 rw [h.block b (Array.getElem?_eq_some_iff.1 hb).1 hn];exact hb
theorem Fr.cell {S:List Nat} {w w':World} (h:Fr S w w') {a:Addr} {v:Value} (hb:w.cell? a=some v) (hn:a.block∉S):w'.cell? a=some v :=
 (World.cell?_of_block (h.block a.block (World.block_lt_of_cell? w a hb) hn)).trans hb
theorem Fr.own {S:List Nat} {w w':World} (h:Fr S w w') {B e z:Nat} {v:Value} {n:Nat} {xs:List Value} (ho:w.ownsRow B e z v n xs) (hn:∀ q,v.ownBlock=some q→q∉S):w'.ownsRow B e z v n xs:=by
 refine ⟨ho.1,?_⟩
 rcases ho.2 with hl | ⟨g,cap,cur,rfl,h1,hg,rest⟩
 ·exact .inl hl
 ·exact .inr ⟨g,cap,cur,rfl,h1,h.at hg (hn g rfl),rest⟩
def ncs (xs:List Nat):List Value:=xs.map fun (n:Nat)=>.int .i64 (n:Int)
def NR (w:World) (B:Nat) (v:Value) (xs:List Nat):Prop:=w.ownsRow B 3 1 v xs.length (ncs xs)
theorem NR.form {w:World} {B:Nat} {v:Value} {xs:List Nat} (h:NR w B v xs):(∃ a c,v=.slice a xs.length c):=by
 rcases h.2 with ⟨rfl,h0⟩ | ⟨g,cap,cur,rfl,_⟩
 ·exact ⟨none,0,by rw [h0]⟩
 ·exact ⟨_,_,rfl⟩
theorem NR.nil (w:World) (B:Nat):NR w B (.slice none 0 0) []:=World.ownsRow_nil w B _ _
theorem own_form {w:World} {B e z:Nat} {v:Value} {n:Nat} {xs:List Value} (h:w.ownsRow B e z v n xs) (hn:0 < n):∃ g cap,v=.slice (some ⟨g,0,none⟩) n cap:=by
 rcases h.2 with ⟨_,h0⟩ | ⟨g,cap,cur,hv,_⟩
 ·omega
 ·exact ⟨g,cap,hv⟩
theorem NR.at {w:World} {B:Nat} {v:Value} {xs:List Nat} (h:NR w B v xs) {k:Nat} (hk:k < xs.length):∃ g cap,v=.slice (some ⟨g,0,none⟩) xs.length cap∧w.cell? ⟨g,k,none⟩=some (.int .i64 ((xs.getD k 0:Nat):Int)):=by
 have h':w.ownsRow B 3 1 v xs.length (ncs xs):=h
 obtain ⟨g,cap,rfl⟩:=own_form h' (by omega)
 refine ⟨g,cap,rfl,?_⟩
 have:=h'.cells (g:=g) rfl k (.int .i64 ((xs.getD k 0:Nat):Int)) (by simp [ncs,hk])
 rwa [add0] at this
theorem NR.of {w:World} {B:Nat} {v:Value} {xs:List Nat} {y:Nat} (h:w.ownsRow B 3 1 v (xs.length+1) (ncs xs++[.int .i64 (y:Int)])):NR w B v (xs++[y]):=by
 unfold NR ncs
 rw [List.length_append,List.map_append];exact h
theorem NR.less {w:World} {B B':Nat} {v:Value} {xs:List Nat} (h:NR w B v xs) (hB:B'≤B):NR w B' v xs:=by
 refine ⟨h.1,?_⟩
 rcases h.2 with h2 | ⟨g,cap,cur,hv,hg,r⟩
 ·exact Or.inl h2
 ·exact Or.inr ⟨g,cap,cur,hv,Nat.le_trans hB hg,r⟩
theorem one_cells {W:World} {g:Nat} {x:Value} (h:W.cell? ⟨g,0,none⟩=some x):∀ j u,[x][j]?=some u→W.cell? ((⟨g,0,none⟩:Addr).add j)=some u:=by
 intro j u hj
 match j,hj with
 | 0,hj =>
  simp at hj
  subst hj
  rw [add0];exact h
 | j+1,hj=>simp at hj
theorem cell_drew (w:World) (a:Addr):w.drew.cell? a=w.cell? a:=rfl
theorem new_cell {W:World} {g:Nat} {x:Value} {t:TypeId} (h:W.heap.size=g):(W.alloc (.cells #[x] t)).cell? ⟨g,0,none⟩=some x:=by
 subst h;rw [cell_of_row _ _ _ _ _ _ (heap_alloc_new W _)];rfl
theorem app1 {ops:Array Oper} {rest:List Oper} {o:Oper} {a:Act} {W:World} {Q:Exit→Act→World→Prop} (hgd:o.guard=none) (s x:Operand)
  (ho:o.op=.call { callee:=.builtin .append,args:=#[s,x],argTypes:=#[37,37] }) (B:Nat) (v:Value) (xs:List Nat) (hs:a.eval s=v) (hown:NR W B v xs) (g0 y:Nat)
  (hx:a.eval x=.slice (some ⟨g0,0,none⟩) 1 1) (hc:W.cell? ⟨g0,0,none⟩=some (.int .i64 (y:Int))) (hlen:xs.length≤3000000) (hB:B≤W.heap.size) (H:Nat) (hH:W.heap.size=H)
  (h:∀ g cap w',w'.ownsRow B 3 1 (.slice (some ⟨g,0,none⟩) (xs.length+1) cap) (xs.length+1) (ncs xs++[.int .i64 (y:Int)])→W.grownBy w' v.ownBlock→(v.ownBlock=some g∨g=H)→g < w'.heap.size→wpList Tryz.prog ops Q rest (a.put o.dst (.slice (some ⟨g,0,none⟩) (xs.length+1) cap)) w'):wpList Tryz.prog ops Q (o ::rest) a W:=by
 obtain ⟨i,i0,i1,i2,i3⟩:=info_of infoI
 exact wpList_append_lies W hgd s x 37 ho B 3 i (.int .i64 0) 1 8 Tryz.underlying37 i0 i1 i2 i3 rfl (by decide) v xs.length (ncs xs) hs hown ⟨g0,0,none⟩ 1 1 [.int .i64 (y:Int)] hx rfl (one_cells hc) (by intro u hu;simp at hu;subst hu;rfl) (by decide) (by unfold maxLen;omega) (by omega) hB H hH h
theorem own_off {w:World} {B e z:Nat} {v:Value} {n:Nat} {xs:List Value} (h:w.ownsRow B e z v n xs) {b:Nat} {cs:Array Value} {ty:TypeId} {fr:Nat × Nat} (hb:w.heap[b]?=some (.cells cs ty fr)) (hne:e≠ty):∀ q,v.ownBlock=some q→q≠b:=fun q hq e=>by
 subst e
 rcases h.2 with ⟨rfl,_⟩ | ⟨g,cap,cur,rfl,_,hg,_⟩
 ·cases hq
 ·have:g=q:=by simpa [Value.ownBlock] using hq
  subst this
  rw [hg] at hb
  simp at hb
  exact hne hb.2.1
theorem below_cell {w w':World} (h:Below w.heap.size w w') {a:Addr} {v:Value} (hb:w.cell? a=some v):w'.cell? a=some v :=
 (World.cell?_of_block (h.block a.block (World.block_lt_of_cell? w a hb))).trans hb
theorem wrap_i64 (a:Nat) (ha:a < 1152921504606846976):IntKind.i64.wrap (a:Int)=(a:Int):=by
 unfold IntKind.wrap
 simp only [IntKind.bits,IntKind.signed]
 have h1:(a:Int) % (2 ^ 64:Int)=a:=Int.emod_eq_of_lt (by omega) (by omega)
 simp only [h1]
 rw [if_neg (by simp;omega)]
end Mc
end Go.Proofs.YtobfpgoepaeknaaGreat
namespace Go.Proofs.YtobfpgoepaeknaaGreat
namespace Mc
open Go.RowKit
def pmC (R:List Nat) (mv tv:Value) (p:Nat):Array Value:=(ncs R++[mv,tv,.int .i64 (p:Int)]).toArray
theorem ncs_len (l:List Nat):(ncs l).length=l.length:=by unfold ncs;rw [List.length_map]
theorem ncs_get (l:List Nat) {k:Nat} (hk:k < l.length):(ncs l)[k]?=some (.int .i64 ((l.getD k 0:Nat):Int)):=by
 unfold ncs;rw [List.getElem?_map,List.getElem?_eq_getElem hk,List.getD_eq_getElem?_getD,List.getElem?_eq_getElem hk];rfl
section
variable {R M : List Nat} {mv tv : Value} {p : Nat}
theorem pmC_size (h:R.length=16):(pmC R mv tv p).size=19:=by unfold pmC;simp [ncs_len,h]
end
theorem below_set {B:Nat} {w w1:World} (h:Below B w w1) {g o:Nat} {u:Value} (hg:B≤g):Below B w (w1.setCell ⟨g,o,none⟩ u):=h.setCell (p:=⟨g,o,none⟩) hg u
theorem below_grown {B:Nat} {w w1 w2:World} {row:Option Nat} (h:Below B w w1) (hg:w1.grownBy w2 row) (hB:B≤w1.heap.size) (hr:∀ k,row=some k→B≤k):Below B w w2:=h.grown hg hB hr
end Mc
end Go.Proofs.YtobfpgoepaeknaaGreat
namespace Go.Proofs.YtobfpgoepaeknaaGreat
namespace Mc
open Go.RowKit
attribute [local go_sem ↓] Go.wp_at_zero Go.wp_at_succ
def lenLeft (n:Nat) (v:Value):Nat:=n - (intOf v).toNat
end Mc
end Go.Proofs.YtobfpgoepaeknaaGreat
namespace Go.Proofs.YtobfpgoepaeknaaGreat
namespace Mc
open Go.RowKit
attribute [local go_sem ↓] Go.wp_at_zero Go.wp_at_succ
theorem below_drewN {B:Nat} {w w1:World} (h:Below B w w1) (n:Nat):Below B w (w1.drewN n):=⟨h.os,h.tape,h.output,h.size,h.block⟩
end Mc
end Go.Proofs.YtobfpgoepaeknaaGreat
