/-
  table.at, table.Table.Next; judge.layer.rows.
  judge.marked: which marks are in a sum; policies.Image: Most, Rules.
  policies.truthReader: whether a formula is true.
  policies.Image.Table.
-/
import Derived.Test.YtobfpgoepaeknaaGreatPO01
import Derived.Deep.MidRow
namespace Go.Proofs.YtobfpgoepaeknaaGreat
namespace Mc
open Go.RowKit
attribute [local go_sem ↓] Go.wp_at_zero Go.wp_at_succ
theorem app1s {ops:Array Oper} {o:Oper} {a:Act} {W:World} {K:Act→World→Prop} {Q:Exit→Act→World→Prop} {E:Prop} (hgd:o.guard=none) (s x:Operand)
  (ho:o.op=.call { callee:=.builtin .append,args:=#[s,x],argTypes:=#[37,37] }) (B:Nat) (v:Value) (xs:List Nat) (hs:a.eval s=v) (hown:NR W B v xs) (g0 y:Nat)
  (hx:a.eval x=.slice (some ⟨g0,0,none⟩) 1 1) (hc:W.cell? ⟨g0,0,none⟩=some (.int .i64 (y:Int))) (hlen:xs.length≤3000000) (hB:B≤W.heap.size) (H:Nat) (hH:W.heap.size=H)
  (h:∀ g cap w',w'.ownsRow B 3 1 (.slice (some ⟨g,0,none⟩) (xs.length+1) cap) (xs.length+1) (ncs xs++[.int .i64 (y:Int)])→W.grownBy w' v.ownBlock→(v.ownBlock=some g∨g=H)→g < w'.heap.size→K (a.put o.dst (.slice (some ⟨g,0,none⟩) (xs.length+1) cap)) w') :
  if Region.wanted o (yielded ops a.tmps)=true then Oper.wp Tryz.prog o a W K Q else E:=by
 obtain ⟨i,i0,i1,i2,i3⟩:=info_of infoI
 exact step_append_lies W hgd s x 37 ho B 3 i (.int .i64 0) 1 8 Tryz.underlying37 i0 i1 i2 i3 rfl (by decide) v xs.length (ncs xs) hs hown ⟨g0,0,none⟩ 1 1 [.int .i64 (y:Int)] hx rfl (one_cells hc) (by intro u hu;simp at hu;subst hu;rfl) (by decide) (by unfold maxLen;omega) (by omega) hB H hH h
end Mc
end Go.Proofs.YtobfpgoepaeknaaGreat
namespace Go.Proofs.YtobfpgoepaeknaaGreat
namespace Mc
open Go.RowKit
attribute [local go_sem ↓] Go.wp_at_zero Go.wp_at_succ
theorem infoB:(Tryz.prog.info? 4).map (fun i=>(i.zero,i.size,i.bytes))=some (some (.bool false),1,1):=by kernel_rfl
end Mc
end Go.Proofs.YtobfpgoepaeknaaGreat
namespace Go.Proofs.YtobfpgoepaeknaaGreat
namespace Mc
open Go.RowKit
attribute [local go_sem ↓] Go.wp_at_zero Go.wp_at_succ
def bt (T:ByteArray) (k:Nat):Nat:=if h:k < T.size then (T[k]'h).toNat else 0
theorem bt_at (T:ByteArray) (k:Nat):∀ h:k < T.size,(T[k]'h).toNat=bt T k:=fun h=>by unfold bt;rw [dif_pos h]
theorem bt_end {T:ByteArray} {k:Nat} (h:¬k < T.size):bt T k=0:=by unfold bt;rw [dif_neg h]
theorem bt_le (T:ByteArray) (k:Nat):bt T k < 256:=by
 unfold bt;split
 ·exact UInt8.toNat_lt _
 ·decide
end Mc
end Go.Proofs.YtobfpgoepaeknaaGreat
namespace Go.Proofs.YtobfpgoepaeknaaGreat
namespace Mc
open Go.RowKit
def zcTb:Array Value:=tbC (fun _=>0) 0 (.slice none 0 0) (.slice none 0 0)
theorem tbC_size (cl:Nat→Nat) (C:Nat) (gv nv:Value):(tbC cl C gv nv).size=259:=by unfold tbC;simp [ncs]
theorem zcTb_size:zcTb.size=259:=tbC_size _ _ _ _
theorem zcTb_ne:zcTb≠#[]:=fun e=>by have:=zcTb_size;rw [e] at this;simp at this
theorem zvTb (w:World):(zeroValue 47).run Tryz.prog w=.ok (.agg zcTb) w:=by kernel_rfl
theorem aggcells (cs:Array Value):(Value.agg cs).cells=cs:=rfl
theorem tbC_one (a b:Option Addr) (n1 n2 c1 c2:Nat) (cl:Nat→Nat) (C:Nat):(tbC cl C (.slice a n1 c1) (.slice b n2 c2)).all (·.oneCell')=true:=by
 unfold tbC
 rw [List.all_toArray,List.all_append,Bool.and_eq_true]
 refine ⟨?_,rfl⟩
 unfold ncs
 rw [List.all_map,List.all_eq_true]
 intro x _
 rfl
theorem infoT:(Tryz.prog.info? 47).map (·.size)=some 259:=by kernel_rfl
theorem store_row {P:Program} {ops:Array Oper} {rest:List Oper} {o:Oper} {a:Act} {w:World} {Q:Exit→Act→World→Prop} (hgd:o.guard=none) (ty:TypeId) (x y:Operand) (ho:o.op=.store ty x y) (hd:o.dst=none)
  (g:Nat) (cells:Array Value) (hx:a.eval x=.pointer (some ⟨g,0,none⟩)) (hy:a.eval y=.agg cells)
  (t:TypeId) (old:Array Value) (hg:w.heap[g]?=some (.cells old t (0,0))) (hi:(P.info? ty).map (·.size)=some cells.size)
  (hold:old.size=cells.size) (h1:cells.all (·.oneCell')=true)
  (h:wpList P ops Q rest a (w.setRow g cells)):wpList P ops Q (o ::rest) a w :=
 wpList_store_row hgd ty x y ho g cells hx hy t old hg hi hold h1 (by rw [hd];exact h)
structure TRws (w:World) (B:Nat) (t:TabN) (gv nv:Value):Prop where
 ok:t.Ok
 ex:∃ bs ns,BR w 0 gv bs∧NR w 0 nv ns∧(∀ q,gv.ownBlock=some q→q < B)∧(∀ q,nv.ownBlock=some q→q < B)∧bs.length=t.S∧(∀ q,q < t.S→bs.getD q false=t.gr q)∧ns.length=t.S * t.C∧∀ q c,q < t.S→c < t.C→ns.getD (q * t.C+c) 0=t.nx q c
theorem TRws.form {w:World} {B:Nat} {t:TabN} {gv nv:Value} (h:TRws w B t gv nv):∃ a1 n1 c1 a2 n2 c2,gv=.slice a1 n1 c1∧nv=.slice a2 n2 c2:=by
 obtain ⟨bs,ns,h1,h2,-⟩:=h.ex
 obtain ⟨a,c,e⟩:=h1.form
 obtain ⟨a',c',e'⟩:=h2.form
 exact ⟨_,_,_,_,_,_,e,e'⟩
theorem TRws.below {w w':World} {B:Nat} {t:TabN} {gv nv:Value} (h:TRws w B t gv nv) (hb:Below B w w'):TRws w' B t gv nv:=by
 obtain ⟨bs,ns,h1,h2,q1,q2,r⟩:=h.ex
 exact ⟨h.ok,bs,ns,row_keep hb h1 q1,row_keep hb h2 q2,q1,q2,r⟩
structure Tbs (w:World) (B g m:Nat) (ts:Nat→TabN):Prop where
 at_:∀ i,i < m→∃ gv nv,w.rangeAt g (i * 259) (tbC (ts i).cl (ts i).C gv nv).toList∧TRws w B (ts i) gv nv
 lt:g < B
theorem Tbs.below {w w':World} {B g m:Nat} {ts:Nat→TabN} (h:Tbs w B g m ts) (hb:Below B w w'):Tbs w' B g m ts :=
 ⟨fun i hi=>by
  obtain ⟨gv,nv,h1,h2⟩:=h.at_ i hi
  exact ⟨gv,nv,fun j v hv=>(World.cell?_of_block (hb.block g h.lt)).trans (h1 j v hv),h2.below hb⟩,h.lt⟩
end Mc
end Go.Proofs.YtobfpgoepaeknaaGreat
