/-
  The cells of a table; a table in the making.
  table.parsed: a table out of its bytes.
  table.Read.
  A table is appended to a row of tables: what the walk wants.
-/
import Derived.Test.YtobfpgoepaeknaaGreatPO03
import Derived.Laws.ResultCell
import Derived.Great.BuildSlice
namespace Go.Proofs.YtobfpgoepaeknaaGreat
namespace Mc
open Go.RowKit
theorem tbC_set (cl:Nat→Nat) (C:Nat) (gv nv:Value) {b:Nat} (h:b < 256) (x:Nat):(tbC cl C gv nv).setIfInBounds b (.int .i64 ((x:Nat):Int))=tbC (fun c=>if c=b then x else cl c) C gv nv:=by
 apply Array.ext_getElem?
 intro k
 rw [Array.getElem?_setIfInBounds]
 by_cases hk:b=k
 ·subst hk
  rw [if_pos rfl,if_pos (by rw [tbC_size];omega),tbC_cl _ _ _ _ h,if_pos rfl]
 ·rw [if_neg hk]
  by_cases h2:k < 256
  ·rw [tbC_cl _ _ _ _ h2,tbC_cl _ _ _ _ h2,if_neg (Ne.symm hk)]
  ·obtain ⟨j,rfl⟩:∃ j,k=256+j:=⟨k - 256,by omega⟩
   rw [tbC_tail,tbC_tail]
theorem tbC_put (cl:Nat→Nat) (C C':Nat) (gv nv gv' nv' u:Value) (i:Nat) (hi:i < 3) (he:[.int .i64 (C':Int),gv',nv']=[.int .i64 (C:Int),gv,nv].set i u):(tbC cl C gv nv).setIfInBounds (256+i) u=tbC cl C' gv' nv':=by
 apply Array.ext_getElem?
 intro k
 rw [Array.getElem?_setIfInBounds]
 by_cases hk:256+i=k
 ·subst hk
  rw [if_pos rfl,if_pos (by rw [tbC_size];omega),tbC_tail,he,List.getElem?_set_self (by simpa using hi)]
 ·rw [if_neg hk]
  by_cases h2:k < 256
  ·rw [tbC_cl _ _ _ _ h2,tbC_cl _ _ _ _ h2]
  ·obtain ⟨j,rfl⟩:∃ j,k=256+j:=⟨k - 256,by omega⟩
   rw [tbC_tail,tbC_tail,he,List.getElem?_set_ne (by omega)]
theorem tbC_set256 (cl:Nat→Nat) (C C':Nat) (gv nv:Value):(tbC cl C gv nv).setIfInBounds 256 (.int .i64 (C':Int))=tbC cl C' gv nv:=tbC_put _ _ _ _ _ _ _ _ 0 (by decide) rfl
theorem tbC_set257 (cl:Nat→Nat) (C:Nat) (gv nv v:Value):(tbC cl C gv nv).setIfInBounds 257 v=tbC cl C v nv:=tbC_put _ _ _ _ _ _ _ _ 1 (by decide) rfl
theorem tbC_set258 (cl:Nat→Nat) (C:Nat) (gv nv v:Value):(tbC cl C gv nv).setIfInBounds 258 v=tbC cl C gv v:=tbC_put _ _ _ _ _ _ _ _ 2 (by decide) rfl
theorem tbC_build (C:Nat):zcTb.setIfInBounds 256 (.int .i64 (C:Int))=tbC (fun _=>0) C (.slice none 0 0) (.slice none 0 0):=tbC_set256 _ _ _ _ _
theorem tbC_congr {cl cl':Nat→Nat} (h:∀ b,b < 256→cl b=cl' b) (C:Nat) (gv nv:Value):tbC cl C gv nv=tbC cl' C gv nv:=by
 apply Array.ext_getElem?
 intro k
 by_cases h2:k < 256
 ·rw [tbC_cl _ _ _ _ h2,tbC_cl _ _ _ _ h2,h k h2]
 ·obtain ⟨j,rfl⟩:∃ j,k=256+j:=⟨k - 256,by omega⟩
  rw [tbC_tail,tbC_tail]
theorem tbC_257 (cl:Nat→Nat) (C:Nat) (gv nv:Value):(tbC cl C gv nv)[257]?=some gv:=tbC_tail cl C gv nv 1
theorem tbC_258 (cl:Nat→Nat) (C:Nat) (gv nv:Value):(tbC cl C gv nv)[258]?=some nv:=tbC_tail cl C gv nv 2
theorem BR.of {w:World} {B:Nat} {v:Value} {bs:List Bool} {y:Bool} (h:w.ownsRow B 4 1 v (bs.length+1) (bcs bs++[.bool y])):BR w B v (bs++[y]):=by
 unfold BR bcs;rw [List.length_append,List.map_append];exact h
theorem own_two {w:World} {B B' e e' z z' n n':Nat} {v v':Value} {xs xs':List Value} (h:w.ownsRow B e z v n xs) (h':w.ownsRow B' e' z' v' n' xs') (hne:e≠e'):∀ q,v.ownBlock=some q→v'.ownBlock≠some q:=fun q hq hq'=>by
 rcases h.2 with ⟨rfl,_⟩ | ⟨g,cap,cur,rfl,_,hg,_⟩
 ·simp [Value.ownBlock] at hq
 ·rcases h'.2 with ⟨rfl,_⟩ | ⟨g',cap',cur',rfl,_,hg',_⟩
  ·simp [Value.ownBlock] at hq'
  ·have e1:g=q:=by simpa [Value.ownBlock] using hq
   have e2:g'=q:=by simpa [Value.ownBlock] using hq'
   subst e1;subst e2
   rw [hg] at hg';simp at hg';exact hne hg'.2
structure PgI (B g:Nat) (w wr:World) (cl:Nat→Nat) (C:Nat) (gv nv:Value) (bs:List Bool) (ns:List Nat):Prop where
 below:Below B w wr
 hB:B≤g
 bT:wr.heap[g]?=some (.cells (tbC cl C gv nv) 47 (0,0))
 rg:BR wr B gv bs
 rn:NR wr B nv ns
section
variable {B g : Nat} {w wr w2 : World} {cl : Nat → Nat} {C : Nat} {gv nv : Value} {bs : List Bool} {ns : List Nat}
theorem PgI.lt (h:PgI B g w wr cl C gv nv bs ns):g < wr.heap.size:=(Array.getElem?_eq_some_iff.1 h.bT).1
theorem PgI.le (h:PgI B g w wr cl C gv nv bs ns):B≤wr.heap.size:=by have:=h.lt;have:=h.hB;omega
theorem PgI.drew (h:PgI B g w wr cl C gv nv bs ns):PgI B g w wr.drew cl C gv nv bs ns:=⟨h.below.drew,h.hB,h.bT,h.rg,h.rn⟩
theorem PgI.alloc (h:PgI B g w wr cl C gv nv bs ns) (o:Obj):PgI B g w (wr.alloc o) cl C gv nv bs ns :=
 ⟨h.below.alloc h.le _,h.hB,(Fr.ofAlloc wr o).at h.bT (by simp),(Fr.ofAlloc wr o).own h.rg (by simp),(Fr.ofAlloc wr o).own h.rn (by simp)⟩
theorem PgI.congr (h:PgI B g w wr cl C gv nv bs ns) {cl':Nat→Nat} (he:∀ b,b < 256→cl b=cl' b):PgI B g w wr cl' C gv nv bs ns:=⟨h.below,h.hB,by rw [←tbC_congr he];exact h.bT,h.rg,h.rn⟩
theorem PgI.cls (h:PgI B g w wr cl C gv nv bs ns) {b:Nat} (hb:b < 256) (x:Nat):PgI B g w (wr.setCell ⟨g,b,none⟩ (.int .i64 ((x:Nat):Int))) (fun c=>if c=b then x else cl c) C gv nv bs ns :=
 ⟨below_set h.below h.hB,h.hB,by rw [heap_setCell_same _ _ _ _ _ _ h.bT,tbC_set _ _ _ _ hb],(Fr.ofSet _ _ _ _).own h.rg (fun q hq=>by simpa using own_off h.rg h.bT (by decide) q hq),(Fr.ofSet _ _ _ _).own h.rn (fun q hq=>by simpa using own_off h.rn h.bT (by decide) q hq)⟩
theorem PgI.grant (h:PgI B g w wr cl C gv nv bs ns) {v':Value} {y:Bool} (hgrow:wr.grownBy w2 gv.ownBlock) (ho:w2.ownsRow B 4 1 v' (bs.length+1) (bcs bs++[.bool y])) :
  w2.cell? ⟨g,257,none⟩=some gv∧w2.frozen? ⟨g,257,none⟩=false∧PgI B g w (w2.setCell ⟨g,257,none⟩ v') cl C v' nv (bs++[y]) ns:=by
 have e2:=own_off h.rg h.bT (by decide)
 have g2:w2.heap[g]?=_:=(Fr.ofGrown hgrow).at h.bT (fun hm=>e2 _ (Option.mem_toList.1 hm) rfl)
 have hn2:NR w2 B nv ns:=(Fr.ofGrown hgrow).own h.rn (fun q hq hm=>own_two h.rn h.rg (by decide) q hq (Option.mem_toList.1 hm))
 refine ⟨by rw [cell_of_row _ _ _ _ _ _ g2,tbC_257],frozen_of_row _ _ _ _ _ g2,below_set (below_grown h.below hgrow h.le (fun q hq=>(h.rg.lt q hq).1)) h.hB,h.hB,by rw [heap_setCell_same _ _ _ _ _ _ g2,tbC_set257],?_,?_⟩
 ·exact (Fr.ofSet _ _ _ _).own (BR.of ho) (fun q hq=>by simpa using own_off ho g2 (by decide) q hq)
 ·exact (Fr.ofSet _ _ _ _).own hn2 (fun q hq=>by simpa using own_off hn2 g2 (by decide) q hq)
theorem PgI.edge (h:PgI B g w wr cl C gv nv bs ns) {v':Value} {y:Nat} (hgrow:wr.grownBy w2 nv.ownBlock) (ho:w2.ownsRow B 3 1 v' (ns.length+1) (ncs ns++[.int .i64 (y:Int)])) :
  w2.cell? ⟨g,258,none⟩=some nv∧w2.frozen? ⟨g,258,none⟩=false∧PgI B g w (w2.setCell ⟨g,258,none⟩ v') cl C gv v' bs (ns++[y]):=by
 have e2:=own_off h.rn h.bT (by decide)
 have g2:w2.heap[g]?=_:=(Fr.ofGrown hgrow).at h.bT (fun hm=>e2 _ (Option.mem_toList.1 hm) rfl)
 have hn2:BR w2 B gv bs:=(Fr.ofGrown hgrow).own h.rg (fun q hq hm=>own_two h.rg h.rn (by decide) q hq (Option.mem_toList.1 hm))
 refine ⟨by rw [cell_of_row _ _ _ _ _ _ g2,tbC_258],frozen_of_row _ _ _ _ _ g2,below_set (below_grown h.below hgrow h.le (fun q hq=>(h.rn.lt q hq).1)) h.hB,h.hB,by rw [heap_setCell_same _ _ _ _ _ _ g2,tbC_set258],?_,?_⟩
 ·exact (Fr.ofSet _ _ _ _).own hn2 (fun q hq=>by simpa using own_off hn2 g2 (by decide) q hq)
 ·exact (Fr.ofSet _ _ _ _).own (NR.of ho) (fun q hq=>by simpa using own_off ho g2 (by decide) q hq)
end
theorem appBs {ops:Array Oper} {o:Oper} {a:Act} {W:World} {K:Act→World→Prop} {Q:Exit→Act→World→Prop} {E:Prop} (hgd:o.guard=none) (s x:Operand)
  (ho:o.op=.call { callee:=.builtin .append,args:=#[s,x],argTypes:=#[45,45] }) (B:Nat) (v:Value) (xs:List Bool) (hs:a.eval s=v) (hown:BR W B v xs) (g0:Nat) (y:Bool)
  (hx:a.eval x=.slice (some ⟨g0,0,none⟩) 1 1) (hc:W.cell? ⟨g0,0,none⟩=some (.bool y)) (hlen:xs.length≤3000000) (hB:B≤W.heap.size) (H:Nat) (hH:W.heap.size=H)
  (h:∀ g cap w',w'.ownsRow B 4 1 (.slice (some ⟨g,0,none⟩) (xs.length+1) cap) (xs.length+1) (bcs xs++[.bool y])→W.grownBy w' v.ownBlock→(v.ownBlock=some g∨g=H)→g < w'.heap.size→K (a.put o.dst (.slice (some ⟨g,0,none⟩) (xs.length+1) cap)) w') :
  if Region.wanted o (yielded ops a.tmps)=true then Oper.wp Tryz.prog o a W K Q else E:=by
 obtain ⟨i,i0,i1,i2,i3⟩:=info_of infoB
 exact step_append_lies W hgd s x 45 ho B 4 i (.bool false) 1 1 Tryz.underlying45 i0 i1 i2 i3 rfl (by decide) v xs.length (bcs xs) hs hown ⟨g0,0,none⟩ 1 1 [.bool y] hx rfl (one_cells hc) (by intro u hu;simp at hu;subst hu;rfl) (by decide) (by unfold maxLen;omega) (by omega) hB H hH h
end Mc
end Go.Proofs.YtobfpgoepaeknaaGreat
namespace Go.Proofs.YtobfpgoepaeknaaGreat
namespace Mc
open Go.RowKit
theorem own_less {w:World} {B B' e z:Nat} {v:Value} {n:Nat} {xs:List Value} (h:w.ownsRow B e z v n xs) (hB:B'≤B):w.ownsRow B' e z v n xs:=by
 refine ⟨h.1,?_⟩
 rcases h.2 with h2 | ⟨g,cap,cur,hv,hg,r⟩
 ·exact Or.inl h2
 ·exact Or.inr ⟨g,cap,cur,hv,Nat.le_trans hB hg,r⟩
theorem map_snoc {α:Type} (f:Nat→α) (k:Nat):(List.range (k+1)).map f=(List.range k).map f++[f k]:=by rw [List.range_succ,List.map_append];rfl
theorem PgI.start (w:World) (o:Obj) (C:Nat):PgI (w.heap.size+1) (w.heap.size+1) (w.alloc o) ((w.alloc o).alloc (.cells (tbC (fun _=>0) C (.slice none 0 0) (.slice none 0 0)) 47)) (fun _=>0) C (.slice none 0 0) (.slice none 0 0) [] []:=by
 refine ⟨?_,Nat.le_refl _,heap_alloc2_new w _ _,World.ownsRow_nil _ _ _ _,World.ownsRow_nil _ _ _ _⟩
 have h:Below (w.alloc o).heap.size (w.alloc o) _:=(Below.refl _ _).alloc (Nat.le_refl _) (.cells (tbC (fun _=>0) C (.slice none 0 0) (.slice none 0 0)) 47)
 simpa using h
theorem Fr.belowOf {a w w':World} {g B:Nat} (h:Fr [g] w w') (hb:Below B a w) (hB:B≤w.heap.size) (hg:B≤g):Below B a w':=hb.trans ⟨h.os,h.tape,h.output,h.size,fun k hk=>h.block k (Nat.lt_of_lt_of_le hk hB) (by simp;omega)⟩
section
attribute [local go_sem ↓] Go.wp_at_zero Go.wp_at_succ zvTb
attribute [local go_sem] zcTb_size zcTb_ne aggcells
set_option maxRecDepth 20000 in
set_option maxHeartbeats 2000000 in
theorem parsed_any (w:World) (C:Nat) (cs gs ns:ByteArray) (hc:cs.size=256) (hg:gs.size≤1000) (hn:ns.size≤1000) :
  Calls Tryz.prog 130 #[.int .i64 (C:Int),.string cs,.string gs,.string ns] w fun e w'=>Below w.heap.size w w'∧∃ gv nv,e=.returned (.agg (tbC (bt cs) C gv nv))∧BR w' w.heap.size gv ((List.range gs.size).map fun q=>decide (bt gs q=1))∧NR w' w.heap.size nv ((List.range ns.size).map (bt ns)):=by
 have HR1:Hid ((w.alloc (.cells zcTb 47)).heap[w.heap.size]?=some (.cells zcTb 47 (0,0))):=heap_alloc_new _ _
 have HB1:Hid (Below w.heap.size w (w.alloc (.cells zcTb 47))):=(Below.refl _ _).alloc (Nat.le_refl _) _
 have HO0:=hide (PgI.start w (.cells zcTb 47) C)
 have hcI:(cs.size:Int)=256:=by omega
 have hgI:(gs.size:Int)≤1000:=by omega
 have hnI:(ns.size:Int)≤1000:=by omega
 have HG:=hide hg
 have HN:=hide hn
 have HCS:=hide hc
 clear hc hg hn
 go_enter Tryz.func130,Tryz.ntmps130
 go_wp2_with (refine store_row rfl 47 _ _ rfl rfl (w.heap.size+1) _ rfl rfl 47 _ (heap_alloc2_new w _ (Obj.cells zcTb 47)) (by rw [tbC_build,tbC_size];exact infoT) (by rw [tbC_build,tbC_size,zcTb_size]) (by rw [tbC_build];exact tbC_one _ _ _ _ _ _ _ _) ?_;rw [tbC_build,setRow_alloc2'])
 generalize (w.alloc (.cells zcTb 47)).alloc (.cells (tbC (fun _=>0) C (.slice none 0 0) (.slice none 0 0)) 47)=w2 at *
 generalize hw1:w.alloc (.cells zcTb 47)=w1 at *
 clear hw1
 generalize hH1:w.heap.size+1=H1 at *
 have HH1:=hide hH1
 clear hH1
 go_loopw [10] (fun bx wr=>∃ b:Nat,bx=.int .i64 (b:Int)∧Hid (b≤256∧PgI H1 H1 w1 wr (fun c=>if c < b then bt cs c else 0) C (.slice none 0 0) (.slice none 0 0) [] [])) (fun bx _=>lenLeft 256 bx)
 case atStart=>exact ⟨0,rfl,Nat.zero_le _,(unhide HO0).congr (fun b _=>by rw [if_neg (Nat.not_lt_zero _)])⟩
 case round =>
  clear HO0
  rename World=>wr
  obtain ⟨b,rfl,HH⟩:=hrel
  obtain ⟨hb256,hI⟩:=unhide HH
  clear HH
  by_cases hlt:b < 256
  ·have hbI:(b:Int) < 256:=by omega
   have hbS:(b:Int) < (cs.size:Int):=by omega
   have hbN:b < cs.size:=by omega
   have HLT:=hide hlt
   have hbt:=bt_at cs b
   have hbt2:((bt cs b:Nat):Int) < 256:=by have:=bt_le cs b;omega
   have h0:(0:Int)≤(b:Int):=by omega
   have h1:((b:Int)).toNat=b:=by omega
   have y0:wr.cell? ⟨H1,b,none⟩=some (.int .i64 ((0:Nat):Int)):=by rw [cell_of_row _ _ _ _ _ _ hI.bT,tbC_cl _ _ _ _ hlt,if_neg (Nat.lt_irrefl _)]
   have z0:wr.frozen? ⟨H1,b,none⟩=false:=frozen_of_row _ _ _ _ _ hI.bT
   have HN1:Hid (PgI H1 H1 w1 (wr.setCell ⟨H1,b,none⟩ (.int .i64 ((bt cs b:Nat):Int))) (fun c=>if c < b+1 then bt cs c else 0) C (.slice none 0 0) (.slice none 0 0) [] []):=(hI.cls hlt (bt cs b)).congr (fun c _=>by
    by_cases e:c=b
    ·subst e;rw [if_pos rfl,if_pos (by omega)]
    ·rw [if_neg e]
     by_cases e2:c < b
     ·rw [if_pos e2,if_pos (by omega)]
     ·rw [if_neg e2,if_neg (by omega)])
   clear hI hb256 hlt
   go_wp2_with fail
   go_roundw
   case rel=>exact ⟨b+1,by go_num,unhide HLT,unhide HN1⟩
   case measure=>have:=unhide HLT;simp [lenLeft,intOf];omega
  ·have hb2:¬(b:Int) < 256:=by omega
   have HI2:Hid (PgI H1 H1 w1 wr (bt cs) C (.slice none 0 0) (.slice none 0 0) [] []):=hI.congr (fun c hc=>by rw [if_pos (by omega)])
   clear hI hb256 hlt
   go_wp2_with fail
   go_loopw [11] (fun ix wq=>∃ (i:Nat) (ga:Option Addr) (gc:Nat) (bs:List Bool),ix=.int .i64 (i:Int)∧Hid (i≤gs.size∧bs=(List.range i).map (fun q=>decide (bt gs q=1))∧PgI H1 H1 w1 wq (bt cs) C (.slice ga bs.length gc) (.slice none 0 0) bs [])) (fun ix _=>lenLeft gs.size ix)
   case atStart=>exact ⟨0,none,0,[],rfl,Nat.zero_le _,rfl,unhide HI2⟩
   case round =>
    clear HI2
    rename World=>wq
    obtain ⟨i,ga,gc,bs,rfl,HH⟩:=hrel
    obtain ⟨hi,hbs,hI⟩:=unhide HH
    clear HH
    by_cases hlt:i < gs.size
    ·have hiI:(i:Int) < (gs.size:Int):=by omega
     have HLT:=hide hlt
     have hbt:=bt_at gs i
     have hbt2:((bt gs i:Nat):Int) < 256:=by have:=bt_le gs i;omega
     have h0:(0:Int)≤(i:Int):=by omega
     have h1:((i:Int)).toNat=i:=by omega
     have HSN:Hid (bs++[decide (bt gs i=1)]=(List.range (i+1)).map (fun q=>decide (bt gs q=1))):=by show _=_;rw [map_snoc,hbs]
     have c7:wq.cell? ⟨H1,257,none⟩=some (.slice ga bs.length gc):=by rw [cell_of_row _ _ _ _ _ _ hI.bT,tbC_257]
     have hlH:H1 < wq.heap.size:=hI.lt
     have HXA:=hide (fun y:Bool=>(hI.alloc (Obj.cells #[.bool y] 4)).drew)
     have HCE:Hid (∀ y:Bool,((wq.alloc (Obj.cells #[.bool y] 4)).drew).cell? ⟨wq.heap.size,0,none⟩=some (.bool y)):=fun y=>by rw [cell_drew];exact new_cell rfl
     have HLEN:Hid (bs.length≤3000000):=by show _≤_;rw [hbs];have:=unhide HG;simp;omega
     have hyd:(((bt gs i:Nat):Int) == 1)=decide (bt gs i=1):=by
      by_cases h:bt gs i=1
      ·rw [h];rfl
      ·rw [decide_eq_false h];exact beq_eq_false_iff_ne.2 (by omega)
     rw [←hyd] at HSN
     clear hI hi hbs hlt hyd
     go_upto_region 9 with fail
     go_region_law (refine appBs (by rfl) _ _ (by rfl) H1 _ bs (by rfl) (by exact (unhide HXA _).rg) wq.heap.size _ (by rfl) (by exact unhide HCE _) (unhide HLEN) (by simp;omega) (wq.heap.size+1) (by simp) ?_;intro g5 cap5 w8 ho hgrow hlies hlt5;obtain ⟨c9,f9,hP9⟩:=(unhide HXA _).grant hgrow ho;have HP9:=hide hP9;clear ho hgrow hlies hP9)
     all_goals
      go_wp2_with fail
      go_roundw
      case rel =>
       exact ⟨i+1,_,_,bs++[_],by go_num,unhide HLT,unhide HSN,by rw [List.length_append];exact unhide HP9⟩
      case measure=>have:=unhide HLT;simp [lenLeft,intOf];omega
    ·have hi2:i=gs.size:=by omega
     subst hi2
     have HI3:=hide hI
     have HBS:=hide hbs
     clear hI hi hbs hlt
     go_wp2_with fail
     go_loopw [12] (fun jx wy=>∃ (j:Nat) (na:Option Addr) (nc:Nat) (xs:List Nat),jx=.int .i64 (j:Int)∧Hid (j≤ns.size∧xs=(List.range j).map (bt ns)∧PgI H1 H1 w1 wy (bt cs) C (.slice ga bs.length gc) (.slice na xs.length nc) bs xs)) (fun jx _=>lenLeft ns.size jx)
     case atStart=>exact ⟨0,none,0,[],rfl,Nat.zero_le _,rfl,unhide HI3⟩
     case round =>
      clear HI3
      rename World=>wy
      obtain ⟨j,na,nc,xs,rfl,HH⟩:=hrel
      obtain ⟨hj,hxs,hI⟩:=unhide HH
      clear HH
      by_cases hlt:j < ns.size
      ·have hjI:(j:Int) < (ns.size:Int):=by omega
       have HLT:=hide hlt
       have hbt:=bt_at ns j
       have hbt2:((bt ns j:Nat):Int) < 256:=by have:=bt_le ns j;omega
       have h0:(0:Int)≤(j:Int):=by omega
       have h1:((j:Int)).toNat=j:=by omega
       have HSN:Hid (xs++[bt ns j]=(List.range (j+1)).map (bt ns)):=by show _=_;rw [map_snoc,hxs]
       have c8:wy.cell? ⟨H1,258,none⟩=some (.slice na xs.length nc):=by rw [cell_of_row _ _ _ _ _ _ hI.bT,tbC_258]
       have hlH:H1 < wy.heap.size:=hI.lt
       have hyw:IntKind.i64.wrap ((bt ns j:Nat):Int)=((bt ns j:Nat):Int):=wrap_i64 _ (by have:=bt_le ns j;omega)
       generalize bt ns j=y at *
       have HXA:=hide (hI.alloc (Obj.cells #[.int .i64 (y:Int)] 3)).drew
       have HCE:Hid (((wy.alloc (Obj.cells #[.int .i64 (y:Int)] 3)).drew).cell? ⟨wy.heap.size,0,none⟩=some (.int .i64 (y:Int))):=by show _=_;rw [cell_drew];exact new_cell rfl
       have HLEN:Hid (xs.length≤3000000):=by show _≤_;rw [hxs];have:=unhide HN;simp;omega
       clear hI hj hxs hlt
       go_upto_region 13 with fail
       go_region_law (refine app1s (by rfl) _ _ (by rfl) H1 _ xs (by rfl) (by exact (unhide HXA).rn) wy.heap.size y (by rfl) (by exact unhide HCE) (unhide HLEN) (by simp;omega) (wy.heap.size+1) (by simp) ?_;intro g5 cap5 w8 ho hgrow hlies hlt5;obtain ⟨c9,f9,hP9⟩:=(unhide HXA).edge hgrow ho;have HP9:=hide hP9;clear ho hgrow hlies hP9)
       all_goals
        go_wp2_with fail
        go_roundw
        case rel=>exact ⟨j+1,_,_,xs++[y],by go_num,unhide HLT,unhide HSN,by rw [List.length_append];exact unhide HP9⟩
        case measure=>have:=unhide HLT;simp [lenLeft,intOf];omega
      ·have hj2:j=ns.size:=by omega
       subst hj2
       have HI4:=hide hI
       have HXS:=hide hxs
       have HRQ:Hid (wy.heap[w.heap.size]?=some (.cells zcTb 47 (0,0))):=(hI.below.block _ (by have:=unhide HH1;omega)).trans (unhide HR1)
       have HBQ:Hid (Below w.heap.size w wy):=(unhide HB1).trans (hI.below.mono (by have:=unhide HH1;omega))
       clear hI hj hxs hlt
       go_wp2_with (first
        | refine wpList_load_row rfl 47 _ rfl H1 rfl 47 _ (0,0) _ (unhide HI4).bT Tryz.underlying47 rfl (by rw [tbC_size];exact infoT) ?_
        | refine store_row rfl 47 _ _ rfl rfl w.heap.size _ rfl rfl 47 _ (unhide HRQ) (by rw [tbC_size];exact infoT) (by rw [tbC_size,zcTb_size]) (tbC_one _ _ _ _ _ _ _ _) ?_)
       refine bodyPost_ret (results_cell_row (p:=8) (ty:=47) rfl _ _ w.heap.size 47 _ (0,0) _ rfl (setRow_heap _ _ _ _ _ _ (unhide HRQ)) Tryz.underlying47 rfl (by rw [tbC_size];exact infoT)) rfl ?_
       have hle:w.heap.size≤H1:=by have:=unhide HH1;omega
       refine ⟨((Fr.ofRow _ w.heap.size _).belowOf (unhide HBQ) (unhide HBQ).size (Nat.le_refl _)),_,_,rfl,?_,?_⟩
       ·rw [←unhide HBS];exact own_less ((Fr.ofRow _ _ _).own (unhide HI4).rg (fun q hq=>by simpa using own_off (unhide HI4).rg (unhide HRQ) (by decide) q hq)) hle
       ·rw [←unhide HXS];exact own_less ((Fr.ofRow _ _ _).own (unhide HI4).rn (fun q hq=>by simpa using own_off (unhide HI4).rn (unhide HRQ) (by decide) q hq)) hle
end
end Mc
end Go.Proofs.YtobfpgoepaeknaaGreat
namespace Go.Proofs.YtobfpgoepaeknaaGreat
namespace Mc
open Go.RowKit
theorem res_row_tmp {P:Program} {fn:Func} {p u:Tmp} {ty:TypeId} (h:fn.results=#[.cell p ty,.tmp u]) (tmps:Array Value) (w:World) (g:Nat) (t:TypeId) (cs:Array Value) (fr:Nat × Nat) (d:TypeDesc)
  (hp:tmps.getD p undef=.pointer (some ⟨g,0,none⟩)) (hg:w.heap[g]?=some (.cells cs t fr)) (hu:P.underlying ty=some d) (hd:(match d with | .struct _ | .array _ _=>true | _=>false)=true) (hi:(P.info? ty).map (·.size)=some cs.size)
  (x:Value) (hx:tmps.getD u undef=x):(results fn tmps).run P w=.ok (.tuple #[.agg cs,x]) w:=by
 rw [results_cell_tmp h,hp,hx]
 simp [asAddr,run_loadVar_row w g t ty cs fr d hg hu hd hi]
theorem TOk_iff {t:ByteArray} (h1:1≤bt t 0) (h2:bt t 0≤24) (h3:1≤bt t 1) (h4:bt t 1≤24) (h5:tsz t 0≤t.size) :
  TOk t 0↔blw (t.extract 2 258) (bt t 1)=true∧blw (t.extract 258 (258+bt t 0)) 2=true∧blw (t.extract (258+bt t 0) (tsz t 0)) (bt t 0)=true:=by
 have e0:tsz t 0=258+bt t 0+bt t 0 * bt t 1:=by unfold tsz;rw [Nat.zero_add]
 have s1:(t.extract 2 258).size=256:=by rw [ByteArray.size_extract];omega
 have s2:(t.extract 258 (258+bt t 0)).size=bt t 0:=by rw [ByteArray.size_extract];omega
 have s3:(t.extract (258+bt t 0) (tsz t 0)).size=bt t 0 * bt t 1:=by rw [ByteArray.size_extract];omega
 rw [blw_true,blw_true,blw_true,s1,s2,s3]
 constructor
 ·intro h
  refine ⟨fun i hi=>?_,fun i hi=>?_,fun i hi=>?_⟩
  ·rw [bt_ext,if_pos (by omega)];have:=h.cl i hi;simpa using this
  ·rw [bt_ext,if_pos (by omega)];have:=h.gr i (by simpa using hi);simpa using this
  ·rw [bt_ext,if_pos (by omega)];have:=h.nx i (by simpa using hi);simpa using this
 ·rintro ⟨a,b,c⟩
  refine ⟨h1,h2,by simpa using h3,by simpa using h4,by omega,fun i hi=>?_,fun i hi=>?_,fun i hi=>?_⟩
  ·have:=a i hi;rw [bt_ext,if_pos (by omega)] at this;simpa using this
  ·have:=b i hi;rw [bt_ext,if_pos (by omega)] at this;simpa using this
  ·have hi':i < bt t 0 * bt t 1:=by simpa using hi
   have:=c i hi';rw [bt_ext,if_pos (by omega)] at this;simpa using this
def TRd (w w':World) (t:ByteArray) (e:Ending):Prop :=
 (TOk t 0∧∃ gv nv,e=.returned (.tuple #[.agg (tbC (tabAt t 0).cl (tabAt t 0).C gv nv),.int .i64 ((tsz t 0:Nat):Int)])∧BR w' w.heap.size gv ((List.range (tabAt t 0).S).map (tabAt t 0).gr)∧NR w' w.heap.size nv ((List.range ((tabAt t 0).S * (tabAt t 0).C)).map fun k=>bt t (258+bt t 0+k))) ∨
 (¬TOk t 0∧e=.returned (.tuple #[.agg zcTb,.int .i64 0]))
theorem parsed_tab (w:World) (t:ByteArray) (S C:Nat) (hS:bt t 0=S) (hC:bt t 1=C) (hl:258+S+S * C≤t.size) (h1:S≤1000) (h2:S * C≤1000) :
  Calls Tryz.prog 130 #[.int .i64 (C:Int),.string (t.extract 2 258),.string (t.extract 258 (258+S)),.string (t.extract (258+S) (258+S+S * C))] w fun e w'=>Below w.heap.size w w'∧∃ gv nv,e=.returned (.agg (tbC (tabAt t 0).cl (tabAt t 0).C gv nv))∧BR w' w.heap.size gv ((List.range (tabAt t 0).S).map (tabAt t 0).gr)∧NR w' w.heap.size nv ((List.range ((tabAt t 0).S * (tabAt t 0).C)).map fun k=>bt t (258+bt t 0+k)):=by
 have s1:(t.extract 2 258).size=256:=by rw [ByteArray.size_extract];omega
 have s2:(t.extract 258 (258+S)).size=S:=by rw [ByteArray.size_extract];omega
 have s3:(t.extract (258+S) (258+S+S * C)).size=S * C:=by rw [ByteArray.size_extract];omega
 refine (parsed_any w C _ _ _ s1 (by omega) (by omega)).mono ?_
 rintro e w' ⟨hb,gv,nv,rfl,hg,hn⟩
 have e1:(tabAt t 0).S=S:=by rw [←hS];rfl
 have e2:(tabAt t 0).C=C:=by rw [←hC];rfl
 refine ⟨hb,gv,nv,?_,?_,?_⟩
 ·rw [e2,tbC_congr (cl':=(tabAt t 0).cl)]
  intro b hb
  rw [bt_ext,if_pos (by omega)]
  show _=bt t (0+2+b)
  rw [Nat.zero_add]
 ·rw [s2] at hg
  rw [e1]
  have:(List.range S).map (tabAt t 0).gr=(List.range S).map fun q=>decide (bt (t.extract 258 (258+S)) q=1):=by
   refine List.map_congr_left fun q hq=>?_
   have hq':=List.mem_range.1 hq
   rw [bt_ext,if_pos (by omega)]
   show decide (bt t (0+258+q)=1)=_
   rw [Nat.zero_add]
  rw [this];exact hg
 ·rw [s3] at hn
  rw [e1,e2,hS]
  have:((List.range (S * C)).map fun k=>bt t (258+S+k))=(List.range (S * C)).map (bt (t.extract (258+S) (258+S+S * C))):=by
   refine List.map_congr_left fun q hq=>?_
   have hq':=List.mem_range.1 hq
   rw [bt_ext,if_pos (by omega)]
  rw [this];exact hn
section
attribute [local go_sem ↓] Go.wp_at_zero Go.wp_at_succ zvTb
attribute [local go_sem] zcTb_size zcTb_ne aggcells
set_option maxRecDepth 20000 in
set_option maxHeartbeats 2000000 in
theorem TRead_any (w:World) (t:ByteArray) (ht:t.size≤9223372036854775807) :
  Calls Tryz.prog 87 #[.string t] w fun e w'=>Below w.heap.size w w'∧TRd w w' t e:=by
 have HR1:Hid ((w.alloc (.cells zcTb 47)).heap[w.heap.size]?=some (.cells zcTb 47 (0,0))):=heap_alloc_new _ _
 have HB1:Hid (Below w.heap.size w (w.alloc (.cells zcTb 47))):=(Below.refl _ _).alloc (Nat.le_refl _) _
 have HBX:Hid (Below w.heap.size w ((w.alloc (.cells zcTb 47)).setRow w.heap.size zcTb)):=(Fr.ofRow _ w.heap.size zcTb).belowOf (unhide HB1) (unhide HB1).size (Nat.le_refl _)
 have htI:(t.size:Int)≤9223372036854775807:=by omega
 by_cases h258:t.size < 258
 ·have hI:(t.size:Int) < 258:=by omega
  have HF:Hid (¬TOk t 0):=fun h=>by have:=h.size;have:=tsz_pos t 0;omega
  clear h258 ht
  go_enter Tryz.func87,Tryz.ntmps87
  go_wp2_with (refine store_row rfl 47 _ _ rfl rfl w.heap.size zcTb rfl rfl 47 _ (unhide HR1) (by rw [zcTb_size];exact infoT) rfl (tbC_one _ _ _ _ _ _ _ _) ?_)
  exact bodyPost_ret (v:=.tuple #[.agg zcTb,.int .i64 0])
   (res_row_tmp (p:=2) (u:=3) (ty:=47) rfl _ _ w.heap.size 47 _ (0,0) _ rfl (setRow_heap _ _ _ _ _ _ (unhide HR1)) Tryz.underlying47 rfl (by rw [zcTb_size];exact infoT) _ rfl) rfl
   ⟨unhide HBX,.inr ⟨unhide HF,rfl⟩⟩
 ·have hI:(258:Int)≤(t.size:Int):=by omega
  have l0:0 < t.size:=by omega
  have l1:1 < t.size:=by omega
  have b0:=bt_at t 0
  have b1:=bt_at t 1
  have b0I:((bt t 0:Nat):Int) < 256:=by have:=bt_le t 0;omega
  have b1I:((bt t 1:Nat):Int) < 256:=by have:=bt_le t 1;omega
  obtain ⟨S,hS⟩:∃ S,bt t 0=S:=⟨_,rfl⟩
  obtain ⟨C,hC⟩:∃ C,bt t 1=C:=⟨_,rfl⟩
  rw [hS] at b0 b0I
  rw [hC] at b1 b1I
  have hsc:((S:Int) < 1)∨(1≤(S:Int)∧24 < (S:Int))∨(1≤(S:Int)∧(S:Int)≤24∧(C:Int) < 1)∨(1≤(S:Int)∧(S:Int)≤24∧1≤(C:Int)∧24 < (C:Int))∨(1≤(S:Int)∧(S:Int)≤24∧1≤(C:Int)∧(C:Int)≤24):=by omega
  rcases hsc with i1 | ⟨i1,i2⟩ | ⟨i1,i2,i3⟩ | ⟨i1,i2,i3,i4⟩ | ⟨i1,i2,i3,i4⟩
  iterate 4
   ·have HF:Hid (¬TOk t 0):=fun h=>by have:=h.s1;have:=h.s2;have:=h.c1;have:=h.c2;rw [Nat.zero_add] at *;omega
    clear h258 ht hS hC
    go_enter Tryz.func87,Tryz.ntmps87
    go_wp2_with (refine store_row rfl 47 _ _ rfl rfl w.heap.size zcTb rfl rfl 47 _ (unhide HR1) (by rw [zcTb_size];exact infoT) rfl (tbC_one _ _ _ _ _ _ _ _) ?_)
    exact bodyPost_ret (v:=.tuple #[.agg zcTb,.int .i64 0])
     (res_row_tmp (p:=2) (u:=3) (ty:=47) rfl _ _ w.heap.size 47 _ (0,0) _ rfl (setRow_heap _ _ _ _ _ _ (unhide HR1)) Tryz.underlying47 rfl (by rw [zcTb_size];exact infoT) _ rfl) rfl
     ⟨unhide HBX,.inr ⟨unhide HF,rfl⟩⟩
  have hSC:S * C≤576:=Nat.mul_le_mul (show S≤24 by omega) (show C≤24 by omega)
  have e1:(258:Int)+(S:Int)=((258+S:Nat):Int):=by omega
  have e2:(S:Int) * (C:Int)=((S * C:Nat):Int):=by rw [Int.natCast_mul]
  have e3:((258+S:Nat):Int)+((S * C:Nat):Int)=((258+S+S * C:Nat):Int):=by omega
  have w1:=wrap_i64 (258+S) (by omega)
  have w2:=wrap_i64 (S * C) (by omega)
  have w3:=wrap_i64 (258+S+S * C) (by omega)
  have hts:tsz t 0=258+S+S * C:=by unfold tsz;rw [Nat.zero_add,hS,hC]
  by_cases hlen:t.size < 258+S+S * C
  ·have hlI:(t.size:Int) < ((258+S+S * C:Nat):Int):=by omega
   have HF:Hid (¬TOk t 0):=fun h=>by have:=h.size;omega
   clear h258 ht hS hC hlen hSC hts
   generalize 258+S+S * C=z at *
   generalize 258+S=y at *
   generalize S * C=x at *
   go_enter Tryz.func87,Tryz.ntmps87
   go_wp2_with (refine store_row rfl 47 _ _ rfl rfl w.heap.size zcTb rfl rfl 47 _ (unhide HR1) (by rw [zcTb_size];exact infoT) rfl (tbC_one _ _ _ _ _ _ _ _) ?_)
   exact bodyPost_ret (v:=.tuple #[.agg zcTb,.int .i64 0])
    (res_row_tmp (p:=2) (u:=3) (ty:=47) rfl _ _ w.heap.size 47 _ (0,0) _ rfl (setRow_heap _ _ _ _ _ _ (unhide HR1)) Tryz.underlying47 rfl (by rw [zcTb_size];exact infoT) _ rfl) rfl
    ⟨unhide HBX,.inr ⟨unhide HF,rfl⟩⟩
  ·have hiff:=TOk_iff (t:=t) (by omega) (by omega) (by omega) (by omega) (by omega)
   have hlI:((258+S+S * C:Nat):Int)≤(t.size:Int):=by omega
   have hyl:((258+S:Nat):Int)≤((258+S+S * C:Nat):Int):=by omega
   have hyl2:((258+S:Nat):Int)≤(t.size:Int):=by omega
   have hy0:(258:Int)≤((258+S:Nat):Int):=by omega
   have n1:(((258+S:Nat):Int)).toNat=258+S:=by omega
   have n2:(((258+S+S * C:Nat):Int)).toNat=258+S+S * C:=by omega
   have s1:(t.extract 2 258).size=256:=by rw [ByteArray.size_extract];omega
   have s2:(t.extract 258 (258+S)).size=S:=by rw [ByteArray.size_extract];omega
   have s3:(t.extract (258+S) (258+S+S * C)).size=S * C:=by rw [ByteArray.size_extract];omega
   rw [hS,hC,hts] at hiff
   have HA1:=hide (fun W=>allBelow_any W (t.extract 2 258) C (by omega) (by omega))
   have HA2:=hide (fun W=>allBelow_any W (t.extract 258 (258+S)) 2 (by omega) (by omega))
   have HA3:=hide (fun W=>allBelow_any W (t.extract (258+S) (258+S+S * C)) S (by omega) (by omega))
   have HPA:=hide (parsed_tab (w.alloc (.cells zcTb 47)) t S C hS hC (by omega) (by omega) (by omega))
   generalize hv1:blw (t.extract 2 258) C=v1 at *
   generalize hv2:blw (t.extract 258 (258+S)) 2=v2 at *
   generalize hv3:blw (t.extract (258+S) (258+S+S * C)) S=v3 at *
   have HIFF:=hide hiff
   have HTS:=hide hts
   clear h258 ht hS hC hlen hSC hts s1 s2 s3 hv1 hv2 hv3 hiff
   generalize 258+S+S * C=z at *
   generalize 258+S=y at *
   generalize S * C=x at *
   go_enter Tryz.func87,Tryz.ntmps87
   go_wp2_with fail
   refine (unhide HA1 _).mono ?_
   rintro e w' ⟨rfl,rfl⟩
   cases v1
   ·have HF:Hid (¬TOk t 0):=fun h=>by have:=(unhide HIFF).1 h;simp at this
    clear HIFF HA1 HA2 HA3 HPA
    go_wp2_with (refine store_row rfl 47 _ _ rfl rfl w.heap.size zcTb rfl rfl 47 _ (unhide HR1) (by rw [zcTb_size];exact infoT) rfl (tbC_one _ _ _ _ _ _ _ _) ?_)
    exact bodyPost_ret (v:=.tuple #[.agg zcTb,.int .i64 0])
     (res_row_tmp (p:=2) (u:=3) (ty:=47) rfl _ _ w.heap.size 47 _ (0,0) _ rfl (setRow_heap _ _ _ _ _ _ (unhide HR1)) Tryz.underlying47 rfl (by rw [zcTb_size];exact infoT) _ rfl) rfl
     ⟨unhide HBX,.inr ⟨unhide HF,rfl⟩⟩
   ·go_wp2_with fail
    refine (unhide HA2 _).mono ?_
    rintro e w' ⟨rfl,rfl⟩
    cases v2
    ·have HF:Hid (¬TOk t 0):=fun h=>by have:=(unhide HIFF).1 h;simp at this
     clear HIFF HA1 HA2 HA3 HPA
     go_wp2_with (refine store_row rfl 47 _ _ rfl rfl w.heap.size zcTb rfl rfl 47 _ (unhide HR1) (by rw [zcTb_size];exact infoT) rfl (tbC_one _ _ _ _ _ _ _ _) ?_)
     exact bodyPost_ret (v:=.tuple #[.agg zcTb,.int .i64 0])
      (res_row_tmp (p:=2) (u:=3) (ty:=47) rfl _ _ w.heap.size 47 _ (0,0) _ rfl (setRow_heap _ _ _ _ _ _ (unhide HR1)) Tryz.underlying47 rfl (by rw [zcTb_size];exact infoT) _ rfl) rfl
      ⟨unhide HBX,.inr ⟨unhide HF,rfl⟩⟩
    ·go_wp2_with fail
     refine (unhide HA3 _).mono ?_
     rintro e w' ⟨rfl,rfl⟩
     cases v3
     ·have HF:Hid (¬TOk t 0):=fun h=>by have:=(unhide HIFF).1 h;simp at this
      clear HIFF HA1 HA2 HA3 HPA
      go_wp2_with (refine store_row rfl 47 _ _ rfl rfl w.heap.size zcTb rfl rfl 47 _ (unhide HR1) (by rw [zcTb_size];exact infoT) rfl (tbC_one _ _ _ _ _ _ _ _) ?_)
      exact bodyPost_ret (v:=.tuple #[.agg zcTb,.int .i64 0])
       (res_row_tmp (p:=2) (u:=3) (ty:=47) rfl _ _ w.heap.size 47 _ (0,0) _ rfl (setRow_heap _ _ _ _ _ _ (unhide HR1)) Tryz.underlying47 rfl (by rw [zcTb_size];exact infoT) _ rfl) rfl
       ⟨unhide HBX,.inr ⟨unhide HF,rfl⟩⟩
     ·have HT:Hid (TOk t 0):=(unhide HIFF).2 (by simp)
      clear HIFF HA1 HA2 HA3
      go_wp2_with fail
      refine (unhide HPA).mono ?_
      rintro e w3 ⟨hb3,gv,nv,rfl,hg3,hn3⟩
      obtain ⟨a1,k1,rfl⟩:=hg3.form
      obtain ⟨a2,k2,rfl⟩:=hn3.form
      have HR3:Hid (w3.heap[w.heap.size]?=some (.cells zcTb 47 (0,0))):=(hb3.block _ (by simp)).trans (unhide HR1)
      have HB3:Hid (Below w.heap.size w w3):=(unhide HB1).trans (hb3.mono (by simp))
      have HG3:=hide hg3
      have HN3:=hide hn3
      clear hb3 hg3 hn3 HPA
      generalize hbs:(List.range (tabAt t 0).S).map (tabAt t 0).gr=bs at *
      generalize hns:((List.range ((tabAt t 0).S * (tabAt t 0).C)).map fun k=>bt t (258+bt t 0+k))=ns at *
      have HBS:=hide hbs
      have HNS:=hide hns
      clear hbs hns
      go_wp2_with (refine store_row rfl 47 _ _ rfl rfl w.heap.size _ rfl rfl 47 _ (unhide HR3) (by rw [tbC_size];exact infoT) (by rw [tbC_size,zcTb_size]) (tbC_one _ _ _ _ _ _ _ _) ?_)
      refine bodyPost_ret
       (res_row_tmp (p:=2) (u:=3) (ty:=47) rfl _ _ w.heap.size 47 _ (0,0) _ rfl (setRow_heap _ _ _ _ _ _ (unhide HR3)) Tryz.underlying47 rfl (by rw [tbC_size];exact infoT) _ rfl) rfl ?_
      refine ⟨(Fr.ofRow _ w.heap.size _).belowOf (unhide HB3) (unhide HB3).size (Nat.le_refl _),.inl ⟨unhide HT,_,_,by rw [unhide HTS];rfl,?_,?_⟩⟩
      ·rw [unhide HBS];exact own_less ((Fr.ofRow _ _ _).own (unhide HG3) (fun q hq=>by simpa using own_off (unhide HG3) (unhide HR3) (by decide) q hq)) (by simp)
      ·rw [unhide HNS];exact own_less ((Fr.ofRow _ _ _).own (unhide HN3) (fun q hq=>by simpa using own_off (unhide HN3) (unhide HR3) (by decide) q hq)) (by simp)
end
end Mc
end Go.Proofs.YtobfpgoepaeknaaGreat
namespace Go.Proofs.YtobfpgoepaeknaaGreat
namespace Mc
open Go.RowKit
theorem infoTb:(Tryz.prog.info? 47).map (fun i=>(i.zero,i.size,i.bytes))=some (some (.agg zcTb),259,2104):=by kernel_rfl
def IsTb (w:World) (v:Value) (cs:Array Value):Prop:=∃ g,v=.pointer (some ⟨g,0,none⟩)∧w.heap[g]?=some (.cells cs 47 (0,0))∧cs.size=259
def HasTb (w:World) (v:Value):Prop:=∃ cs,IsTb w v cs
def tbOf (w:World) (v:Value):Array Value:=match v with
 | .pointer (some a)=>match w.heap[a.block]? with
  | some (.cells cs _ _)=>cs
  | _=>#[]
 | _=>#[]
theorem IsTb.has {w:World} {v:Value} {cs:Array Value} (h:IsTb w v cs):HasTb w v:=⟨cs,h⟩
theorem IsTb.of {w:World} {v:Value} {cs:Array Value} (h:IsTb w v cs):tbOf w v=cs:=by
 obtain ⟨g,rfl,h1,-⟩:=h
 simp only [tbOf,h1]
theorem wp_ldT {d:Option Tmp} {x:Operand} {ty:TypeId} {p:String} {af:Array Edge} {gd:Option (Nat × Bool)} {a:Act} {w:World} {K:Act→World→Prop} {Q:Exit→Act→World→Prop} (h:HasTb w (a.eval x)) :
  Oper.wp Tryz.prog { dst:=d,op:=.load 47 x,type:=ty,pos:=p,after:=af,guard:=gd } a w K Q=K (a.put d (.agg (tbOf w (a.eval x)))) w:=by
 obtain ⟨cs,hcs⟩:=h
 rw [hcs.of]
 obtain ⟨g,hv,hg,hs⟩:=hcs
 unfold Oper.wp execOp
 simp only [hv,Instr.loadAt,Instr.sureAddr,Sem.run_bind,Sem.run_pure,Result.andThen_ok,run_loadVar_row w g _ _ cs _ _ hg Tryz.underlying47 rfl (by rw [hs];exact infoT)]
 rfl
def IsTv (v:Value):Prop:=∃ cs,v=.agg cs∧cs.size=259
theorem wp_bsT {d:Option Tmp} {x:Operand} {ty:TypeId} {p:String} {af:Array Edge} {gd:Option (Nat × Bool)} {a:Act} {w:World} {K:Act→World→Prop} {Q:Exit→Act→World→Prop} (h:IsTv (a.eval x)) :
  Oper.wp Tryz.prog { dst:=d,op:=.buildSlice 74 1 #[(0,x)],type:=ty,pos:=p,after:=af,guard:=gd } a w K Q=K (a.put d (.slice (some ⟨w.heap.size,0,none⟩) 1 1)) (w.alloc (.cells (a.eval x).cells 47)):=by
 obtain ⟨cs,hv,hs⟩:=h
 obtain ⟨i,i0,i1,i2,i3⟩:=info_of infoTb
 unfold Oper.wp execOp
 have hf:Instr.fill (fun k=>some (k * i.size,i.size)) ((Array.range (1 * i.size)).map (zcTb[· % zcTb.size]!)) (#[(0,x)].map fun (k,y)=>(k,a.eval y)).toList=some cs:=by
  have:=Great.fill_whole (s:=259) (by decide) [.agg cs] ((Array.range (1 * i.size)).map (zcTb[· % zcTb.size]!)) (fun v hv=>by rw [List.mem_singleton.1 hv];exact hs) (by rw [Array.size_map,Array.size_range,i2];rfl)
  rw [i2] at this ⊢
  simp only [List.map_toArray,List.map_cons,List.map_nil,hv]
  simpa [Value.cells] using this
 simp only [Sem.run_bind,run_buildSlice w 74 47 1 _ cs i _ Tryz.underlying74 i0 i1 (by rw [i2];decide) (by rw [i2];decide) hf,Result.andThen_ok]
 rw [hv]
 rfl
theorem appT {ops:Array Oper} {o:Oper} {a:Act} {W:World} {K:Act→World→Prop} {Q:Exit→Act→World→Prop} {E:Prop} (hgd:o.guard=none) (s x:Operand)
  (ho:o.op=.call { callee:=.builtin .append,args:=#[s,x],argTypes:=#[74,74] }) (B:Nat) (v:Value) (n:Nat) (xs:List Value) (hs:a.eval s=v) (hown:W.ownsRow B 47 259 v n xs) (g0:Nat) (cs:Array Value)
  (hx:a.eval x=.slice (some ⟨g0,0,none⟩) 1 1) (hc:W.heap[g0]?=some (.cells cs 47 (0,0))) (hsz:cs.size=259) (h1:cs.all (·.oneCell')=true) (hlen:n≤1000) (hB:B≤W.heap.size) (H:Nat) (hH:W.heap.size=H)
  (h:∀ g cap w',w'.ownsRow B 47 259 (.slice (some ⟨g,0,none⟩) (n+1) cap) (n+1) (xs++cs.toList)→W.grownBy w' v.ownBlock→(v.ownBlock=some g∨g=H)→g < w'.heap.size→K (a.put o.dst (.slice (some ⟨g,0,none⟩) (n+1) cap)) w') :
  if Region.wanted o (yielded ops a.tmps)=true then Oper.wp Tryz.prog o a W K Q else E:=by
 obtain ⟨i,i0,i1,i2,i3⟩:=info_of infoTb
 refine step_append_lies W hgd s x 74 ho B 47 i (.agg zcTb) 259 2104 Tryz.underlying74 i0 i1 i2 i3 zcTb_size (by decide) v n xs hs hown ⟨g0,0,none⟩ 1 1 cs.toList hx (by simp [hsz]) (World.news_of_block hc) (fun u hu=>?_) (by decide) (by unfold maxLen;omega) (by omega) hB H hH h
 rw [←Array.all_toList] at h1
 exact List.all_eq_true.1 h1 u hu
end Mc
end Go.Proofs.YtobfpgoepaeknaaGreat
