/-
  The graph: the roll of the states that were met.
  The graph: what lies in memory while it is drawn.
  Plain mathematics: from the graph to the table: the kinds of states, the classes of letters; how many there can be.
  A graph in memory: what its calls tell. Lists that are looked up: table.at, table.same.
-/
import Derived.Test.YtobfpgoepaeknaaGreatPO12
import Derived.Deep.AppendLies
import Derived.Deep.OwnRows
import Derived.Test.YtobfpgoepaeknaaGreatPO11
namespace Go.Proofs.YtobfpgoepaeknaaGreat
open Go.RowKit
attribute [local go_sem ↓] Go.wp_at_zero Go.wp_at_succ
def Dj (u v:Value):Prop:=∀ q,u.ownBlock=some q→v.ownBlock=some q→False
theorem Dj.symm {u v:Value} (h:Dj u v):Dj v u:=fun q h1 h2=>h q h2 h1
theorem Dj.nil (v:Value):Dj (.slice none 0 0) v:=fun q h _=>by cases h
theorem Dj.lies {u v:Value} {g n cap H:Nat} (h:Dj u v) (hl:v.ownBlock=some g∨g=H) (hu:∀ q,u.ownBlock=some q→q < H):Dj u (.slice (some ⟨g,0,none⟩) n cap):=fun q h1 h2=>by
 have:g=q:=by simpa [Value.ownBlock] using h2
 subst this
 rcases hl with hl | hl
 ·exact h g h1 hl
 ·have:=hu g h1;omega
structure RollOk (B:Nat) (st nus:List Nat):Prop where
 len:nus.length=B
 no:∀ s,s < B→nus.getD s 0=0→∀ i,i < st.length→st.getD i 0≠s
 yes:∀ s,s < B→nus.getD s 0≠0→nus.getD s 0 - 1 < st.length∧st.getD (nus.getD s 0 - 1) 0=s
theorem getD_set {l:List Nat} {s x:Nat} (hs:s < l.length) (c:Nat):(l.set s x).getD c 0=if c=s then x else l.getD c 0:=by
 rw [List.getD_eq_getElem?_getD,List.getD_eq_getElem?_getD,List.getElem?_set]
 by_cases h:c=s
 ·subst h;rw [if_pos rfl,if_pos hs,if_pos rfl];rfl
 ·rw [if_neg (fun e=>h e.symm),if_neg h]
theorem RollOk.new {B:Nat} {st nus:List Nat} {s:Nat} (h:RollOk B st nus) (hs:s < B):RollOk B (st++[s]) (nus.set s (st.length+1)):=by
 have hl:s < nus.length:=by rw [h.len];exact hs
 have hl2:(st++[s]).length=st.length+1:=by simp
 refine ⟨by rw [List.length_set];exact h.len,fun t ht e i hi=>?_,fun t ht e=>?_⟩
 ·rw [getD_set hl] at e
  by_cases hts:t=s
  ·rw [if_pos hts] at e;omega
  ·rw [if_neg hts] at e
   by_cases hi2:i=st.length
   ·rw [hi2,getD_snoc_new];exact fun q=>hts q.symm
   ·rw [getD_snoc_old (by omega)];exact h.no t ht e i (by omega)
 ·rw [getD_set hl] at e ⊢
  by_cases hts:t=s
  ·rw [if_pos hts,Nat.add_sub_cancel,getD_snoc_new];exact ⟨by omega,hts.symm⟩
  ·rw [if_neg hts] at e ⊢
   have:=h.yes t ht e
   rw [getD_snoc_old this.1];exact ⟨by omega,this.2⟩
theorem RollOk.start {B:Nat}:RollOk B [] (List.replicate B 0) :=
 ⟨List.length_replicate,fun _ _ _ i hi=>absurd hi (Nat.not_lt_zero _),fun s hs e=>absurd (by simp [List.getD_eq_getElem?_getD,hs]) e⟩
theorem own_free {w:World} {B g cap:Nat} {e z n:Nat} {xs:List Value} (h:w.ownsRow B e z (.slice (some ⟨g,0,none⟩) n cap) n xs) (k:Nat):w.frozen? ⟨g,k,none⟩=false:=by
 rcases h.2 with ⟨he,_⟩ | ⟨g',cap',cur,he,h1,hg,rest⟩
 ·cases he
 ·simp only [Value.slice.injEq,Option.some.injEq,Addr.mk.injEq,and_true,true_and] at he
  obtain ⟨rfl,rfl⟩:=he
  exact frozen_of_row w g k _ _ hg
theorem natCells_set (xs:List Nat) (k x:Nat):(natCells xs).set k (.int .i64 ((x:Nat):Int))=natCells (xs.set k x):=by
 unfold natCells;rw [List.map_set]
theorem NRow.put {w:World} {B g cap:Nat} {xs:List Nat} (h:NRow w B (.slice (some ⟨g,0,none⟩) xs.length cap) xs) (k x:Nat):NRow (w.setCell ⟨g,k,none⟩ (.int .i64 ((x:Nat):Int))) B (.slice (some ⟨g,0,none⟩) xs.length cap) (xs.set k x):=by
 rcases h.2 with ⟨he,_⟩ | ⟨g',cap',cur,he,h1,hg,h2,h3,h4,h5⟩
 ·cases he
 ·simp only [Value.slice.injEq,Option.some.injEq,Addr.mk.injEq,and_true,true_and] at he
  obtain ⟨rfl,rfl⟩:=he
  have hl:(xs.set k x).length=xs.length:=List.length_set
  show World.ownsRow _ _ _ _ _ _ _
  rw [hl]
  refine ⟨by rw [←natCells_set,List.length_set];exact h.1,.inr ⟨g,cap,_,rfl,h1,heap_setCell_same _ _ _ _ _ _ hg,h2,h3,by simpa using h4,?_⟩⟩
  rw [Array.toList_setIfInBounds,List.take_set,h5,natCells_set]
set_option maxRecDepth 20000 in
theorem number_old (w:World) (gM B:Nat) (stv nuv:Value) (nus:List Nat) (s j:Nat) (hb:w.heap[gM]?=some (.cells #[stv,nuv] 136 (0,0))) (hn:NRow w B nuv nus) (hs:s < nus.length) (hl:nus.length≤10000) (h0:nus.getD s 0=j+1) (hj:j < 10000) :
  Calls Tryz.prog 68 #[.pointer (some ⟨gM,0,none⟩),.int .i64 (s:Int)] w fun e w'=>e=.returned (.int .i64 (j:Int))∧w'=w:=by
 obtain ⟨g,cap,rfl,hc⟩:=hn.at hs
 have c1:w.cell? ⟨gM,1,none⟩=some (.slice (some ⟨g,0,none⟩) nus.length cap):=by rw [cell_of_row _ _ _ _ _ _ hb];rfl
 rw [h0] at hc
 have hsI:(s:Int) < (nus.length:Int):=by omega
 have hs0:¬(s:Int) < 0:=by omega
 have hsN:¬nus.length≤s:=by omega
 have hlI:(nus.length:Int)≤10000:=by omega
 obtain ⟨x,hx⟩:∃ x:Int,x=((j+1:Nat):Int):=⟨_,rfl⟩
 rw [←hx] at hc
 have HX:Hid (x - 1=(j:Int)):=by show _=_;omega
 have hx1:1≤x:=by omega
 have hx2:x≤10000:=by omega
 have hne:¬x=0:=by omega
 clear hb hn hs hl h0 hj hx
 go_enter Tryz.func68,Tryz.ntmps68
 go_wp2
 go_ret
 exact ⟨ret_int (unhide HX),rfl⟩
set_option maxRecDepth 20000 in
set_option maxHeartbeats 1000000 in
theorem number_new (w:World) (gM B:Nat) (stv nuv:Value) (st nus:List Nat) (s:Nat) (hb:w.heap[gM]?=some (.cells #[stv,nuv] 136 (0,0))) (ht:NRow w B stv st) (hn:NRow w B nuv nus) (hd:Dj stv nuv) (hB:B≤w.heap.size) (hs:s < nus.length) (hl:nus.length≤10000) (hst:st.length≤10000) (h0:nus.getD s 0=0) :
  Calls Tryz.prog 68 #[.pointer (some ⟨gM,0,none⟩),.int .i64 (s:Int)] w fun e w'=>e=.returned (.int .i64 ((st.length:Nat):Int))∧∃ g cap,Fr (gM ::(stv.ownBlock.toList++nuv.ownBlock.toList)) w w'∧(stv.ownBlock=some g∨w.heap.size≤g) ∧
   w'.heap[gM]?=some (.cells #[.slice (some ⟨g,0,none⟩) (st.length+1) cap,nuv] 136 (0,0))∧NRow w' B (.slice (some ⟨g,0,none⟩) (st.length+1) cap) (st++[s])∧NRow w' B nuv (nus.set s (st.length+1)):=by
 obtain ⟨gn,capn,rfl,hc⟩:=hn.at hs
 obtain ⟨sa,sc,rfl⟩:=ht.form
 have c0:w.cell? ⟨gM,0,none⟩=some (.slice sa st.length sc):=by rw [cell_of_row _ _ _ _ _ _ hb];rfl
 have c1:w.cell? ⟨gM,1,none⟩=some (.slice (some ⟨gn,0,none⟩) nus.length capn):=by rw [cell_of_row _ _ _ _ _ _ hb];rfl
 have hgM:=(Array.getElem?_eq_some_iff.1 hb).1
 have hgn:gn < w.heap.size:=(hn.lt gn rfl).2
 rw [h0] at hc
 have hsI:(s:Int) < (nus.length:Int):=by omega
 have hs0:¬(s:Int) < 0:=by omega
 have hsN:¬nus.length≤s:=by omega
 have hlI:(nus.length:Int)≤10000:=by omega
 have hstI:(st.length:Int)≤10000:=by omega
 have HB:=hide hb
 have HT:=hide ht
 have HN:=hide hn
 have HD:=hide hd
 have HBS:=hide hB
 have HS:=hide hs
 have HST:=hide hst
 have HO2:=hide (World.ownsRow.alloc ht (Obj.cells #[.int .i64 (s:Int)] 3))
 obtain ⟨i,i0,i1,i2,i3⟩:=info_of info3
 have HI:=hide (And.intro i0 (And.intro i1 (And.intro i2 i3)))
 clear i0 i1 i2 i3 hb ht hn hd hB hs hl hst h0
 go_enter Tryz.func68,Tryz.ntmps68
 have HNG:Hid (gn≠gM):=own_off (unhide HN) (unhide HB) (by decide) gn rfl
 have HTG:Hid (∀ q,(Value.slice sa st.length sc).ownBlock=some q→q≠gM):=own_off (unhide HT) (unhide HB) (by decide)
 have hz0:(0:Int)=((0:Nat):Int):=rfl
 rw [←hz0] at hc
 clear hz0
 go_wp2_with (at_builtin;refine wpList_append_lies _ rfl (.tmp 28) (.tmp 30) 37 rfl B 3 i (.int .i64 0) 1 8 Tryz.underlying37 (unhide HI).1 (unhide HI).2.1 (unhide HI).2.2.1 (unhide HI).2.2.2 rfl (by decide) _ _ _ rfl (unhide HO2) ⟨w.heap.size,0,none⟩ 1 1 [.int .i64 (s:Int)] rfl rfl (cell_one_new _ _ _) (by intro u hu;simp at hu;subst hu;rfl) (by decide) (by have:=unhide HST;unfold maxLen;omega) (by have:=unhide HST;omega) (by have:=unhide HBS;simp;omega) (w.heap.size+1) (by simp) ?_;intro g cap w1 ho hgrow hlies hlt;have hfr:Fr (gM ::((Value.slice sa st.length sc).ownBlock.toList++(Value.slice (some ⟨gn,0,none⟩) nus.length capn).ownBlock.toList)) w w1:=(Fr.ofAlloc w _).mono (fun x hx=>by cases hx) |>.grown hgrow (fun k hk=>.inl (by simp only [List.mem_cons,List.mem_append];exact .inr (.inl (by rw [show (Value.slice sa st.length sc).ownBlock=some k from hk];simp))));have hb1:w1.heap[gM]?=some (.cells #[.slice sa st.length sc,.slice (some ⟨gn,0,none⟩) nus.length capn] 136 (0,0)):=(hgrow.block gM (by simp;omega) (fun e=>unhide HTG gM e.symm rfl)).trans ((Below.heap_alloc _ _ _ hgM).trans (unhide HB));have hn1:NRow w1 B (.slice (some ⟨gn,0,none⟩) nus.length capn) nus:=Fr.own (Fr.ofGrown hgrow) (World.ownsRow.alloc (unhide HN) _) (fun q hq hm=>unhide HD q (Option.mem_toList.1 hm) hq);have hgg:g≠gM:=own_off ho hb1 (by decide) g rfl;have hgn2:g≠gn:=(fun e=>by subst e;rcases hlies with hl | hl;exact unhide HD _ hl rfl;omega);have y0:w1.cell? ⟨gM,0,none⟩=some (.slice sa st.length sc):=(by rw [cell_of_row _ _ _ _ _ _ hb1];rfl);have y1:w1.cell? ⟨gM,1,none⟩=some (.slice (some ⟨gn,0,none⟩) nus.length capn):=(by rw [cell_of_row _ _ _ _ _ _ hb1];rfl);have z0:=frozen_of_row w1 gM 0 _ _ hb1;obtain ⟨gn',capn',hen,yn⟩:=hn1.at (unhide HS);simp only [Value.slice.injEq,Option.some.injEq,Addr.mk.injEq,and_true,true_and] at hen;obtain ⟨rfl,rfl⟩:=hen;have zn:w1.frozen? ⟨gn,s,none⟩=false:=own_free hn1 s;have HFR:=hide hfr;have HB1:=hide hb1;have HN1:=hide hn1;have HGG:=hide hgg;have HGN2:=hide hgn2;have HO:=hide ho;have HL:=hide hlies;have hng:=unhide HNG;clear hfr hb1 hn1 hgg hgn2 ho hgrow hlies)
 have hlI2:((st.length+1:Nat):Int)=(st.length:Int)+1:=by omega
 go_region
 all_goals
  go_wp2
  go_ret
  have hb2:=heap_setCell_same _ _ 0 _ _ (.slice (some ⟨g,0,none⟩) (st.length+1) cap) (unhide HB1)
  refine ⟨ret_int (by omega),g,cap,((unhide HFR).set (.inl (by simp)) _ _).set (.inl (by simp [Value.ownBlock])) _ _ |>.drew,?_,?_,?_,?_⟩
  ·rcases unhide HL with h | h
   ·exact .inl h
   ·exact .inr (by omega)
  ·show (World.setCell _ _ _).heap[gM]?=_
   rw [Below.heap_setCell _ _ _ _ (fun e=>hng e.symm)]
   exact hb2
  ·have h1:NRow (w1.setCell ⟨gM,0,none⟩ (.slice (some ⟨g,0,none⟩) (st.length+1) cap)) B (.slice (some ⟨g,0,none⟩) (st.length+1) cap) (st++[s]):=own_set_any (NRow.of (unhide HO)) (unhide HB1) (by decide) _ _
   exact Fr.own (Fr.ofSet _ gn s _) h1 (fun q hq hm=>by simp [Value.ownBlock] at hq hm;exact unhide HGN2 (by omega))
  ·have h1:NRow (w1.setCell ⟨gM,0,none⟩ (.slice (some ⟨g,0,none⟩) (st.length+1) cap)) B (.slice (some ⟨gn,0,none⟩) nus.length capn) nus:=own_set_any (unhide HN1) (unhide HB1) (by decide) _ _
   have h2:=NRow.put h1 s (st.length+1)
   have hl:(nus.set s (st.length+1)).length=nus.length:=List.length_set
   exact h2
end Go.Proofs.YtobfpgoepaeknaaGreat
namespace Go.Proofs.YtobfpgoepaeknaaGreat
open Go.RowKit
def boolCells (bs:List Bool):List Value:=bs.map fun b=>.bool b
def BRow (w:World) (B:Nat) (v:Value) (bs:List Bool):Prop:=w.ownsRow B 4 1 v bs.length (boolCells bs)
theorem BRow.form {w:World} {B:Nat} {v:Value} {xs:List Bool} (h:BRow w B v xs):(∃ a c,v=.slice a xs.length c):=by
 rcases h.2 with ⟨rfl,h0⟩ | ⟨g,cap,cur,rfl,_⟩
 ·exact ⟨none,0,by rw [h0]⟩
 ·exact ⟨_,_,rfl⟩
theorem BRow.of {w:World} {B:Nat} {v:Value} {xs:List Bool} {y:Bool} (h:w.ownsRow B 4 1 v (xs.length+1) (boolCells xs++[.bool y])):BRow w B v (xs++[y]):=by
 unfold BRow boolCells
 rw [List.length_append,List.map_append];exact h
theorem BRow.at {w:World} {B:Nat} {v:Value} {xs:List Bool} (h:BRow w B v xs) {k:Nat} (hk:k < xs.length):∃ g cap,v=.slice (some ⟨g,0,none⟩) xs.length cap∧w.cell? ⟨g,k,none⟩=some (.bool (xs.getD k false)):=by
 have h':w.ownsRow B 4 1 v xs.length (boolCells xs):=h
 obtain ⟨m,hm⟩:∃ m,xs.length=m+1:=⟨xs.length - 1,by omega⟩
 obtain ⟨g,cap,rfl⟩:∃ g cap,v=.slice (some ⟨g,0,none⟩) xs.length cap:=by
  rw [hm] at h' ⊢;exact own_form h'
 refine ⟨g,cap,rfl,?_⟩
 have:=h'.cells (g:=g) rfl k (.bool (xs.getD k false)) (by simp [boolCells,hk])
 have hadd:(⟨g,0,none⟩:Addr).add k=⟨g,k,none⟩:=by unfold Addr.add;split<;>simp_all
 rw [hadd] at this
 exact this
theorem infoBool:(Tryz.prog.info? 4).map (fun i=>(i.zero,i.size,i.bytes))=some (some (.bool false),1,1):=by kernel_rfl
theorem NRow.new {w:World} {B n:Nat} (hB:B≤w.heap.size) (hn:n≤maxLen):NRow (w.alloc (.cells (madeCells #[.int .i64 0] n) 3)) B (.slice (some ⟨w.heap.size,0,none⟩) n n) (List.replicate n 0):=by
 unfold NRow
 rw [List.length_replicate]
 refine ⟨by simp [natCells],.inr ⟨_,n,_,rfl,hB,heap_alloc_new _ _,Nat.le_refl _,hn,by rw [size_madeCells,Nat.mul_one],?_⟩⟩
 rw [Nat.mul_one,List.take_of_length_le (by rw [Array.length_toList,size_madeCells];exact Nat.le_refl _)]
 apply List.ext_getElem
 ·rw [Array.length_toList,size_madeCells];simp [natCells]
 ·intro i h1 h2
  simp [madeCells,natCells,Nat.mod_one]
theorem keep2 {w0 w2:World} {row:Option Nat} (hgrow:w0.grownBy w2 row) {gG o:Nat} {u:Value} {cs:Array Value} {ty:TypeId} (hbG:w2.heap[gG]?=some (.cells cs ty (0,0))) {B e z:Nat} {v:Value} {n:Nat} {xs:List Value} (h:w0.ownsRow B e z v n xs) (hd:∀ q,v.ownBlock=some q→row=some q→False) (hne:e≠ty):(w2.setCell ⟨gG,o,none⟩ u).ownsRow B e z v n xs :=
 own_set_any (Fr.own (Fr.ofGrown hgrow) h (fun q hq hm=>hd q hq (Option.mem_toList.1 hm))) hbG hne _ _
theorem own_own {w:World} {B e z n B' e' z' n':Nat} {v v':Value} {xs xs':List Value} (h:w.ownsRow B e z v n xs) (h':w.ownsRow B' e' z' v' n' xs') (hne:e≠e'):∀ q,v.ownBlock=some q→v'.ownBlock=some q→False:=fun q h1 h2=>by
 rcases h'.2 with ⟨rfl,_⟩ | ⟨g,cap,cur,rfl,_,hg,_⟩
 ·cases h2
 ·have:g=q:=by simpa [Value.ownBlock] using h2
  subst this
  exact own_off h hg hne g h1 rfl
structure DwI (w wr:World) (gM:Nat) (p:Part) (F:Nat→Nat) (hb st nus nxs:List Nat) (grs:List Bool) (lv gv nv stv nuv:Value):Prop where
 below:Below w.heap.size w wr
 bR:wr.heap[w.heap.size]?=some (.cells zcG 93 (0,0))
 bG:wr.heap[w.heap.size+1]?=some (.cells (graphA lv F gv nv) 93 (0,0))
 bM:wr.heap[gM]?=some (.cells #[stv,nuv] 136 (0,0))
 hM:w.heap.size+1 < gM
 rl:NRow wr w.heap.size lv (hb.map (fitP p))
 rg:BRow wr w.heap.size gv grs
 rn:NRow wr w.heap.size nv nxs
 rs:NRow wr w.heap.size stv st
 ru:NRow wr w.heap.size nuv nus
 d1:Dj lv nv
 d2:Dj lv stv
 d3:Dj lv nuv
 d4:Dj nv stv
 d5:Dj nv nuv
 d6:Dj stv nuv
section dw
variable {w wr w2 : World} {gM : Nat} {p : Part} {F : Nat → Nat} {hb st nus nxs : List Nat} {grs : List Bool} {lv gv nv stv nuv : Value}
theorem DwI.lt (h:DwI w wr gM p F hb st nus nxs grs lv gv nv stv nuv):gM < wr.heap.size:=(Array.getElem?_eq_some_iff.1 h.bM).1
theorem DwI.next (h:DwI w wr gM p F hb st nus nxs grs lv gv nv stv nuv) (k:Below wr.heap.size wr w2):DwI w w2 gM p F hb st nus nxs grs lv gv nv stv nuv:=by
 have l:=h.lt
 have hM:=h.hM
 exact ⟨h.below.trans (k.mono h.below.size),(k.block _ (by omega)).trans h.bR,(k.block _ (by omega)).trans h.bG,(k.block _ l).trans h.bM,hM,h.rl.below k,own_below h.rg k,h.rn.below k,h.rs.below k,h.ru.below k,h.d1,h.d2,h.d3,h.d4,h.d5,h.d6⟩
theorem DwI.drew (h:DwI w wr gM p F hb st nus nxs grs lv gv nv stv nuv):DwI w wr.drew gM p F hb st nus nxs grs lv gv nv stv nuv :=
 ⟨h.below.drew,h.bR,h.bG,h.bM,h.hM,h.rl,h.rg,h.rn,h.rs,h.ru,h.d1,h.d2,h.d3,h.d4,h.d5,h.d6⟩
theorem DwI.alloc (h:DwI w wr gM p F hb st nus nxs grs lv gv nv stv nuv) (o:Obj):DwI w (wr.alloc o) gM p F hb st nus nxs grs lv gv nv stv nuv:=h.next ((Below.refl _ _).alloc (Nat.le_refl _) _)
theorem grown_at {row:Option Nat} (hgrow:wr.grownBy w2 row) {b:Nat} {cs:Array Value} {ty:TypeId} (hb:wr.heap[b]?=some (.cells cs ty (0,0))) (hn:row≠some b):w2.heap[b]?=some (.cells cs ty (0,0)):=by
 rw [hgrow.block _ (Array.getElem?_eq_some_iff.1 hb).1 (fun e=>hn e.symm)];exact hb
theorem DwI.grant (h:DwI w wr gM p F hb st nus nxs grs lv gv nv stv nuv) (hgrow:wr.grownBy w2 gv.ownBlock) {v':Value} {y:Bool} (ho:w2.ownsRow w.heap.size 4 1 v' (grs.length+1) (boolCells grs++[.bool y])) :
  DwI w (w2.setCell ⟨w.heap.size+1,257,none⟩ v') gM p F hb st nus nxs (grs++[y]) lv v' nv stv nuv:=by
 have hM:=h.hM
 have e1:=own_off h.rg h.bR (by decide)
 have e2:=own_off h.rg h.bG (by decide)
 have e3:=own_off h.rg h.bM (by decide)
 have g1:=grown_at hgrow h.bR (fun e=>e1 _ e rfl)
 have g2:=grown_at hgrow h.bG (fun e=>e2 _ e rfl)
 have g3:=grown_at hgrow h.bM (fun e=>e3 _ e rfl)
 refine ⟨(h.below.grown hgrow h.below.size (fun k hk=>(h.rg.lt k hk).1)).setCell (by simp) _,?_,by rw [heap_setCell_same _ _ _ _ _ _ g2,graphA_set257],?_,hM,keep2 hgrow g2 h.rl (own_own h.rl h.rg (by decide)) (by decide),own_set_any (BRow.of ho) g2 (by decide) _ _,keep2 hgrow g2 h.rn (own_own h.rn h.rg (by decide)) (by decide),keep2 hgrow g2 h.rs (own_own h.rs h.rg (by decide)) (by decide),keep2 hgrow g2 h.ru (own_own h.ru h.rg (by decide)) (by decide),h.d1,h.d2,h.d3,h.d4,h.d5,h.d6⟩
 ·rw [Below.heap_setCell _ _ _ _ (by simp)];exact g1
 ·rw [Below.heap_setCell _ _ _ _ (by simp;omega)];exact g3
theorem DwI.edge (h:DwI w wr gM p F hb st nus nxs grs lv gv nv stv nuv) (hgrow:wr.grownBy w2 nv.ownBlock) {g cap y:Nat} (ho:w2.ownsRow w.heap.size 3 1 (.slice (some ⟨g,0,none⟩) (nxs.length+1) cap) (nxs.length+1) (natCells nxs++[.int .i64 (y:Int)])) (hl:nv.ownBlock=some g∨g=wr.heap.size) :
  DwI w (w2.setCell ⟨w.heap.size+1,258,none⟩ (.slice (some ⟨g,0,none⟩) (nxs.length+1) cap)) gM p F hb st nus (nxs++[y]) grs lv gv (.slice (some ⟨g,0,none⟩) (nxs.length+1) cap) stv nuv:=by
 have hM:=h.hM
 have e1:=own_off h.rn h.bR (by decide)
 have e2:=own_off h.rn h.bG (by decide)
 have e3:=own_off h.rn h.bM (by decide)
 have g1:=grown_at hgrow h.bR (fun e=>e1 _ e rfl)
 have g2:=grown_at hgrow h.bG (fun e=>e2 _ e rfl)
 have g3:=grown_at hgrow h.bM (fun e=>e3 _ e rfl)
 refine ⟨(h.below.grown hgrow h.below.size (fun k hk=>(h.rn.lt k hk).1)).setCell (by simp) _,?_,by rw [heap_setCell_same _ _ _ _ _ _ g2,graphA_set258],?_,hM,keep2 hgrow g2 h.rl h.d1 (by decide),keep2 hgrow g2 h.rg (own_own h.rg h.rn (by decide)) (by decide),own_set_any (NRow.of ho) g2 (by decide) _ _,keep2 hgrow g2 h.rs h.d4.symm (by decide),keep2 hgrow g2 h.ru h.d5.symm (by decide),h.d1.lies hl (fun q hq=>(h.rl.lt q hq).2),h.d2,h.d3,(h.d4.symm.lies hl (fun q hq=>(h.rs.lt q hq).2)).symm,(h.d5.symm.lies hl (fun q hq=>(h.ru.lt q hq).2)).symm,h.d6⟩
 ·rw [Below.heap_setCell _ _ _ _ (by simp)];exact g1
 ·rw [Below.heap_setCell _ _ _ _ (by simp;omega)];exact g3
theorem DwI.meet (h:DwI w wr gM p F hb st nus nxs grs lv gv nv stv nuv) {s g cap:Nat} (hf:Fr (gM ::(stv.ownBlock.toList++nuv.ownBlock.toList)) wr w2) (hl:stv.ownBlock=some g∨wr.heap.size≤g)
  (hb2:w2.heap[gM]?=some (.cells #[.slice (some ⟨g,0,none⟩) (st.length+1) cap,nuv] 136 (0,0))) (h1:NRow w2 w.heap.size (.slice (some ⟨g,0,none⟩) (st.length+1) cap) (st++[s])) (h2:NRow w2 w.heap.size nuv (nus.set s (st.length+1))) :
  DwI w w2 gM p F hb (st++[s]) (nus.set s (st.length+1)) nxs grs lv gv nv (.slice (some ⟨g,0,none⟩) (st.length+1) cap) nuv:=by
 have hM:=h.hM
 have mem:∀ {x:Nat},x∈gM ::(stv.ownBlock.toList++nuv.ownBlock.toList)→x=gM∨stv.ownBlock=some x∨nuv.ownBlock=some x:=fun {x} hx=>by
  rcases List.mem_cons.1 hx with h | h
  ·exact .inl h
  ·rcases List.mem_append.1 h with h | h
   ·exact .inr (.inl (Option.mem_toList.1 h))
   ·exact .inr (.inr (Option.mem_toList.1 h))
 have off:∀ {b:Nat} {cs:Array Value} {ty:TypeId},wr.heap[b]?=some (.cells cs ty (0,0))→3≠ty→b≠gM→b∉gM ::(stv.ownBlock.toList++nuv.ownBlock.toList):=fun {b cs ty} hb hne hbM hx=>by
  rcases mem hx with h3 | h3 | h3
  ·exact hbM h3
  ·exact own_off h.rs hb hne b h3 rfl
  ·exact own_off h.ru hb hne b h3 rfl
 have rows:∀ {e z n:Nat} {v:Value} {xs:List Value},wr.ownsRow w.heap.size e z v n xs→e≠136→Dj v stv→Dj v nuv→w2.ownsRow w.heap.size e z v n xs:=fun {e z n v xs} ho hne da db=>Fr.own hf ho fun q hq hx=>by
  rcases mem hx with h3 | h3 | h3
  ·exact own_off ho h.bM hne q hq h3
  ·exact da q hq h3
  ·exact db q hq h3
 have far:∀ {v:Value} {e z n:Nat} {xs:List Value},wr.ownsRow w.heap.size e z v n xs→Dj v stv→Dj v (.slice (some ⟨g,0,none⟩) (st.length+1) cap):=fun {v e z n xs} ho hd q h3 h4=>by
  have:g=q:=by simpa [Value.ownBlock] using h4
  subst this
  rcases hl with h5 | h5
  ·exact hd g h3 h5
  ·have:=(ho.lt g h3).2;omega
 refine ⟨⟨h.below.os ▸ hf.os,h.below.tape ▸ hf.tape,h.below.output ▸ hf.output,Nat.le_trans h.below.size hf.size,fun k hk=>?_⟩,hf.at h.bR (off h.bR (by decide) (by omega)),hf.at h.bG (off h.bG (by decide) (by omega)),hb2,hM,rows h.rl (by decide) h.d2 h.d3,rows h.rg (by decide) (own_own h.rg h.rs (by decide)) (own_own h.rg h.ru (by decide)),rows h.rn (by decide) h.d4 h.d5,h1,h2,h.d1,far h.rl h.d2,h.d3,far h.rn h.d4,h.d5,(far h.ru h.d6.symm).symm⟩
 rw [hf.block k (Nat.lt_of_lt_of_le hk h.below.size) (fun hx=>?_)]
 ·exact h.below.block k hk
 ·rcases mem hx with h3 | h3 | h3
  ·omega
  ·have:=(h.rs.lt k h3).1;omega
  ·have:=(h.ru.lt k h3).1;omega
end dw
end Go.Proofs.YtobfpgoepaeknaaGreat
namespace Go.Proofs.YtobfpgoepaeknaaGreat
def EsL (gr:Nat→Bool) (nl:Nat→Nat→Nat) (M:Nat) (kd:Nat→Nat) (a b:Nat):Prop:=kd a=kd b∧gr a=gr b∧∀ l,l < M→kd (nl a l)=kd (nl b l)
theorem EsL_eq {E0:Nat→Nat→Prop} {hb:List Nat} {lt:Nat→Nat} (hs:Sorted 256 E0 hb lt) (gr:Nat→Bool) (nl:Nat→Nat→Nat) (kd:Nat→Nat):EsL gr nl hb.length kd=Espl (fun i b=>nl i (lt b)) gr kd:=by
 funext a b
 apply propext
 constructor
 ·rintro ⟨h1,h2,h3⟩
  exact ⟨h1,h2,fun c hc=>h3 _ (hs.lt c hc)⟩
 ·rintro ⟨h1,h2,h3⟩
  refine ⟨h1,h2,fun l hl=>?_⟩
  have g:=hs.head l hl
  have:=h3 _ g.1
  simp only [g.2] at this
  exact this
theorem EsL_eqv (gr:Nat→Bool) (nl:Nat→Nat→Nat) (M:Nat) (kd:Nat→Nat):Equivalence (EsL gr nl M kd) :=
 ⟨fun _=>⟨rfl,rfl,fun _ _=>rfl⟩,fun h=>⟨h.1.symm,h.2.1.symm,fun l hl=>(h.2.2 l hl).symm⟩,fun h k=>⟨h.1.trans k.1,h.2.1.trans k.2.1,fun l hl=>(h.2.2 l hl).trans (k.2.2 l hl)⟩⟩
def ElT (S:Nat) (nf:Nat→Nat→Nat) (a b:Nat):Prop:=∀ k,k < S→nf k a=nf k b
theorem ElT_eqv (S:Nat) (nf:Nat→Nat→Nat):Equivalence (ElT S nf):=⟨fun _ _ _=>rfl,fun h k hk=>(h k hk).symm,fun h g k hk=>(h k hk).trans (g k hk)⟩
theorem tab_of {L:List Nat→Prop} {S:Nat} {nf:Nat→Nat→Nat} {gr:Nat→Bool} {E0:Nat→Nat→Prop} {hb fs:List Nat} {lt cls:Nat→Nat} (hl:Sorted 256 E0 hb lt)
  (hm:MinDfa L S (fun k b=>nf k (lt b)) gr) (hc:Sorted hb.length (ElT S nf) fs cls) (h1:S≤24) (h2:fs.length≤24) :
  TabOf L S fs.length (fun k b=>nf k (lt b)) gr (fun b=>cls (lt b)) (fun k c=>nf k (fs.getD c 0)):=by
 refine ⟨hm,⟨fun b hb'=>hc.lt _ (hl.lt b hb'),fun b b' g1 g2=>?_,fun b hb' c hcc=>?_,fun c hcc=>?_⟩,h1,h2,fun i b hi hb'=>?_⟩
 ·exact hc.iff _ _ (hl.lt b g1) (hl.lt b' g2)
 ·obtain ⟨l,l1,l2⟩:=hc.grow (hl.lt b hb') hcc
  obtain ⟨b',g1,g2⟩:=hl.grow hb' l1
  exact ⟨b',g1,by show cls (lt b')=c;rw [g2,l2]⟩
 ·have g:=hc.head c hcc
  have k:=hl.head _ g.1
  exact ⟨_,k.1,by show cls (lt _)=c;rw [k.2,g.2]⟩
 ·have g:=hc.head _ (hc.lt _ (hl.lt b hb'))
  exact (hc.iff _ _ g.1 (hl.lt b hb')).1 g.2 i hi
theorem many_of {L:List Nat→Prop} {S n:Nat} {nf:Nat→Nat→Nat} {gr:Nat→Bool} {E0:Nat→Nat→Prop} {hb fs:List Nat} {lt cls:Nat→Nat} (hl:Sorted 256 E0 hb lt)
  (hm:MinDfa L S (fun k b=>nf k (lt b)) gr) (hn:n≤hb.length) (hc:Sorted n (ElT S nf) fs cls) (h2:24 < fs.length):ManyClasses L:=by
 refine hm.many (fun i=>hb.getD (fs.getD i 0) 0) (fun i hi=>?_) (fun i j hij hj=>?_)
 ·exact (hl.head _ (Nat.lt_of_lt_of_le (hc.head i (by omega)).1 hn)).1
 ·have g:=hc.apart hij (show j < fs.length by omega)
  refine Classical.byContradiction fun hno=>g fun k hk=>?_
  refine Classical.byContradiction fun hne=>hno ⟨k,hk,?_⟩
  show nf k (lt _)≠nf k (lt _)
  rw [(hl.head _ (Nat.lt_of_lt_of_le (hc.head i (by omega)).1 hn)).2,(hl.head _ (Nat.lt_of_lt_of_le (hc.head j (by omega)).1 hn)).2]
  exact hne
end Go.Proofs.YtobfpgoepaeknaaGreat
namespace Go.Proofs.YtobfpgoepaeknaaGreat
open Go.RowKit
structure GraphB (w:World) (g M:Nat) (F:Nat→Nat) (grs:List Bool) (nxs:List Nat):Prop where
 ex:∃ la lc gv nv,w.heap[g]?=some (.cells (graphA (.slice la M lc) F gv nv) 93 (0,0))∧BRow w 0 gv grs∧NRow w 0 nv nxs
theorem BRow.below {w w':World} {B:Nat} {v:Value} {xs:List Bool} (h:BRow w B v xs) (hb:Below w.heap.size w w'):BRow w' B v xs:=own_below h hb
theorem BRow.zero' {w:World} {B:Nat} {v:Value} {xs:List Bool} (h:BRow w B v xs):BRow w 0 v xs:=ownsRow_less h (Nat.zero_le _)
theorem GraphB.below {w w':World} {g M:Nat} {F:Nat→Nat} {grs:List Bool} {nxs:List Nat} (h:GraphB w g M F grs nxs) (hb:Below w.heap.size w w'):GraphB w' g M F grs nxs:=by
 obtain ⟨la,lc,gv,nv,h1,h2,h3⟩:=h.ex
 exact ⟨la,lc,gv,nv,by rw [hb.block _ (Array.getElem?_eq_some_iff.1 h1).1];exact h1,h2.below hb,h3.below hb⟩
theorem GraphB.drew {w:World} {g M:Nat} {F:Nat→Nat} {grs:List Bool} {nxs:List Nat} (h:GraphB w g M F grs nxs):GraphB w.drew g M F grs nxs:=⟨h.ex⟩
theorem at_any (w:World) (B:Nat) (v:Value) (xs:List Nat) (i:Nat) (h:NRow w B v xs) (hl:xs.length≤10000000) :
  Calls Tryz.prog 71 #[v,.int .i64 (i:Int)] w fun e w'=>e=.returned (.int .i64 ((xs.getD i 0:Nat):Int))∧w'=w:=by
 have hlI:(xs.length:Int)≤10000000:=by omega
 by_cases hi:i < xs.length
 ·obtain ⟨g,cap,rfl,hc⟩:=h.at hi
  have hiI:(i:Int) < (xs.length:Int):=by omega
  have h0:¬(i:Int) < 0:=by omega
  generalize xs.getD i 0=x at *
  generalize xs.length=n at *
  clear hl hi h
  go_enter Tryz.func71,Tryz.ntmps71
  go_wp2
  go_ret
  exact ⟨rfl,rfl⟩
 ·obtain ⟨a,c,rfl⟩:=h.form
  have e1:xs.getD i 0=0:=by rw [List.getD_eq_getElem?_getD,List.getElem?_eq_none (by omega)];rfl
  rw [e1]
  have hiI:¬(i:Int) < (xs.length:Int):=by omega
  have hiJ:(xs.length:Int)≤(i:Int):=by omega
  have h0:¬(i:Int) < 0:=by omega
  generalize xs.length=n at *
  clear hl hi h e1
  go_enter Tryz.func71,Tryz.ntmps71
  go_wp2
  go_ret
  exact ⟨rfl,rfl⟩
section graph
variable (w : World) (g M : Nat) (F : Nat → Nat) (grs : List Bool) (nxs : List Nat)
theorem States_any (h:GraphB w g M F grs nxs):Calls Tryz.prog 113 #[.pointer (some ⟨g,0,none⟩)] w fun e w'=>e=.returned (.int .i64 ((grs.length:Nat):Int))∧w'=w:=by
 obtain ⟨la,lc,gv,nv,h1,h2,h3⟩:=h.ex
 obtain ⟨ga,gc,rfl⟩:=h2.form
 have y:w.cell? ⟨g,257,none⟩=some (.slice ga grs.length gc):=by rw [cell_of_row _ _ _ _ _ _ h1,graphA_257]
 generalize grs.length=n at *
 clear h h1 h2 h3
 go_enter Tryz.func113,Tryz.ntmps113
 go_wp2
 go_ret
 exact ⟨rfl,rfl⟩
theorem Letters_any (h:GraphB w g M F grs nxs):Calls Tryz.prog 115 #[.pointer (some ⟨g,0,none⟩)] w fun e w'=>e=.returned (.int .i64 (M:Int))∧w'=w:=by
 obtain ⟨la,lc,gv,nv,h1,h2,h3⟩:=h.ex
 have y:w.cell? ⟨g,0,none⟩=some (.slice la M lc):=by rw [cell_of_row _ _ _ _ _ _ h1,graphA_0]
 clear h h1 h2 h3
 go_enter Tryz.func115,Tryz.ntmps115
 go_wp2
 go_ret
 exact ⟨rfl,rfl⟩
theorem Letter_any (h:GraphB w g M F grs nxs) (b:Nat) (hb:b < 256):Calls Tryz.prog 72 #[.pointer (some ⟨g,0,none⟩),.int .u8 (b:Int)] w fun e w'=>e=.returned (.int .i64 ((F b:Nat):Int))∧w'=w:=by
 obtain ⟨la,lc,gv,nv,h1,h2,h3⟩:=h.ex
 have y:w.cell? ⟨g,1+b,none⟩=some (.int .i64 ((F b:Nat):Int)):=by rw [cell_of_row _ _ _ _ _ _ h1,graphA_b _ _ _ _ hb]
 have hbI:(b:Int) < 256:=by omega
 clear h h1 h2 h3 hb
 go_enter Tryz.func72,Tryz.ntmps72
 go_wp2
 go_ret
 exact ⟨rfl,rfl⟩
theorem Granted_any (h:GraphB w g M F grs nxs) (i:Nat) (hl:grs.length≤10000):Calls Tryz.prog 73 #[.pointer (some ⟨g,0,none⟩),.int .i64 (i:Int)] w fun e w'=>e=.returned (.bool (grs.getD i false))∧w'=w:=by
 obtain ⟨la,lc,gv,nv,h1,h2,h3⟩:=h.ex
 have hlI:(grs.length:Int)≤10000:=by omega
 by_cases hi:i < grs.length
 ·obtain ⟨gg,cap,rfl,hc⟩:=h2.at hi
  have y:w.cell? ⟨g,257,none⟩=some (.slice (some ⟨gg,0,none⟩) grs.length cap):=by rw [cell_of_row _ _ _ _ _ _ h1,graphA_257]
  have hiI:(i:Int) < (grs.length:Int):=by omega
  have h0:(0:Int)≤(i:Int):=by omega
  generalize grs.getD i false=x at *
  generalize grs.length=n at *
  clear hl hi h h1 h2 h3
  go_enter Tryz.func73,Tryz.ntmps73
  go_wp2
  go_ret
  exact ⟨rfl,rfl⟩
 ·obtain ⟨ga,gc,rfl⟩:=h2.form
  have y:w.cell? ⟨g,257,none⟩=some (.slice ga grs.length gc):=by rw [cell_of_row _ _ _ _ _ _ h1,graphA_257]
  have e1:grs.getD i false=false:=by rw [List.getD_eq_getElem?_getD,List.getElem?_eq_none (by omega)];rfl
  rw [e1]
  have hiI:¬(i:Int) < (grs.length:Int):=by omega
  have h0:(0:Int)≤(i:Int):=by omega
  generalize grs.length=n at *
  clear hl hi h e1 h1 h2 h3
  go_enter Tryz.func73,Tryz.ntmps73
  go_wp2
  go_ret
  exact ⟨rfl,rfl⟩
end graph
def nlM (nxs:List Nat) (M i c:Nat):Nat:=nxs.getD (i * M+c) 0
theorem Next_any (w:World) (g M:Nat) (F:Nat→Nat) (grs:List Bool) (nxs:List Nat) (h:GraphB w g M F grs nxs) (i c:Nat) (hM:M≤256) (hi:i≤10000) (hc:c≤256) (hl:nxs.length≤3000000) :
  Calls Tryz.prog 117 #[.pointer (some ⟨g,0,none⟩),.int .i64 (i:Int),.int .i64 (c:Int)] w fun e w'=>e=.returned (.int .i64 ((nlM nxs M i c:Nat):Int))∧w'=w:=by
 obtain ⟨la,lc,gv,nv,h1,h2,h3⟩:=h.ex
 have hq1:i * M≤10000 * 256:=Nat.mul_le_mul hi hM
 unfold nlM
 have y0:w.cell? ⟨g,0,none⟩=some (.slice la M lc):=by rw [cell_of_row _ _ _ _ _ _ h1,graphA_0]
 obtain ⟨q,hq⟩:∃ q,i * M=q:=⟨_,rfl⟩
 rw [hq] at hq1 ⊢
 have hqI:(i:Int) * (M:Int)=(q:Int):=by rw [←hq,Int.natCast_mul]
 have hq2:(q:Int)≤2560000:=by omega
 have hcI:(c:Int)≤256:=by omega
 have hMI:(M:Int)≤256:=by omega
 have hiI:(i:Int)≤10000:=by omega
 have hlI:(nxs.length:Int)≤3000000:=by omega
 have h0:¬(q:Int)+(c:Int) < 0:=by omega
 have hw1:IntKind.i64.wrap ((i:Int) * (M:Int))=(q:Int):=by rw [hqI];exact wrap_i64 q (by unfold top;omega)
 by_cases hk:q+c < nxs.length
 ·obtain ⟨gg,cap,rfl,hx⟩:=h3.at hk
  have y3:w.cell? ⟨g,258,none⟩=some (.slice (some ⟨gg,0,none⟩) nxs.length cap):=by rw [cell_of_row _ _ _ _ _ _ h1,graphA_258]
  have hkI:(q:Int)+(c:Int) < (nxs.length:Int):=by omega
  have hkJ:¬(nxs.length:Int)≤(q:Int)+(c:Int):=by omega
  generalize nxs.getD (q+c) 0=x at *
  generalize nxs.length=n at *
  clear hl hi h hq hk hq1 hM hc h1 h2 h3
  go_enter Tryz.func117,Tryz.ntmps117
  go_wp2
  go_ret
  exact ⟨rfl,rfl⟩
 ·obtain ⟨na,nc,rfl⟩:=h3.form
  have y3:w.cell? ⟨g,258,none⟩=some (.slice na nxs.length nc):=by rw [cell_of_row _ _ _ _ _ _ h1,graphA_258]
  have e1:nxs.getD (q+c) 0=0:=by rw [List.getD_eq_getElem?_getD,List.getElem?_eq_none (by omega)];rfl
  rw [e1]
  have hkJ:(nxs.length:Int)≤(q:Int)+(c:Int):=by omega
  generalize nxs.length=n at *
  clear hl hi h hq hk hq1 hM hc h1 h2 h3 e1
  go_enter Tryz.func117,Tryz.ntmps117
  go_wp2
  go_ret
  exact ⟨rfl,rfl⟩
end Go.Proofs.YtobfpgoepaeknaaGreat
