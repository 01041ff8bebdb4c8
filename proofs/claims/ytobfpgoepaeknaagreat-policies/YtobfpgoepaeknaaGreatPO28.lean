/-
  The document's answer: what a call leaves as it was while the tree grows; sets of terms: with.
  The document's answer: a node that says this is found, or put.
  The document's answer: sets of terms: both, before, sameTerms.
  Sets of terms: what is joined, what stands before a part.
-/
import Derived.Test.YtobfpgoepaeknaaGreatPO27
import Derived.Test.YtobfpgoepaeknaaGreatPO18
import Derived.Deep.AppendLies
import Derived.Deep.DrawnRows
import Derived.Deep.QuietTactic
import Derived.BigQuiet
import Derived.Laws.IdiomStrings
namespace Go.Proofs.YtobfpgoepaeknaaGreat
open Go.RowKit
theorem own_belowZ {w w':World} {B e z:Nat} {v:Value} {n:Nat} {xs:List Value} (h:w.ownsRow B e z v n xs) (hb:Below w.heap.size w w'):w'.ownsRow B e z v n xs:=by
 refine ⟨h.1,?_⟩
 rcases h.2 with hl | ⟨g,cap,cur,rfl,q1,hg,rest⟩
 ·exact .inl hl
 ·exact .inr ⟨g,cap,cur,rfl,q1,by rw [hb.block g (Array.getElem?_eq_some_iff.1 hg).1];exact hg,rest⟩
def strCells (X:List ByteArray):List Value:=X.map fun s=>Value.string s
def SRow (w:World) (B:Nat) (v:Value) (X:List ByteArray):Prop:=w.ownsRow B 9 1 v X.length (strCells X)
theorem SRow.zero {w:World} {B:Nat} {v:Value} {X:List ByteArray} (h:SRow w B v X):SRow w 0 v X:=ownsRow_less h (Nat.zero_le _)
theorem SRow.below {w w':World} {B:Nat} {v:Value} {X:List ByteArray} (h:SRow w B v X) (hb:Below w.heap.size w w'):SRow w' B v X:=own_belowZ h hb
theorem SRow.form {w:World} {B:Nat} {v:Value} {X:List ByteArray} (h:SRow w B v X):(∃ a c,v=.slice a X.length c):=by
 rcases h.2 with ⟨rfl,h0⟩ | ⟨g,cap,cur,rfl,_⟩
 ·exact ⟨none,0,by rw [h0]⟩
 ·exact ⟨_,_,rfl⟩
theorem SRow.of {w:World} {B:Nat} {v:Value} {X:List ByteArray} {s:ByteArray} (h:w.ownsRow B 9 1 v (X.length+1) (strCells X++[.string s])):SRow w B v (X++[s]):=by
 unfold SRow strCells
 rw [List.length_append,List.map_append];exact h
theorem SRow.at {w:World} {B:Nat} {v:Value} {X:List ByteArray} (h:SRow w B v X) {k:Nat} (hk:k < X.length):∃ g cap,v=.slice (some ⟨g,0,none⟩) X.length cap∧w.cell? ⟨g,k,none⟩=some (.string (X.getD k ByteArray.empty)):=by
 rcases h.2 with ⟨rfl,h0⟩ | ⟨g,cap,cur,rfl,h1,hg,h2,h3,h4,h5⟩
 ·omega
 ·refine ⟨g,cap,rfl,?_⟩
  rw [cell_of_row _ _ _ _ _ _ hg]
  have e:cur.toList[k]?=(strCells X)[k]?:=by
   rw [←h5,List.getElem?_take,if_pos (by simp;omega)]
  rw [←Array.getElem?_toList,e,strCells,List.getElem?_map,List.getElem?_eq_getElem hk,List.getD_eq_getElem?_getD,List.getElem?_eq_getElem hk];rfl
theorem infoStr:(Tryz.prog.info? 9).map (fun i=>(i.zero,i.size,i.bytes))=some (some (.string ⟨#[]⟩),1,16):=by kernel_rfl
theorem low_take {s:ByteArray}:∀ {X:List ByteArray} {i:Nat},i≤X.length→(∀ j,j < i→lessS (X.getD j ByteArray.empty) s=true)→(i < X.length→lessS (X.getD i ByteArray.empty) s=false)→lowS s X=X.take i∧highS s X=X.drop i
 | [],i,hi,_,_=>by
  have:i=0:=by simpa using hi
  subst this;exact ⟨rfl,rfl⟩
 | a ::X,0,_,_,h=>by
  have h0:lessS a s=false:=h (by simp)
  rw [lowS,highS,h0]
  exact ⟨rfl,rfl⟩
 | a ::X,i+1,hi,h1,h2=>by
  have h0:lessS a s=true:=h1 0 (by omega)
  obtain ⟨g1,g2⟩:=low_take (s:=s) (X:=X) (i:=i) (by simpa using hi) (fun j hj=>h1 (j+1) (by omega)) (fun hl=>h2 (by simp;omega))
  rw [lowS,highS,h0,if_pos rfl,if_pos rfl,g1,g2]
  exact ⟨rfl,rfl⟩
theorem filt_snoc (s:ByteArray) (Y:List ByteArray) {k:Nat} (hk:k < Y.length):(Y.take (k+1)).filter (fun x=>decide (x≠s))=(Y.take k).filter (fun x=>decide (x≠s))++(if Y.getD k ByteArray.empty=s then [] else [Y.getD k ByteArray.empty]):=by
 have e:Y.take (k+1)=Y.take k++[Y.getD k ByteArray.empty]:=by
  rw [List.take_add_one,List.getD_eq_getElem?_getD,List.getElem?_eq_getElem hk];rfl
 rw [e,List.filter_append]
 generalize Y.getD k ByteArray.empty=a
 congr 1
 by_cases h:a=s
 ·rw [if_pos h];simp [h]
 ·rw [if_neg h];simp [h]
structure WiI (w wr:World) (ov:Value) (Y:List ByteArray):Prop where
 below:Below w.heap.size w wr
 row:SRow wr w.heap.size ov Y
theorem WiI.grown {w wr w2:World} {ov:Value} {Y:List ByteArray} (h:WiI w wr ov Y) {o:Obj} (hgrow:(wr.alloc o).grownBy w2 ov.ownBlock) {v':Value} {s:ByteArray} (ho:w2.ownsRow w.heap.size 9 1 v' (Y.length+1) (strCells Y++[.string s])):WiI w w2 v' (Y++[s]) :=
 ⟨(h.below.trans (((Below.refl _ _).alloc (Nat.le_refl _) o).mono h.below.size)).grown hgrow (by have:=h.below.size;simp;omega) (fun k hk=>(h.row.lt k hk).1),SRow.of ho⟩
theorem own_slice2 {w:World} {B e z:Nat} {v:Value} {n:Nat} {xs:List Value} (h:w.ownsRow B e z v n xs) (hn:0 < n):∃ g cap,v=.slice (some ⟨g,0,none⟩) n cap:=by
 obtain ⟨g,cap,rfl,_⟩:=h.form hn
 exact ⟨g,cap,rfl⟩
set_option maxRecDepth 20000 in
set_option maxHeartbeats 2000000 in
theorem with_any (w:World) (B:Nat) (v:Value) (X:List ByteArray) (s:ByteArray) (h:SRow w B v X) (hl:X.length≤10000) :
  Calls Tryz.prog 80 #[v,.string s] w fun e w'=>∃ v',e=.returned v'∧SRow w' w.heap.size v' (insS X s)∧Below w.heap.size w w':=by
 obtain ⟨xa,xc,rfl⟩:=h.form
 have hlI:(X.length:Int)≤10000:=by omega
 have HX:=hide h
 have HL:=hide hl
 obtain ⟨i,i0,i1,i2,i3⟩:=info_of infoStr
 have HI:=hide (And.intro i0 (And.intro i1 (And.intro i2 i3)))
 clear i0 i1 i2 i3 h hl
 go_enter Tryz.func80,Tryz.ntmps80
 go_wp2_with fail
 go_loopw [5,6] (fun ov kx wr=>∃ (k:Nat) (oa:Option Addr) (oc:Nat),ov=.slice oa k oc∧kx=.int .i64 (k:Int)∧Hid (k≤X.length∧WiI w wr (.slice oa k oc) (X.take k)∧∀ j,j < k→lessS (X.getD j ByteArray.empty) s=true)) (fun _ kx _=>X.length - (intOf kx).toNat)
 case atStart=>exact ⟨0,none,0,rfl,rfl,Nat.zero_le _,⟨Below.refl _ _,World.ownsRow_nil _ _ _ _⟩,fun j hj=>absurd hj (Nat.not_lt_zero _)⟩
 case round =>
  rename World=>wr
  obtain ⟨k,oa,oc,rfl,rfl,HH⟩:=hrel
  obtain ⟨hk,hI,hall⟩:=unhide HH
  have HI1:=hide hI
  have HALL:=hide hall
  have HSZ:Hid (w.heap.size≤wr.heap.size):=hI.below.size
  have HKL:Hid (k≤10000):=by have:=unhide HL;show _≤_;omega
  have htl:(X.take k).length=k:=by rw [List.length_take];omega
  have HTL:=hide htl
  by_cases hgo:k < X.length∧lessS (X.getD k ByteArray.empty) s=true
  ·obtain ⟨hlt,hless⟩:=hgo
   have hltI:(k:Int) < (X.length:Int):=by omega
   have HLT:=hide hlt
   obtain ⟨g,cap,he,hx⟩:=((unhide HX).below hI.below).at hlt
   have hgx:g < wr.heap.size:=by
    rw [he] at HX
    exact (((unhide HX).below hI.below).lt g rfl).2
   simp only [Value.slice.injEq,true_and] at he
   obtain ⟨rfl,rfl⟩:=he
   have HSN:Hid (X.take (k+1)=X.take k++[X.getD k ByteArray.empty]∧∀ j,j < k+1→lessS (X.getD j ByteArray.empty) s=true):=by
    refine ⟨?_,fun j hj=>?_⟩
    ·rw [List.take_add_one,List.getD_eq_getElem?_getD,List.getElem?_eq_getElem hlt];rfl
    ·by_cases e:j=k
     ·subst e;exact hless
     ·exact hall j (by omega)
   generalize X.getD k ByteArray.empty=a at *
   have hless2:Op.bytesLess a.toList s.toList=true:=hless
   have HO2:=hide (World.ownsRow.alloc hI.row (Obj.cells #[.string a] 9))
   clear HH hk hI hall hlt hless htl
   go_wp2_with (at_builtin;refine wpList_append_own _ rfl (.tmp 19) (.tmp 24) 60 rfl w.heap.size 9 i (.string ⟨#[]⟩) 1 16 Tryz.underlying60 (unhide HI).1 (unhide HI).2.1 (unhide HI).2.2.1 (unhide HI).2.2.2 rfl (by decide) _ _ _ rfl (by have:=unhide HO2;rw [unhide HTL] at this;exact this) ⟨wr.heap.size,0,none⟩ 1 1 [.string a] rfl rfl (cell_one_new _ _ _) (by intro u hu;simp at hu;subst hu;rfl) (by have:=unhide HKL;unfold maxLen;omega) (by have:=unhide HKL;omega) (by have:=unhide HSZ;simp;omega) ?_;intro v' w3 ho3 hg3 _;have HNW:=hide (WiI.grown (unhide HI1) hg3 (by rw [unhide HTL];exact ho3));obtain ⟨g3,cap3,rfl⟩:=own_slice2 ho3 (by omega);clear ho3 hg3)
   go_roundw
   case rel=>exact ⟨k+1,some ⟨g3,0,none⟩,cap3,rfl,by go_num,unhide HLT,by rw [(unhide HSN).1];exact unhide HNW,(unhide HSN).2⟩
   case measure=>have:=unhide HLT;simp [intOf];omega
  ·have HKX:=hide hk
   have hlow:k < X.length→lessS (X.getD k ByteArray.empty) s=false:=fun hlt=>by
    cases hc:lessS (X.getD k ByteArray.empty) s
    ·rfl
    ·exact absurd ⟨hlt,hc⟩ hgo
   have HLH:=hide (low_take hk hall hlow)
   by_cases hlt0:k < X.length
   ·have hltI:(k:Int) < (X.length:Int):=by omega
    have hless2:Op.bytesLess (X.getD k ByteArray.empty).toList s.toList=false:=hlow hlt0
    obtain ⟨g,cap,he,hx⟩:=((unhide HX).below hI.below).at hlt0
    have hgx:g < wr.heap.size:=by
     rw [he] at HX
     exact (((unhide HX).below hI.below).lt g rfl).2
    simp only [Value.slice.injEq,true_and] at he
    obtain ⟨rfl,rfl⟩:=he
    generalize X.getD k ByteArray.empty=a at *
    clear hlow hlt0
    have HSW:=hide (World.ownsRow.alloc hI.row (Obj.cells #[.string s] 9))
    clear HH hk hI hall hgo htl HALL
    go_wp2_with (at_builtin;refine wpList_append_own _ rfl (.tmp 28) (.tmp 30) 60 rfl w.heap.size 9 i (.string ⟨#[]⟩) 1 16 Tryz.underlying60 (unhide HI).1 (unhide HI).2.1 (unhide HI).2.2.1 (unhide HI).2.2.2 rfl (by decide) _ _ _ rfl (by have:=unhide HSW;rw [unhide HTL] at this;exact this) ⟨wr.heap.size,0,none⟩ 1 1 [.string s] rfl rfl (cell_one_new _ _ _) (by intro u hu;simp at hu;subst hu;rfl) (by have:=unhide HKL;unfold maxLen;omega) (by have:=unhide HKL;omega) (by have:=unhide HSZ;simp;omega) ?_;intro v' w3 ho3 hg3 _;have HNW:=hide (WiI.grown (unhide HI1) hg3 (by rw [unhide HTL];exact ho3));obtain ⟨g3,cap3,rfl⟩:=own_slice2 ho3 (by omega);clear ho3 hg3)
    go_loopw [5,6] (fun ov kx wx=>∃ (q:Nat) (Y:List ByteArray) (oa:Option Addr) (oc:Nat),ov=.slice oa Y.length oc∧kx=.int .i64 (q:Int)∧Hid (k≤q∧q≤X.length∧Y=X.take k++[s]++((X.drop k).take (q - k)).filter (fun x=>decide (x≠s))∧WiI w wx (.slice oa Y.length oc) Y)) (fun _ kx _=>X.length - (intOf kx).toNat)
    case atStart=>exact ⟨k,X.take k++[s],some ⟨g3,0,none⟩,cap3,by simp [unhide HTL],rfl,Nat.le_refl _,unhide HKX,by simp,by have:=unhide HNW;simpa [unhide HTL] using this⟩
    case round =>
     clear HNW HI1 HSW HSZ
     rename World=>wx
     obtain ⟨q,Y,oa2,oc2,rfl,rfl,HH⟩:=hrel
     obtain ⟨hq1,hq2,hY,hI⟩:=unhide HH
     have HI1:=hide hI
     have HSZ:Hid (w.heap.size≤wx.heap.size):=hI.below.size
     have HYL:Hid (Y.length≤20001):=by
      have h1:(((X.drop k).take (q - k)).filter (fun x=>decide (x≠s))).length≤((X.drop k).take (q - k)).length:=List.length_filter_le _ _
      rw [List.length_take,List.length_drop] at h1
      have:=unhide HTL
      have:=unhide HL
      show _≤_
      rw [hY]
      simp only [List.length_append,List.length_cons,List.length_nil]
      omega
     by_cases hlt:q < X.length
     ·have hltI:(q:Int) < (X.length:Int):=by omega
      have HLT:=hide hlt
      obtain ⟨gx,cx,he,hx⟩:=((unhide HX).below hI.below).at hlt
      have hgx:gx < wx.heap.size:=by
       rw [he] at HX
       exact (((unhide HX).below hI.below).lt gx rfl).2
      simp only [Value.slice.injEq,true_and] at he
      obtain ⟨e1,rfl⟩:=he
      first
       | subst e1
       | (obtain rfl:g=gx:=by simpa using e1)
      have hf:=filt_snoc s (X.drop k) (k:=q - k) (by rw [List.length_drop];omega)
      have hgd:(X.drop k).getD (q - k) ByteArray.empty=X.getD q ByteArray.empty:=by
       rw [List.getD_eq_getElem?_getD,List.getD_eq_getElem?_getD,List.getElem?_drop,show k+(q - k)=q by omega]
      rw [hgd,show q - k+1=q+1 - k by omega] at hf
      have HF:=hide hf
      have HY:=hide hY
      have HQ1:Hid (k≤q+1):=by show _≤_;omega
      generalize X.getD q ByteArray.empty=a at *
      have HO2:=hide (World.ownsRow.alloc hI.row (Obj.cells #[.string a] 9))
      clear HH hq1 hq2 hY hI hlt hf hgd
      by_cases hs:a=s
      ·have HS2:Hid (Y=X.take k++[s]++((X.drop k).take (q+1 - k)).filter (fun x=>decide (x≠s))):=by
        rw [unhide HF,if_pos hs,List.append_nil];exact unhide HY
       have hs2:(a.toList == s.toList)=true:=by rw [hs];simp
       clear hs
       go_wp2_with fail
       go_roundw
       case rel=>first | exact ⟨q+1,Y,_,_,rfl,by go_num,unhide HQ1,unhide HLT,unhide HS2,unhide HI1⟩ | (repeat apply Exists.intro;exact ⟨⟨q+1,Y,_,_,rfl,by go_num,unhide HQ1,unhide HLT,unhide HS2,unhide HI1⟩,rfl⟩)
       case measure=>have:=unhide HLT;simp [intOf];omega
      ·have HS2:Hid (Y++[a]=X.take k++[s]++((X.drop k).take (q+1 - k)).filter (fun x=>decide (x≠s))):=by
        rw [unhide HF,if_neg hs,←List.append_assoc,←unhide HY];exact rfl
       have hs2:(a.toList == s.toList)=false:=by
        rw [beq_eq_false_iff_ne];exact fun e=>hs (ba_ext e)
       clear hs
       go_wp2_with (at_builtin;refine wpList_append_own _ rfl (.tmp 42) (.tmp 47) 60 rfl w.heap.size 9 i (.string ⟨#[]⟩) 1 16 Tryz.underlying60 (unhide HI).1 (unhide HI).2.1 (unhide HI).2.2.1 (unhide HI).2.2.2 rfl (by decide) _ _ _ rfl (unhide HO2) ⟨wx.heap.size,0,none⟩ 1 1 [.string a] rfl rfl (cell_one_new _ _ _) (by intro u hu;simp at hu;subst hu;rfl) (by have:=unhide HYL;unfold maxLen;omega) (by have:=unhide HYL;omega) (by have:=unhide HSZ;simp;omega) ?_;intro v' w3 ho3 hg3 _;have HNW:=hide (WiI.grown (unhide HI1) hg3 ho3);obtain ⟨g4,cap4,rfl⟩:=own_slice2 ho3 (by omega);clear ho3 hg3)
       go_roundw
       case rel=>first | exact ⟨q+1,Y++[a],some ⟨g4,0,none⟩,cap4,by simp,by go_num,unhide HQ1,unhide HLT,unhide HS2,by simpa using unhide HNW⟩ | (repeat apply Exists.intro;exact ⟨⟨q+1,Y++[a],some ⟨g4,0,none⟩,cap4,by simp,by go_num,unhide HQ1,unhide HLT,unhide HS2,by simpa using unhide HNW⟩,rfl⟩)
       case measure=>have:=unhide HLT;simp [intOf];omega
     ·have hq3:q=X.length:=by omega
      subst hq3
      have HE:Hid (Y=insS X s):=by
       rw [hY,show (X.drop k).take (X.length - k)=X.drop k from List.take_of_length_le (by rw [List.length_drop];exact Nat.le_refl _),←(unhide HLH).1,←(unhide HLH).2];exact rfl
      clear HH hq1 hq2 hY hI hlt
      go_wp2_with fail
      go_ret
      exact ⟨_,rfl,by rw [←unhide HE];exact (unhide HI1).row,(unhide HI1).below⟩
   ·have hk3:k=X.length:=by omega
    have hltI:¬(k:Int) < (X.length:Int):=by omega
    have hltJ:(X.length:Int)≤(k:Int):=by omega
    clear hlow hlt0 hk3
    have HSW:=hide (World.ownsRow.alloc hI.row (Obj.cells #[.string s] 9))
    clear HH hk hI hall hgo htl HALL
    go_wp2_with (at_builtin;refine wpList_append_own _ rfl (.tmp 28) (.tmp 30) 60 rfl w.heap.size 9 i (.string ⟨#[]⟩) 1 16 Tryz.underlying60 (unhide HI).1 (unhide HI).2.1 (unhide HI).2.2.1 (unhide HI).2.2.2 rfl (by decide) _ _ _ rfl (by have:=unhide HSW;rw [unhide HTL] at this;exact this) ⟨wr.heap.size,0,none⟩ 1 1 [.string s] rfl rfl (cell_one_new _ _ _) (by intro u hu;simp at hu;subst hu;rfl) (by have:=unhide HKL;unfold maxLen;omega) (by have:=unhide HKL;omega) (by have:=unhide HSZ;simp;omega) ?_;intro v' w3 ho3 hg3 _;have HNW:=hide (WiI.grown (unhide HI1) hg3 (by rw [unhide HTL];exact ho3));obtain ⟨g3,cap3,rfl⟩:=own_slice2 ho3 (by omega);clear ho3 hg3)
    go_loopw [5,6] (fun ov kx wx=>∃ (q:Nat) (Y:List ByteArray) (oa:Option Addr) (oc:Nat),ov=.slice oa Y.length oc∧kx=.int .i64 (q:Int)∧Hid (k≤q∧q≤X.length∧Y=X.take k++[s]++((X.drop k).take (q - k)).filter (fun x=>decide (x≠s))∧WiI w wx (.slice oa Y.length oc) Y)) (fun _ kx _=>X.length - (intOf kx).toNat)
    case atStart=>exact ⟨k,X.take k++[s],some ⟨g3,0,none⟩,cap3,by simp [unhide HTL],rfl,Nat.le_refl _,unhide HKX,by simp,by have:=unhide HNW;simpa [unhide HTL] using this⟩
    case round =>
     clear HNW HI1 HSW HSZ
     rename World=>wx
     obtain ⟨q,Y,oa2,oc2,rfl,rfl,HH⟩:=hrel
     obtain ⟨hq1,hq2,hY,hI⟩:=unhide HH
     have HI1:=hide hI
     have HSZ:Hid (w.heap.size≤wx.heap.size):=hI.below.size
     have HYL:Hid (Y.length≤20001):=by
      have h1:(((X.drop k).take (q - k)).filter (fun x=>decide (x≠s))).length≤((X.drop k).take (q - k)).length:=List.length_filter_le _ _
      rw [List.length_take,List.length_drop] at h1
      have:=unhide HTL
      have:=unhide HL
      show _≤_
      rw [hY]
      simp only [List.length_append,List.length_cons,List.length_nil]
      omega
     by_cases hlt:q < X.length
     ·have hltI:(q:Int) < (X.length:Int):=by omega
      have HLT:=hide hlt
      obtain ⟨gx,cx,he,hx⟩:=((unhide HX).below hI.below).at hlt
      have hgx:gx < wx.heap.size:=by
       rw [he] at HX
       exact (((unhide HX).below hI.below).lt gx rfl).2
      simp only [Value.slice.injEq,true_and] at he
      obtain ⟨e1,rfl⟩:=he
      first
       | subst e1
       | (obtain rfl:g=gx:=by simpa using e1)
      have hf:=filt_snoc s (X.drop k) (k:=q - k) (by rw [List.length_drop];omega)
      have hgd:(X.drop k).getD (q - k) ByteArray.empty=X.getD q ByteArray.empty:=by
       rw [List.getD_eq_getElem?_getD,List.getD_eq_getElem?_getD,List.getElem?_drop,show k+(q - k)=q by omega]
      rw [hgd,show q - k+1=q+1 - k by omega] at hf
      have HF:=hide hf
      have HY:=hide hY
      have HQ1:Hid (k≤q+1):=by show _≤_;omega
      generalize X.getD q ByteArray.empty=a at *
      have HO2:=hide (World.ownsRow.alloc hI.row (Obj.cells #[.string a] 9))
      clear HH hq1 hq2 hY hI hlt hf hgd
      by_cases hs:a=s
      ·have HS2:Hid (Y=X.take k++[s]++((X.drop k).take (q+1 - k)).filter (fun x=>decide (x≠s))):=by
        rw [unhide HF,if_pos hs,List.append_nil];exact unhide HY
       have hs2:(a.toList == s.toList)=true:=by rw [hs];simp
       clear hs
       go_wp2_with fail
       go_roundw
       case rel=>first | exact ⟨q+1,Y,_,_,rfl,by go_num,unhide HQ1,unhide HLT,unhide HS2,unhide HI1⟩ | (repeat apply Exists.intro;exact ⟨⟨q+1,Y,_,_,rfl,by go_num,unhide HQ1,unhide HLT,unhide HS2,unhide HI1⟩,rfl⟩)
       case measure=>have:=unhide HLT;simp [intOf];omega
      ·have HS2:Hid (Y++[a]=X.take k++[s]++((X.drop k).take (q+1 - k)).filter (fun x=>decide (x≠s))):=by
        rw [unhide HF,if_neg hs,←List.append_assoc,←unhide HY];exact rfl
       have hs2:(a.toList == s.toList)=false:=by
        rw [beq_eq_false_iff_ne];exact fun e=>hs (ba_ext e)
       clear hs
       go_wp2_with (at_builtin;refine wpList_append_own _ rfl (.tmp 42) (.tmp 47) 60 rfl w.heap.size 9 i (.string ⟨#[]⟩) 1 16 Tryz.underlying60 (unhide HI).1 (unhide HI).2.1 (unhide HI).2.2.1 (unhide HI).2.2.2 rfl (by decide) _ _ _ rfl (unhide HO2) ⟨wx.heap.size,0,none⟩ 1 1 [.string a] rfl rfl (cell_one_new _ _ _) (by intro u hu;simp at hu;subst hu;rfl) (by have:=unhide HYL;unfold maxLen;omega) (by have:=unhide HYL;omega) (by have:=unhide HSZ;simp;omega) ?_;intro v' w3 ho3 hg3 _;have HNW:=hide (WiI.grown (unhide HI1) hg3 ho3);obtain ⟨g4,cap4,rfl⟩:=own_slice2 ho3 (by omega);clear ho3 hg3)
       go_roundw
       case rel=>first | exact ⟨q+1,Y++[a],some ⟨g4,0,none⟩,cap4,by simp,by go_num,unhide HQ1,unhide HLT,unhide HS2,by simpa using unhide HNW⟩ | (repeat apply Exists.intro;exact ⟨⟨q+1,Y++[a],some ⟨g4,0,none⟩,cap4,by simp,by go_num,unhide HQ1,unhide HLT,unhide HS2,by simpa using unhide HNW⟩,rfl⟩)
       case measure=>have:=unhide HLT;simp [intOf];omega
     ·have hq3:q=X.length:=by omega
      subst hq3
      have HE:Hid (Y=insS X s):=by
       rw [hY,show (X.drop k).take (X.length - k)=X.drop k from List.take_of_length_le (by rw [List.length_drop];exact Nat.le_refl _),←(unhide HLH).1,←(unhide HLH).2];exact rfl
      clear HH hq1 hq2 hY hI hlt
      go_wp2_with fail
      go_ret
      exact ⟨_,rfl,by rw [←unhide HE];exact (unhide HI1).row,(unhide HI1).below⟩
end Go.Proofs.YtobfpgoepaeknaaGreat
namespace Go.Proofs.YtobfpgoepaeknaaGreat
open Go.RowKit
def RowAt (w:World) (b k:Nat):Prop:=∃ v fr,w.heap[b]?=some (.cells #[v] 102 fr)∧v.ownBlock=some k
structure Fy (b:Nat) (w w':World):Prop where
 below:Below b w w'
 keep:∀ k,k < w.heap.size→k≠b→¬RowAt w b k→w'.heap[k]?=w.heap[k]?
 row:∀ k,RowAt w' b k→RowAt w b k∨w.heap.size≤k
theorem Fy.refl (b:Nat) (w:World):Fy b w w:=⟨Below.refl _ _,fun _ _ _ _=>rfl,fun _ h=>.inl h⟩
theorem Fy.trans {b:Nat} {w w1 w2:World} (h:Fy b w w1) (k:Fy b w1 w2):Fy b w w2:=by
 refine ⟨h.below.trans k.below,fun i hi hb hr=>?_,fun i hi=>?_⟩
 ·rw [k.keep i (Nat.lt_of_lt_of_le hi h.below.size) hb (fun hr'=>?_)]
  ·exact h.keep i hi hb hr
  ·rcases h.row i hr' with g | g
   ·exact hr g
   ·omega
 ·rcases k.row i hi with g | g
  ·exact h.row i g
  ·exact .inr (Nat.le_trans h.below.size g)
theorem Fy.ofBelow {b:Nat} {w w':World} (h:Below w.heap.size w w') (hb:b < w.heap.size):Fy b w w':=by
 refine ⟨h.mono (Nat.le_of_lt hb),fun k hk _ _=>h.block k hk,fun k ⟨v,fr,h1,h2⟩=>.inl ⟨v,fr,?_,h2⟩⟩
 rw [←h.block b hb];exact h1
theorem RtS.rowNode {w:World} {b k:Nat} {rs:List Rn} (h:RtS w b rs) (hr:RowAt w b k):∃ cs fr,w.heap[k]?=some (.cells cs 151 fr):=by
 obtain ⟨v,h1,h2⟩:=h
 obtain ⟨v',fr,g1,g2⟩:=hr
 rw [h1] at g1
 simp at g1
 rw [←g1.1] at g2
 rcases h2.2 with ⟨rfl,_⟩ | ⟨g,cap,cur,rfl,_,hg,_⟩
 ·cases g2
 ·cases g2
  exact ⟨_,_,hg⟩
theorem Fy.at {b:Nat} {w w':World} {rs:List Rn} (h:Fy b w w') (ht:RtS w b rs) {k:Nat} {cs:Array Value} {ty:TypeId} {fr:Nat × Nat} (hk:w.heap[k]?=some (.cells cs ty fr)) (h1:ty≠151) (h2:ty≠102):w'.heap[k]?=some (.cells cs ty fr):=by
 rw [h.keep k (Array.getElem?_eq_some_iff.1 hk).1 (fun e=>?_) (fun hr=>?_)]
 ·exact hk
 ·subst e
  obtain ⟨v,g1,_⟩:=ht
  rw [g1] at hk
  simp at hk
  exact h2 hk.2.1.symm
 ·obtain ⟨cs',fr',g⟩:=ht.rowNode hr
  rw [g] at hk
  simp at hk
  exact h1 hk.2.1.symm
theorem Fy.own {b:Nat} {w w':World} {rs:List Rn} (h:Fy b w w') (ht:RtS w b rs) {B e z:Nat} {v:Value} {n:Nat} {xs:List Value} (ho:w.ownsRow B e z v n xs) (h1:e≠151) (h2:e≠102):w'.ownsRow B e z v n xs:=by
 refine ⟨ho.1,?_⟩
 rcases ho.2 with hl | ⟨g,cap,cur,rfl,q1,hg,rest⟩
 ·exact .inl hl
 ·exact .inr ⟨g,cap,cur,rfl,q1,h.at ht hg h1 h2,rest⟩
theorem SRow.fy {b:Nat} {w w':World} {rs:List Rn} {B:Nat} {v:Value} {X:List ByteArray} (h:SRow w B v X) (hf:Fy b w w') (ht:RtS w b rs):SRow w' B v X:=hf.own ht h (by decide) (by decide)
theorem put_fin3 {w W w':World} {b:Nat} {v:Value} {rs:List Rn} {r:Rn} {g cap:Nat} (hb:b < w.heap.size) (hW:Below w.heap.size w W)
  (h1:W.heap[b]?=some (.cells #[v] 102 (0,0))) (h2:W.ownsRow (b+1) 151 261 v rs.length (rnCells rs))
  (hg:W.grownBy w' v.ownBlock) (ho:w'.ownsRow (b+1) 151 261 (.slice (some ⟨g,0,none⟩) (rs.length+1) cap) (rs.length+1) (rnCells rs++(rnA r).toList)) (hl:v.ownBlock=some g∨w.heap.size≤g) :
  Fy b w (w'.setCell ⟨b,0,none⟩ (.slice (some ⟨g,0,none⟩) (rs.length+1) cap))∧RtS (w'.setCell ⟨b,0,none⟩ (.slice (some ⟨g,0,none⟩) (rs.length+1) cap)) b (rs++[r]):=by
 obtain ⟨p1,p2⟩:=put_fin hb (hW.mono (by omega)) h1 h2 hg ho
 have hwb:w.heap[b]?=some (.cells #[v] 102 (0,0)):=by rw [←hW.block b hb];exact h1
 have hW'b:w'.heap[b]?=some (.cells #[v] 102 (0,0)):=by rw [hg.block b (Array.getElem?_eq_some_iff.1 h1).1 (own_ne h2)];exact h1
 refine ⟨⟨p1,fun k hk hkb hr=>?_,fun k hk=>?_⟩,p2⟩
 ·rw [Below.heap_setCell _ _ _ _ hkb,hg.block k (Nat.lt_of_lt_of_le hk hW.size) (fun e=>hr ⟨v,_,hwb,e.symm⟩),hW.block k hk]
 ·obtain ⟨v2,fr,q1,q2⟩:=hk
  rw [setNodesT hW'b] at q1
  simp at q1
  rw [←q1.1] at q2
  have hgk:g=k:=by simpa [Value.ownBlock] using q2
  subst hgk
  rcases hl with hl | hl
  ·exact .inl ⟨v,_,hwb,hl⟩
  ·exact .inr hl
section putz
attribute [local go_sem ↓] wp_load_nd wp_build_nd
set_option maxHeartbeats 1000000 in
theorem put_fy (w:World) (b:Nat) (rs:List Rn) (r:Rn) (h:RtS w b rs) (hn:rs.length≤1000) :
  Calls Tryz.prog 78 #[.pointer (some ⟨b,0,none⟩),.agg (rnA r)] w fun e w' =>
   e=.returned (.int .i64 (rs.length:Int))∧Fy b w w'∧RtS w' b (rs++[r]):=by
 obtain ⟨v,h1,h2⟩:=h
 have c0:w.cell? ⟨b,0,none⟩=some v:=by rw [cell_of_row _ _ _ _ _ _ h1];rfl
 have f0:w.frozen? ⟨b,0,none⟩=false:=frozen_of_row _ _ _ _ _ h1
 obtain ⟨i,i0,i1,i2,i3⟩:=info_of infoN
 have hbl:b < w.heap.size:=(Array.getElem?_eq_some_iff.1 h1).1
 have H2:=hide ((h2.alloc (Obj.cells (rnA r) 151)).alloc (Obj.cells (rnA r) 151))
 have HC:Hid (∀ j u,(rnA r).toList[j]?=some u→((w.alloc (Obj.cells (rnA r) 151)).alloc (Obj.cells (rnA r) 151)).cell? ((⟨w.heap.size+1,0,none⟩:Addr).add j)=some u):=by
  have:=cells_new (w.alloc (Obj.cells (rnA r) 151)) (rnA r).toList 151
  simp only [Array.toArray_toList,World.size_alloc] at this
  exact this
 have hH1:((w.alloc (Obj.cells (rnA r) 151)).alloc (Obj.cells (rnA r) 151)).heap[b]?=some (.cells #[v] 102 (0,0)):=by
  rw [Below.heap_alloc _ _ _ (by simp;omega),Below.heap_alloc _ _ _ hbl];exact h1
 have H1:=hide hH1
 have HI:=hide (And.intro i0 (And.intro i1 (And.intro i2 i3)))
 have HN:=hide hn
 have HO:=hide (own_ne h2)
 have hL:(rs.length:Int)≤1000:=by omega
 clear i0 i1 i2 i3 h1 h2 hn hH1
 go_enter Tryz.func78,Tryz.ntmps78
 go_wp2
 go_region_law (refine step_append_lies _ rfl (.tmp 9) (.tmp 11) 100 rfl (b+1) 151 i (.agg (rnA ⟨0,0,0,0,0,noSet⟩)) 261 296 Tryz.underlying100 (unhide HI).1 (unhide HI).2.1 (unhide HI).2.2.1 (unhide HI).2.2.2 zszN pos261 v rs.length (rnCells rs) (by simp [Act.eval]) (by exact unhide H2) ⟨w.heap.size+1,0,none⟩ 1 1 (rnA r).toList (by simp [Act.eval]) (len_rnA r) (by exact unhide HC) (rnA_toList_one r) (by decide) (by have:=unhide HN;unfold maxLen;omega) (by have:=unhide HN;omega) (by simp;omega) (w.heap.size+1+1) (by simp) ?_;intro g cap w' ho hg' hlies hltg;have hr':=(hg'.block b (by simp;omega) (unhide HO)).trans (by exact unhide H1);have d0:w'.cell? ⟨b,0,none⟩=some v:=(by rw [cell_of_row _ _ _ _ _ _ hr'];rfl);have g0:w'.frozen? ⟨b,0,none⟩=false:=frozen_of_row _ _ _ _ _ hr';have HLI:Hid (v.ownBlock=some g∨w.heap.size≤g):=hlies.elim Or.inl (fun e=>Or.inr (by rw [e];omega));have HG:=hide hg';have HO':=hide ho;clear hg' ho hr' hlies)
 all_goals
  go_wp2
  go_ret
  exact ⟨rfl,put_fin3 hbl (by exact (((Below.refl _ w).alloc (Nat.le_refl _) _).alloc (by simp) _).drew) (by exact unhide H1) (by exact unhide H2) (unhide HG) (unhide HO') (unhide HLI)⟩
end putz
theorem fst_none_of {ct:Nm}:∀ {l:List Rn},(∀ (j:Nat) (r:Rn),l[j]?=some r→ctOf r≠ct)→fstC ct l=none
 | [],_=>rfl
 | r ::l,h=>by
  rw [fstC,if_neg (h 0 r rfl),fst_none_of (fun j r' hj=>h (j+1) r' hj)];rfl
theorem fst_some_of {ct:Nm}:∀ {l:List Rn} {i:Nat} {r:Rn},l[i]?=some r→ctOf r=ct→(∀ (j:Nat) (r':Rn),j < i→l[j]?=some r'→ctOf r'≠ct)→fstC ct l=some i
 | [],i,r,h,_,_=>by simp at h
 | a ::l,0,r,h,hc,_=>by
  simp at h
  subst h
  rw [fstC,if_pos hc]
 | a ::l,i+1,r,h,hc,hn=>by
  rw [fstC,if_neg (hn 0 a (by omega) rfl),fst_some_of (l:=l) (i:=i) h hc (fun j r' hj hr=>hn (j+1) r' (by omega) hr)];rfl
section findz
set_option maxRecDepth 20000 in
set_option maxHeartbeats 4000000 in
theorem find_any (w:World) (b:Nat) (rs:List Rn) (n:Rn) (hb:RtS w b rs) (hl:rs.length≤900) :
  Calls Tryz.prog 125 #[.pointer (some ⟨b,0,none⟩),.agg (rnA n)] w fun e w'=>∃ (i:Nat) (rs':List Rn),e=.returned (.int .i64 (i:Int))∧Fy b w w'∧RtS w' b rs' ∧
   ((fstC (ctOf n) rs=some i∧rs'=rs)∨(fstC (ctOf n) rs=none∧i=rs.length∧rs'=rs++[n])):=by
 have HRT:=hide hb
 have hbl:=RtS_lt hb
 have HBL:=hide hbl
 have hlI:(rs.length:Int)≤900:=by omega
 have HL:=hide hl
 have HB0:Hid (Below w.heap.size w (w.alloc (Obj.cells (rnA n) 151))):=(Below.refl _ _).alloc (Nat.le_refl _) _
 have HX0:Hid ((w.alloc (Obj.cells (rnA n) 151)).heap[w.heap.size]?=some (.cells (rnA n) 151 (0,0))):=heap_alloc_new _ _
 clear hb hl
 go_enter Tryz.func125,Tryz.ntmps125
 go_wp2_with fail
 go_loopw [5] (fun ix wr=>∃ i:Nat,ix=.int .i64 (i:Int)∧Hid (i≤rs.length)∧Hid (Below w.heap.size w wr)∧Hid (wr.heap[w.heap.size]?=some (.cells (rnA n) 151 (0,0)))∧Hid (∀ j r',j < i→rs[j]?=some r'→ctOf r'≠ctOf n)) (fun ix _=>rs.length - (intOf ix).toNat)
 case atStart=>exact ⟨0,rfl,Nat.zero_le _,unhide HB0,unhide HX0,fun j r' hj=>absurd hj (Nat.not_lt_zero _)⟩
 case round =>
  clear HB0 HX0
  rename World=>wr
  obtain ⟨i,rfl,HI0,HB,HX,HALL⟩:=hrel
  have HRW:=hide (RtS_below (unhide HRT) (unhide HB))
  by_cases hlt:i < rs.length
  ·obtain ⟨r,hr⟩:∃ r,rs[i]?=some r:=⟨_,List.getElem?_eq_getElem hlt⟩
   obtain ⟨g,cap,hkl',c0,hc⟩:=nd_begin (unhide HRW) hr
   have HC:=hide hc
   have HN1:=hide (heap_alloc_new wr (Obj.cells Tryz.zeroCells151 151))
   have hsz:w.heap.size < wr.heap.size:=(Array.getElem?_eq_some_iff.1 (unhide HX)).1
   have hbt:Below wr.heap.size wr ((wr.alloc (Obj.cells Tryz.zeroCells151 151)).setRow wr.heap.size (rnA r)):=below_setRow ((Below.refl _ _).alloc (Nat.le_refl _) _) (Nat.le_refl _) _
   have HB3:=hide ((unhide HB).trans (hbt.mono (unhide HB).size))
   have hX3:=(hbt.block _ hsz).trans (unhide HX)
   have HX3:=hide hX3
   obtain ⟨x0,x1,x2,x3,x4⟩:=nd_cells wr r
   obtain ⟨y0,y1,y2,y3,y4⟩:=rnA_fields n
   have b0:((wr.alloc (Obj.cells Tryz.zeroCells151 151)).setRow wr.heap.size (rnA r)).cell? ⟨w.heap.size,0,none⟩=some (.int .i64 n.kind):=by rw [cell_of_row _ _ _ _ _ _ hX3];exact y0
   have b1:((wr.alloc (Obj.cells Tryz.zeroCells151 151)).setRow wr.heap.size (rnA r)).cell? ⟨w.heap.size,1,none⟩=some (.int .i64 n.l):=by rw [cell_of_row _ _ _ _ _ _ hX3];exact y1
   have b3:((wr.alloc (Obj.cells Tryz.zeroCells151 151)).setRow wr.heap.size (rnA r)).cell? ⟨w.heap.size,3,none⟩=some (.int .i64 n.m):=by rw [cell_of_row _ _ _ _ _ _ hX3];exact y3
   have b4:((wr.alloc (Obj.cells Tryz.zeroCells151 151)).setRow wr.heap.size (rnA r)).cell? ⟨w.heap.size,4,none⟩=some (.int .i64 n.n):=by rw [cell_of_row _ _ _ _ _ _ hX3];exact y4
   have HLT:=hide hlt
   have HALL2:Hid (ctOf r≠ctOf n→∀ j r',j < i+1→rs[j]?=some r'→ctOf r'≠ctOf n):=fun hne j r' hj hr'=>by
    by_cases e:j=i
    ·subst e;rw [hr] at hr';cases hr';exact hne
    ·exact unhide HALL j r' (by omega) hr'
   have HRR:=hide hr
   have hltI:(i:Int) < (rs.length:Int):=by omega
   clear hc hbt hX3 y0 y1 y2 y3 y4 hlt hr
   by_cases e0:r.kind=n.kind
   ·by_cases e1:r.l=n.l
    ·by_cases e3:r.m=n.m
     ·by_cases e4:r.n=n.n
      ·have HF:Hid (fstC (ctOf n) rs=some i):=fst_some_of (unhide HRR) (by unfold ctOf;rw [e0,e1,e3,e4]) (unhide HALL)
       have HFZ:Hid (Fy b w ((wr.alloc (Obj.cells Tryz.zeroCells151 151)).setRow wr.heap.size (rnA r))):=Fy.ofBelow (unhide HB3) (unhide HBL)
       have HRZ:=hide (RtS_below (unhide HRT) (unhide HB3))
       rw [e0] at x0
       rw [e1] at x1
       rw [e3] at x3
       rw [e4] at x4
       clear e0 e1 e3 e4
       go_wp2_with (first
        | refine wpList_load_mid rfl 151 _ rfl ⟨g,i * 261,none⟩ rfl (rnA r) (unhide HC) _ Tryz.underlying151 rfl (by rw [size_rnA];exact info78) ?_
        | refine wpList_store_row0 rfl 151 _ _ rfl rfl wr.heap.size _ rfl rfl 151 _ (unhide HN1) (by rw [size_rnA];exact info78) (by rw [zero78,size_rnA,size_rnA]) (rnA_one _) ?_)
       go_ret
       exact ⟨i,rs,rfl,unhide HFZ,unhide HRZ,.inl ⟨unhide HF,rfl⟩⟩
      ·rw [e0] at x0
       rw [e1] at x1
       rw [e3] at x3
       have HNO:=hide (unhide HALL2 (fun e=>by have e:=e;simp only [ctOf,Nm.x.injEq] at e;exact e4 e.2.2.2))
       go_wp2_with (first
        | refine wpList_load_mid rfl 151 _ rfl ⟨g,i * 261,none⟩ rfl (rnA r) (unhide HC) _ Tryz.underlying151 rfl (by rw [size_rnA];exact info78) ?_
        | refine wpList_store_row0 rfl 151 _ _ rfl rfl wr.heap.size _ rfl rfl 151 _ (unhide HN1) (by rw [size_rnA];exact info78) (by rw [zero78,size_rnA,size_rnA]) (rnA_one _) ?_)
       go_roundw
       case rel=>exact ⟨i+1,by go_num,unhide HLT,unhide HB3,unhide HX3,unhide HNO⟩
       case measure=>have:=unhide HLT;simp [intOf];omega
     ·rw [e0] at x0
      rw [e1] at x1
      have HNO:=hide (unhide HALL2 (fun e=>by have e:=e;simp only [ctOf,Nm.x.injEq] at e;exact e3 e.2.2.1))
      go_wp2_with (first
       | refine wpList_load_mid rfl 151 _ rfl ⟨g,i * 261,none⟩ rfl (rnA r) (unhide HC) _ Tryz.underlying151 rfl (by rw [size_rnA];exact info78) ?_
       | refine wpList_store_row0 rfl 151 _ _ rfl rfl wr.heap.size _ rfl rfl 151 _ (unhide HN1) (by rw [size_rnA];exact info78) (by rw [zero78,size_rnA,size_rnA]) (rnA_one _) ?_)
      go_roundw
      case rel=>exact ⟨i+1,by go_num,unhide HLT,unhide HB3,unhide HX3,unhide HNO⟩
      case measure=>have:=unhide HLT;simp [intOf];omega
    ·rw [e0] at x0
     have HNO:=hide (unhide HALL2 (fun e=>by have e:=e;simp only [ctOf,Nm.x.injEq] at e;exact e1 e.2.1))
     go_wp2_with (first
      | refine wpList_load_mid rfl 151 _ rfl ⟨g,i * 261,none⟩ rfl (rnA r) (unhide HC) _ Tryz.underlying151 rfl (by rw [size_rnA];exact info78) ?_
      | refine wpList_store_row0 rfl 151 _ _ rfl rfl wr.heap.size _ rfl rfl 151 _ (unhide HN1) (by rw [size_rnA];exact info78) (by rw [zero78,size_rnA,size_rnA]) (rnA_one _) ?_)
     go_roundw
     case rel=>exact ⟨i+1,by go_num,unhide HLT,unhide HB3,unhide HX3,unhide HNO⟩
     case measure=>have:=unhide HLT;simp [intOf];omega
   ·have HNO:=hide (unhide HALL2 (fun e=>by have e:=e;simp only [ctOf,Nm.x.injEq] at e;exact e0 e.1))
    go_wp2_with (first
     | refine wpList_load_mid rfl 151 _ rfl ⟨g,i * 261,none⟩ rfl (rnA r) (unhide HC) _ Tryz.underlying151 rfl (by rw [size_rnA];exact info78) ?_
     | refine wpList_store_row0 rfl 151 _ _ rfl rfl wr.heap.size _ rfl rfl 151 _ (unhide HN1) (by rw [size_rnA];exact info78) (by rw [zero78,size_rnA,size_rnA]) (rnA_one _) ?_)
    go_roundw
    case rel=>exact ⟨i+1,by go_num,unhide HLT,unhide HB3,unhide HX3,unhide HNO⟩
    case measure=>have:=unhide HLT;simp [intOf];omega
  ·have hi2:i=rs.length:=by have:=unhide HI0;omega
   subst hi2
   have HF:Hid (fstC (ctOf n) rs=none):=fst_none_of (fun j r' hj=>unhide HALL j r' (List.getElem?_eq_some_iff.1 hj).1 hj)
   obtain ⟨vv,hv1,hv2⟩:=unhide HRW
   obtain ⟨va,vn,vc,rfl⟩:=own_slice hv2
   have hvn:vn=rs.length:=by
    rcases hv2.2 with ⟨e,h0⟩ | ⟨g,cap,cur,e,_⟩
    ·cases e;exact h0.symm
    ·simp only [Value.slice.injEq] at e;exact e.2.1
   subst hvn
   have c0:wr.cell? ⟨b,0,none⟩=some (.slice va rs.length vc):=by rw [cell_of_row _ _ _ _ _ _ hv1];rfl
   have HP:=hide (put_fy wr b rs n (unhide HRW) (by have:=unhide HL;omega))
   have HFZ:Hid (Fy b w wr):=Fy.ofBelow (unhide HB) (unhide HBL)
   clear hlt hv1 hv2
   go_wp2_with (refine wpList_load_row rfl 151 _ rfl w.heap.size rfl 151 _ (0,0) _ (unhide HX) Tryz.underlying151 rfl (by rw [size_rnA];exact info78) ?_)
   refine (unhide HP).mono ?_
   rintro e w2 ⟨rfl,hw2,hr2⟩
   have HF2:=hide ((unhide HFZ).trans hw2)
   have HR2:=hide hr2
   clear hw2 hr2
   go_wp2_with fail
   go_ret
   exact ⟨rs.length,_,rfl,unhide HF2,unhide HR2,.inr ⟨unhide HF,rfl,rfl⟩⟩
end findz
end Go.Proofs.YtobfpgoepaeknaaGreat
namespace Go.Proofs.YtobfpgoepaeknaaGreat
open Go.RowKit
attribute [local go_sem ↓] Go.wp_at_zero Go.wp_at_succ
theorem low_len (s:ByteArray):∀ l,(lowS s l).length+(highS s l).length=l.length:=fun l=>by
 rw [←List.length_append,low_high]
theorem insS_len (l:List ByteArray) (s:ByteArray):(insS l s).length≤l.length+1:=by
 unfold insS
 have h1:=low_len s l
 have h2:((highS s l).filter (fun x=>decide (x≠s))).length≤(highS s l).length:=List.length_filter_le _ _
 simp only [List.length_append,List.length_cons,List.length_nil]
 omega
def bothS (X Y:List ByteArray):List ByteArray:=Y.foldl insS X
theorem bothS_srt {X:List ByteArray} (h:SrtS X):∀ Y,SrtS (bothS X Y):=fun Y=>by
 unfold bothS
 induction Y generalizing X with
 | nil=>exact h
 | cons s Y ih=>exact ih (insS_srt h s)
theorem bothS_mem (X Y:List ByteArray) (x:ByteArray):x∈bothS X Y↔x∈X∨x∈Y:=by
 unfold bothS
 induction Y generalizing X with
 | nil=>simp
 | cons s Y ih =>
  rw [List.foldl_cons,ih,insS_mem,List.mem_cons]
  constructor
  ·rintro ((h | h) | h)
   ·exact .inr (.inl h)
   ·exact .inl h
   ·exact .inr (.inr h)
  ·rintro (h | h | h)
   ·exact .inl (.inr h)
   ·exact .inl (.inl h)
   ·exact .inr h
theorem bothS_len (X Y:List ByteArray):(bothS X Y).length≤X.length+Y.length:=by
 unfold bothS
 induction Y generalizing X with
 | nil=>simp
 | cons s Y ih =>
  have h1:=ih (insS X s)
  have h2:=insS_len X s
  rw [List.foldl_cons,List.length_cons]
  omega
theorem foldl_take {f:List ByteArray→ByteArray→List ByteArray} {X Y:List ByteArray} {k:Nat} (hk:k < Y.length):(Y.take (k+1)).foldl f X=f ((Y.take k).foldl f X) (Y.getD k ByteArray.empty):=by
 have e:Y.take (k+1)=Y.take k++[Y.getD k ByteArray.empty]:=by
  rw [List.take_add_one,List.getD_eq_getElem?_getD,List.getElem?_eq_getElem hk];rfl
 rw [e,List.foldl_append];rfl
set_option maxHeartbeats 1000000 in
theorem both_any (w:World) (B B2:Nat) (v u:Value) (X Y:List ByteArray) (h:SRow w B v X) (hy:SRow w B2 u Y) (hl:X.length+Y.length≤9000) :
  Calls Tryz.prog 124 #[v,u] w fun e w'=>∃ v',e=.returned v'∧SRow w' 0 v' (bothS X Y)∧Below w.heap.size w w':=by
 obtain ⟨ya,yc,rfl⟩:=hy.form
 obtain ⟨xa,xc,rfl⟩:=h.form
 have HX:=hide h.zero
 have HY:=hide hy
 have HL:=hide hl
 have hlI:(Y.length:Int)≤9000:=by omega
 clear h hy hl
 go_enter Tryz.func124,Tryz.ntmps124
 go_wp2_with fail
 go_loopw [0,5] (fun av kx wr=>∃ (k:Nat) (aa:Option Addr) (an ac:Nat),av=.slice aa an ac∧kx=.int .i64 (k:Int)∧Hid (k≤Y.length∧Below w.heap.size w wr∧SRow wr 0 (.slice aa an ac) (bothS X (Y.take k)))) (fun _ kx _=>Y.length - (intOf kx).toNat)
 case atStart=>exact ⟨0,_,_,_,rfl,rfl,Nat.zero_le _,Below.refl _ _,unhide HX⟩
 case round =>
  rename World=>wr
  obtain ⟨k,aa,an,ac,rfl,rfl,HH⟩:=hrel
  obtain ⟨hk,hB,hR⟩:=unhide HH
  have HB:=hide hB
  have HR:=hide hR
  by_cases hlt:k < Y.length
  ·have hltI:(k:Int) < (Y.length:Int):=by omega
   have HLT:=hide hlt
   obtain ⟨g,cap,he,hx⟩:=((unhide HY).below hB).at hlt
   simp only [Value.slice.injEq,true_and] at he
   obtain ⟨rfl,rfl⟩:=he
   have HF:Hid (bothS X (Y.take (k+1))=insS (bothS X (Y.take k)) (Y.getD k ByteArray.empty)):=foldl_take hlt
   have hbl:(bothS X (Y.take k)).length≤10000:=by
    have h1:=bothS_len X (Y.take k)
    rw [List.length_take] at h1
    have:=unhide HL
    omega
   generalize Y.getD k ByteArray.empty=a at *
   have HC:=hide (with_any wr 0 _ _ a hR hbl)
   clear HH hk hB hR hlt hbl
   go_wp2_with fail
   refine (unhide HC).mono ?_
   rintro e w1 ⟨v',rfl,hv,hw1⟩
   obtain ⟨va,vc,rfl⟩:=hv.form
   have HB1:=hide ((unhide HB).trans (hw1.mono (unhide HB).size))
   have HV:=hide hv.zero
   clear hv hw1
   go_wp2_with fail
   go_roundw
   case rel=>exact ⟨k+1,va,_,vc,rfl,by go_num,unhide HLT,unhide HB1,by rw [unhide HF];exact unhide HV⟩
   case measure=>have:=unhide HLT;simp [intOf];omega
  ·have hk2:k=Y.length:=by omega
   subst hk2
   clear HH hk hB hR hlt
   go_wp2_with fail
   go_ret
   exact ⟨_,rfl,by have:=unhide HR;rw [List.take_length] at this;exact this,unhide HB⟩
def oneB (k:Nat):ByteArray:=⟨#[UInt8.ofNat k]⟩
theorem bytesN_appZ (a b:ByteArray):bytesN (a++b)=bytesN a++bytesN b:=by unfold bytesN;simp
theorem bytesN_oneB {k:Nat} (h:k < 256):bytesN (oneB k)=[k]:=by
 unfold bytesN oneB
 simp
 omega
theorem conv_cell (W:World) (g c:Nat) (hc:c < 256) (hW:W.cell? ⟨g,0,none⟩=some (.int .u8 (c:Int))) :
  (convert 66 9 (.slice (some ⟨g,0,none⟩) 1 1)).run Tryz.prog W=.ok (.string (oneB c)) W:=by
 have h:=run_convert_bytes_back (P:=Tryz.prog) W 66 9 5 ⟨g,0,none⟩ 1 [UInt8.ofNat c] Tryz.underlying66 Tryz.underlying5 Tryz.underlying9 (by
  intro j hj
  have:j=0:=by simp at hj;omega
  subst this
  have e:(UInt8.ofNat c).toNat=c:=by rw [UInt8.toNat_ofNat'];exact Nat.mod_eq_of_lt (by omega)
  show W.cell? ⟨g,0,none⟩=some (.int .u8 ((UInt8.ofNat c).toNat:Int))
  rw [e];exact hW)
 exact h
def befS (X:List ByteArray) (k:Nat):List ByteArray:=bothS [] (X.map (·++oneB k))
theorem befS_srt (X:List ByteArray) (k:Nat):SrtS (befS X k):=bothS_srt List.Pairwise.nil _
theorem befS_mem (X:List ByteArray) (k:Nat) (x:ByteArray):x∈befS X k↔∃ a∈X,x=a++oneB k:=by
 unfold befS
 rw [bothS_mem]
 simp only [List.not_mem_nil,false_or,List.mem_map]
 constructor
 ·rintro ⟨a,h1,h2⟩;exact ⟨a,h1,h2.symm⟩
 ·rintro ⟨a,h1,h2⟩;exact ⟨a,h1,h2.symm⟩
theorem befS_len (X:List ByteArray) (k:Nat):(befS X k).length≤X.length:=by
 have:=bothS_len [] (X.map (·++oneB k))
 simpa [befS] using this
theorem befS_take {X:List ByteArray} {k q:Nat} (hq:q < X.length):befS (X.take (q+1)) k=insS (befS (X.take q) k) (X.getD q ByteArray.empty++oneB k):=by
 have e:X.take (q+1)=X.take q++[X.getD q ByteArray.empty]:=by
  rw [List.take_add_one,List.getD_eq_getElem?_getD,List.getElem?_eq_getElem hq];rfl
 unfold befS bothS
 rw [e,List.map_append,List.foldl_append];rfl
set_option maxRecDepth 20000 in
set_option maxHeartbeats 2000000 in
theorem before_any (w:World) (B:Nat) (v:Value) (X:List ByteArray) (k:Nat) (h:SRow w B v X) (hl:X.length≤9000) (hk:k < 256) (hz:∀ s∈X,s.size≤100000) :
  Calls Tryz.prog 123 #[v,.int .i64 (k:Int)] w fun e w'=>∃ v',e=.returned v'∧SRow w' 0 v' (befS X k)∧Below w.heap.size w w':=by
 obtain ⟨xa,xc,rfl⟩:=h.form
 have HX:=hide h
 have HL:=hide hl
 have HK:=hide hk
 have HZ:=hide hz
 have hlI:(X.length:Int)≤9000:=by omega
 have hkI:(k:Int) < 256:=by omega
 have hw8:IntKind.u8.wrap (k:Int)=(k:Int):=by rw [IntKind.wrap_u8];omega
 clear h hl hk hz
 go_enter Tryz.func123,Tryz.ntmps123
 go_wp2_with fail
 go_loopw [5,6] (fun ov qx wr=>∃ (q:Nat) (oa:Option Addr) (on oc:Nat),ov=.slice oa on oc∧qx=.int .i64 (q:Int)∧Hid (q≤X.length∧Below w.heap.size w wr∧SRow wr 0 (.slice oa on oc) (befS (X.take q) k))) (fun _ qx _=>X.length - (intOf qx).toNat)
 case atStart=>exact ⟨0,none,0,0,rfl,rfl,Nat.zero_le _,Below.refl _ _,World.ownsRow_nil _ _ _ _⟩
 case round =>
  rename World=>wr
  obtain ⟨q,oa,on,oc,rfl,rfl,HH⟩:=hrel
  obtain ⟨hq,hB,hR⟩:=unhide HH
  have HB:=hide hB
  have HR:=hide hR
  by_cases hlt:q < X.length
  ·have hltI:(q:Int) < (X.length:Int):=by omega
   have HLT:=hide hlt
   obtain ⟨g,cap,he,hx⟩:=((unhide HX).below hB).at hlt
   have hgx:g < wr.heap.size:=by
    rw [he] at HX
    exact (((unhide HX).below hB).lt g rfl).2
   simp only [Value.slice.injEq,true_and] at he
   obtain ⟨rfl,rfl⟩:=he
   have HF:=hide (befS_take (k:=k) hlt)
   have hsz:(X.getD q ByteArray.empty).size≤100000:=by
    rw [List.getD_eq_getElem?_getD,List.getElem?_eq_getElem hlt];exact unhide HZ _ (List.getElem_mem _)
   have hbl:(befS (X.take q) k).length≤10000:=by
    have h1:=befS_len (X.take q) k
    rw [List.length_take] at h1
    have:=unhide HL
    omega
   generalize X.getD q ByteArray.empty=a at *
   have hsz2:a.size+(oneB k).size≤9223372036854775807:=by
    have:(oneB k).size=1:=rfl
    omega
   have HWI:Hid (∀ W,Below wr.heap.size wr W→Calls Tryz.prog 80 #[.slice oa on oc,.string (a++oneB k)] W fun e w'=>∃ v',e=.returned v'∧SRow w' W.heap.size v' (insS (befS (X.take q) k) (a++oneB k))∧Below W.heap.size W w'):=fun W hW=>with_any W 0 _ _ _ ((unhide HR).below hW) hbl
   have HBA:Hid (Below wr.heap.size wr (wr.alloc (Obj.cells #[.int .u8 (k:Int)] 5))):=(Below.refl _ _).alloc (Nat.le_refl _) _
   have hcv2:=conv_cell ((wr.alloc (Obj.cells #[.int .u8 (k:Int)] 5)).drew) wr.heap.size k (unhide HK) (by
    show (wr.alloc (Obj.cells #[.int .u8 (k:Int)] 5)).cell? ⟨wr.heap.size,0,none⟩=_
    rw [World.cell?_alloc_mark];rfl)
   generalize oneB k=ob at *
   clear HH hq hB hR hlt hbl hsz
   go_wp2_with fail
   go_region_with (go_at_call 80;refine (unhide HWI _ (by first | exact (unhide HBA).drew | exact unhide HBA)).mono ?_;rintro e w1 ⟨v',rfl,hv,hw1⟩;obtain ⟨va,vc,rfl⟩:=hv.form;have HB1:=hide ((unhide HB).trans ((((unhide HBA).drew).trans (hw1.mono (by first | exact (unhide HBA).drew.size | exact (unhide HBA).size))).mono (unhide HB).size));have HV:=hide hv.zero;clear hv hw1)
   all_goals
    go_wp2_with fail
    go_roundw
    case rel=>exact ⟨q+1,va,_,vc,rfl,by go_num,unhide HLT,unhide HB1,by rw [unhide HF];exact unhide HV⟩
    case measure=>have:=unhide HLT;simp [intOf];omega
  ·have hq2:q=X.length:=by omega
   subst hq2
   clear HH hq hB hR hlt
   go_wp2_with fail
   go_ret
   exact ⟨_,rfl,by have:=unhide HR;rw [List.take_length] at this;exact this,unhide HB⟩
end Go.Proofs.YtobfpgoepaeknaaGreat
namespace Go.Proofs.YtobfpgoepaeknaaGreat
theorem VSet.both {rs0 rs:List Rn} {U V W:List (List Nm)} {X Y:List ByteArray} (h:VSet rs0 rs U X) (k:VSet rs0 rs V Y) (hU:∀ u∈U,u∈W) (hV:∀ u∈V,u∈W):VSet rs0 rs W (bothS X Y):=by
 refine ⟨bothS_srt h.srt _,fun s hs=>?_,fun s hs=>?_⟩
 ·rcases (bothS_mem X Y s).1 hs with g | g
  ·exact (h.mono hU).inu s g
  ·exact (k.mono hV).inu s g
 ·rcases (bothS_mem X Y s).1 hs with g | g
  ·exact h.num s g
  ·exact k.num s g
theorem stB_both (rs:List Rn) (X Y:List ByteArray):stB rs (bothS X Y)=altL (stB rs X) (stB rs Y):=Lang.ext fun w=>by
 constructor
 ·rintro ⟨s,h1,h2⟩
  rcases (bothS_mem X Y s).1 h1 with g | g
  ·exact .inl ⟨s,g,h2⟩
  ·exact .inr ⟨s,g,h2⟩
 ·rintro (⟨s,h1,h2⟩ | ⟨s,h1,h2⟩)
  ·exact ⟨s,(bothS_mem X Y s).2 (.inl h1),h2⟩
  ·exact ⟨s,(bothS_mem X Y s).2 (.inr h1),h2⟩
theorem VSet.bef {rs0 rs:List Rn} {U W:List (List Nm)} {X:List ByteArray} {k:Nat} (h:VSet rs0 rs U X) (hk:NumOk rs0 rs k) (hl:k < rs.length) (h256:k < 256) (hW:∀ u∈U,u++[nmOf rs0 rs k]∈W):VSet rs0 rs W (befS X k):=by
 have key:∀ {a:ByteArray},bytesN (a++oneB k)=bytesN a++[k]:=fun {a}=>by rw [bytesN_appZ,bytesN_oneB h256]
 refine ⟨befS_srt _ _,fun s hs=>?_,fun s hs j hj=>?_⟩
 ·obtain ⟨a,h1,rfl⟩:=(befS_mem X k s).1 hs
  refine ⟨fun j hj=>?_,?_⟩
  ·rw [key] at hj
   rcases List.mem_append.1 hj with hj | hj
   ·exact (h.inu a h1).1 j hj
   ·simp only [List.mem_singleton] at hj;subst hj;exact hl
  ·unfold nmS
   rw [key,List.map_append]
   exact hW _ (h.inu a h1).2
 ·obtain ⟨a,h1,rfl⟩:=(befS_mem X k s).1 hs
  rw [key] at hj
  rcases List.mem_append.1 hj with hj | hj
  ·exact h.num a h1 j hj
  ·simp only [List.mem_singleton] at hj;subst hj;exact hk
theorem stB_bef (rs:List Rn) (X:List ByteArray) {k:Nat} (h256:k < 256):stB rs (befS X k)=catL (stB rs X) (LN rs k):=Lang.ext fun w=>by
 have key:∀ a:ByteArray,tmL rs (bytesN (a++oneB k))=catL (tmL rs (bytesN a)) (LN rs k):=fun a=>by
  rw [bytesN_appZ,bytesN_oneB h256,tmL_append]
  show catL _ (catL (LN rs k) epsL)=_
  rw [catL_eps]
 constructor
 ·rintro ⟨s,h1,h2⟩
  obtain ⟨a,g1,rfl⟩:=(befS_mem X k s).1 h1
  rw [key] at h2
  obtain ⟨u,v,e,q1,q2⟩:=h2
  exact ⟨u,v,e,⟨a,g1,q1⟩,q2⟩
 ·rintro ⟨u,v,e,⟨a,g1,q1⟩,q2⟩
  refine ⟨a++oneB k,(befS_mem X k _).2 ⟨a,g1,rfl⟩,?_⟩
  rw [key]
  exact ⟨u,v,e,q1,q2⟩
theorem VSet.one {rs0 rs:List Rn} {U:List (List Nm)} (hU:[]∈U):VSet rs0 rs U [⟨#[]⟩]:=by
 refine ⟨List.pairwise_singleton _ _,fun s hs=>?_,fun s hs k hk=>?_⟩
 ·simp only [List.mem_singleton] at hs
  subst hs
  exact ⟨(fun k hk=>by cases hk),hU⟩
 ·simp only [List.mem_singleton] at hs
  subst hs
  cases hk
theorem stB_one (rs:List Rn):stB rs [⟨#[]⟩]=epsL:=Lang.ext fun w=>by
 constructor
 ·rintro ⟨s,h1,h2⟩
  simp only [List.mem_singleton] at h1
  subst h1;exact h2
 ·intro h;exact ⟨_,List.mem_singleton.2 rfl,h⟩
theorem found_star {rs0 rs rs':List Rn} (hg:GrowT rs0 rs) {a:Re} {l:Nat} (ha:Dr rs0 a (l:Int)) (hw:a.wt≤12) (hc:Nm.x 5 (l:Int) 0 0∈ctsT rs0) {i:Nat}
  (h:(fstC (ctOf ⟨5,(l:Int),0,0,0,noSet⟩) rs=some i∧rs'=rs)∨(fstC (ctOf ⟨5,(l:Int),0,0,0,noSet⟩) rs=none∧i=rs.length∧rs'=rs++[⟨5,(l:Int),0,0,0,noSet⟩])) :
  GrowT rs0 rs'∧(∃ x,rs'=rs++x)∧i < rs'.length∧nmOf rs0 rs' i=resN rs0 (.x 5 (l:Int) 0 0)∧NumOk rs0 rs' i∧Dr rs' (.star a) (i:Int):=by
 obtain ⟨e,he⟩:=hg.gr.pre
 rcases h with ⟨h1,rfl⟩ | ⟨h1,rfl,rfl⟩
 ·obtain ⟨q1,q2⟩:=hg.gr.found h1
  obtain ⟨r,g1,g2⟩:=fstC_some h1
  simp only [ctOf,Nm.x.injEq] at g2
  obtain ⟨e1,e2,e3,e4⟩:=g2
  have hd:Dr rs' (.star a) (i:Int):=⟨r,by omega,by rw [Int.toNat_natCast];exact g1,e1,by rw [e2,he];exact ha.app e⟩
  refine ⟨hg,⟨[],by simp⟩,q2,q1,?_,hd⟩
  by_cases hi:i < rs0.length
  ·refine .inl ⟨hi,.star a,⟨r,by omega,?_,e1,by rw [e2];exact ha⟩,hw⟩
   rw [Int.toNat_natCast]
   rw [he,List.getElem?_append_left hi] at g1;exact g1
  ·exact .inr ⟨by omega,r,g1,a,by rw [e2];exact ha,hw,.inl ⟨e1,e3,e4⟩⟩
 ·obtain ⟨q1,q2⟩:=hg.gr.put h1
  have hget:(rs++[(⟨5,(l:Int),0,0,0,noSet⟩:Rn)])[rs.length]?=some ⟨5,(l:Int),0,0,0,noSet⟩:=by simp
  have hlen:=hg.gr.len
  refine ⟨hg.put h1 hc,⟨_,rfl⟩,by simp,q2,.inr ⟨hlen,_,hget,a,ha,hw,.inl ⟨rfl,rfl,rfl⟩⟩,⟨_,by omega,by rw [Int.toNat_natCast];exact hget,rfl,?_⟩⟩
  show Dr (rs++[_]) a (l:Int)
  rw [he];exact (ha.app e).app _
theorem found_times {rs0 rs rs':List Rn} (hg:GrowT rs0 rs) {a:Re} {l m n:Nat} (ha:Dr rs0 a (l:Int)) (hw:a.wt≤12) (hw2:(Re.times m n a).wt≤12) (hm:m≤9) (hn:n≤9) (hc:Nm.x 8 (l:Int) (m:Int) (n:Int)∈ctsT rs0) {i:Nat}
  (h:(fstC (ctOf ⟨8,(l:Int),0,(m:Int),(n:Int),noSet⟩) rs=some i∧rs'=rs)∨(fstC (ctOf ⟨8,(l:Int),0,(m:Int),(n:Int),noSet⟩) rs=none∧i=rs.length∧rs'=rs++[⟨8,(l:Int),0,(m:Int),(n:Int),noSet⟩])) :
  GrowT rs0 rs'∧(∃ x,rs'=rs++x)∧i < rs'.length∧nmOf rs0 rs' i=resN rs0 (.x 8 (l:Int) (m:Int) (n:Int))∧NumOk rs0 rs' i∧Dr rs' (.times m n a) (i:Int):=by
 obtain ⟨e,he⟩:=hg.gr.pre
 rcases h with ⟨h1,rfl⟩ | ⟨h1,rfl,rfl⟩
 ·obtain ⟨q1,q2⟩:=hg.gr.found h1
  obtain ⟨r,g1,g2⟩:=fstC_some h1
  simp only [ctOf,Nm.x.injEq] at g2
  obtain ⟨e1,e2,e3,e4⟩:=g2
  have hd:Dr rs' (.times m n a) (i:Int):=⟨r,by omega,by rw [Int.toNat_natCast];exact g1,e1,e3,e4,hm,hn,by rw [e2,he];exact ha.app e⟩
  refine ⟨hg,⟨[],by simp⟩,q2,q1,?_,hd⟩
  by_cases hi:i < rs0.length
  ·refine .inl ⟨hi,.times m n a,⟨r,by omega,?_,e1,e3,e4,hm,hn,by rw [e2];exact ha⟩,hw2⟩
   rw [Int.toNat_natCast]
   rw [he,List.getElem?_append_left hi] at g1;exact g1
  ·exact .inr ⟨by omega,r,g1,a,by rw [e2];exact ha,hw,.inr ⟨e1,m,n,e3,e4,hm,hn,hw2⟩⟩
 ·obtain ⟨q1,q2⟩:=hg.gr.put h1
  have hget:(rs++[(⟨8,(l:Int),0,(m:Int),(n:Int),noSet⟩:Rn)])[rs.length]?=some ⟨8,(l:Int),0,(m:Int),(n:Int),noSet⟩:=by simp
  have hlen:=hg.gr.len
  refine ⟨hg.put h1 hc,⟨_,rfl⟩,by simp,q2,.inr ⟨hlen,_,hget,a,ha,hw,.inr ⟨rfl,m,n,rfl,rfl,hm,hn,hw2⟩⟩,⟨_,by omega,by rw [Int.toNat_natCast];exact hget,rfl,rfl,rfl,hm,hn,?_⟩⟩
  show Dr (rs++[_]) a (l:Int)
  rw [he];exact (ha.app e).app _
theorem cts_plus {rs0:List Rn} {a:Re} {k:Nat} {r:Rn} (h:rs0[k]?=some r) (hk:r.kind=6) (ha:Dr rs0 a r.l):Nm.x 5 ((r.l.toNat:Nat):Int) 0 0∈ctsT rs0:=by
 refine List.mem_flatMap.2 ⟨r,List.mem_of_getElem? h,?_⟩
 unfold ctsR
 rw [if_pos hk,toNat_cast ha.nonneg]
 simp
theorem cts_times {rs0:List Rn} {a:Re} {k m n j:Nat} {r:Rn} (h:rs0[k]?=some r) (hk:r.kind=8) (hm:r.m=(m:Int)) (hn:r.n=(n:Int)) (ha:Dr rs0 a r.l) (hj:j < n):Nm.x 8 ((r.l.toNat:Nat):Int) ((m - (j+1):Nat):Int) ((n - (j+1):Nat):Int)∈ctsT rs0:=by
 refine List.mem_flatMap.2 ⟨r,List.mem_of_getElem? h,?_⟩
 unfold ctsR
 rw [if_neg (by rw [hk];decide),if_pos hk,toNat_cast ha.nonneg,hm,hn]
 simp only [Int.toNat_natCast]
 exact List.mem_map.2 ⟨j,List.mem_range.2 hj,rfl⟩
theorem cts_next {rs0:List Rn} {l m n:Nat} (h:Nm.x 8 (l:Int) (m:Int) (n:Int)∈ctsT rs0) (hn:1≤n):Nm.x 8 (l:Int) ((m - 1:Nat):Int) ((n - 1:Nat):Int)∈ctsT rs0:=by
 obtain ⟨r,h1,h2⟩:=List.mem_flatMap.1 h
 refine List.mem_flatMap.2 ⟨r,h1,?_⟩
 unfold ctsR at h2 ⊢
 split at h2
 ·simp [Nm.x.injEq] at h2
 ·next h6 =>
  rw [if_neg h6]
  split at h2
  ·next h8 =>
   rw [if_pos h8]
   obtain ⟨j,q1,q2⟩:=List.mem_map.1 h2
   simp only [Nm.x.injEq,true_and] at q2
   obtain ⟨e1,e2,e3⟩:=q2
   have hj:=List.mem_range.1 q1
   refine List.mem_map.2 ⟨j+1,List.mem_range.2 (by omega),?_⟩
   simp only [Nm.x.injEq,true_and]
   exact ⟨e1,by omega,by omega⟩
  ·cases h2
end Go.Proofs.YtobfpgoepaeknaaGreat
