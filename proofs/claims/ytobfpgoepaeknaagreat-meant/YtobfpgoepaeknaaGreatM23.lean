/-
  table.Table.Bytes: the bytes of a table.
  table.Table.Bytes: the walk.
  veil.Table: the table of a pattern, or its error.
  Plain mathematics: texts that are put together: what the document's answer makes of them, and that the look over them meets no error.
-/
import Derived.Test.YtobfpgoepaeknaaGreatM21
import Derived.Laws.IdiomStrings
import Derived.Test.YtobfpgoepaeknaaGreatM22
import Derived.Test.YtobfpgoepaeknaaGreatM14
namespace Go.Proofs.YtobfpgoepaeknaaGreat
open Go.RowKit
attribute [local go_sem ↓] Go.wp_at_zero Go.wp_at_succ
def byteCells (xs:List Nat):List Value:=xs.map fun (n:Nat)=>Value.int .u8 (n:Int)
def URow (w:World) (B:Nat) (v:Value) (xs:List Nat):Prop:=w.ownsRow B 5 1 v xs.length (byteCells xs)
theorem URow.of {w:World} {B:Nat} {v:Value} {xs:List Nat} {y:Nat} (h:w.ownsRow B 5 1 v (xs.length+1) (byteCells xs++[.int .u8 (y:Int)])):URow w B v (xs++[y]):=by
 unfold URow byteCells
 rw [List.length_append,List.map_append];exact h
theorem URow.cells {w:World} {B g cap:Nat} {xs:List Nat} (h:URow w B (.slice (some ⟨g,0,none⟩) xs.length cap) xs) {k:Nat} (hk:k < xs.length):w.cell? ⟨g,k,none⟩=some (.int .u8 ((xs.getD k 0:Nat):Int)):=by
 rcases h.2 with ⟨he,_⟩ | ⟨g',cap',cur,he,h1,hg,h2,h3,h4,h5⟩
 ·cases he
 ·simp only [Value.slice.injEq,Option.some.injEq,Addr.mk.injEq,and_true,true_and] at he
  obtain ⟨rfl,rfl⟩:=he
  rw [cell_of_row _ _ _ _ _ _ hg]
  have e:cur.toList[k]?=(byteCells xs)[k]?:=by
   rw [←h5,List.getElem?_take,if_pos (by simp;omega)]
  rw [←Array.getElem?_toList,e,byteCells,List.getElem?_map,List.getElem?_eq_getElem hk,List.getD_eq_getElem?_getD,List.getElem?_eq_getElem hk];rfl
def strN (xs:List Nat):ByteArray:=⟨(xs.map UInt8.ofNat).toArray⟩
theorem u8_ofNat {x:Nat} (h:x < 256):(UInt8.ofNat x).toNat=x:=by rw [UInt8.toNat_ofNat'];exact Nat.mod_eq_of_lt (by omega)
theorem conv_row {w:World} {B g cap:Nat} {xs:List Nat} (h:URow w B (.slice (some ⟨g,0,none⟩) xs.length cap) xs) (hx:∀ x∈xs,x < 256) :
  (convert 66 9 (.slice (some ⟨g,0,none⟩) xs.length cap)).run Tryz.prog w=.ok (.string (strN xs)) w:=by
 have hl:(xs.map UInt8.ofNat).length=xs.length:=List.length_map _
 have:=run_convert_bytes_back (P:=Tryz.prog) w 66 9 5 ⟨g,0,none⟩ cap (xs.map UInt8.ofNat) Tryz.underlying66 Tryz.underlying5 Tryz.underlying9 (by
  intro j hj
  rw [hl] at hj
  have e:(xs.map UInt8.ofNat)[j]=UInt8.ofNat xs[j]:=List.getElem_map _
  rw [e,u8_ofNat (hx _ (List.getElem_mem _))]
  have:=h.cells hj
  rw [List.getD_eq_getElem?_getD,List.getElem?_eq_getElem hj] at this
  rw [show (Addr.add ⟨g,0,none⟩ j)=⟨g,j,none⟩ from by unfold Addr.add;split<;>simp_all]
  exact this)
 rw [hl] at this
 exact this
theorem infoU8:(Tryz.prog.info? 5).map (fun i=>(i.zero,i.size,i.bytes))=some (some (.int .u8 0),1,1):=by kernel_rfl
structure TabB (w:World) (gt:Nat) (cl:Nat→Nat) (C:Nat) (bs:List Bool) (ns:List Nat):Prop where
 ex:∃ gv nv,w.heap[gt]?=some (.cells (tabA cl C gv nv) 47 (0,0))∧BRow w 0 gv bs∧NRow w 0 nv ns
structure ByI (w wr:World) (tv:Value) (xs:List Nat):Prop where
 below:Below w.heap.size w wr
 row:URow wr w.heap.size tv xs
theorem ByI.grown {w wr w2:World} {tv:Value} {xs:List Nat} (h:ByI w wr tv xs) {o:Obj} (hgrow:(wr.alloc o).grownBy w2 tv.ownBlock) {v':Value} {y:Nat} (ho:w2.ownsRow w.heap.size 5 1 v' (xs.length+1) (byteCells xs++[.int .u8 (y:Int)])):ByI w w2 v' (xs++[y]) :=
 ⟨(below_then h.below o).grown hgrow (by have:=h.below.size;simp;omega) (fun k hk=>(h.row.lt k hk).1),URow.of ho⟩
def bitN (b:Bool):Nat:=if b then 1 else 0
def bytesT (S C:Nat) (cl:Nat→Nat) (bs:List Bool) (ns:List Nat):List Nat:=[S,C]++(List.range 256).map cl++bs.map bitN++ns
theorem take_snoc {α:Type} (l:List α) (d:α) {k:Nat} (hk:k < l.length):l.take (k+1)=l.take k++[l.getD k d]:=by
 rw [List.take_add_one,List.getD_eq_getElem?_getD,List.getElem?_eq_getElem hk];rfl
theorem own_slice' {w:World} {B e z:Nat} {v:Value} {n:Nat} {xs:List Value} (h:w.ownsRow B e z v n xs) (hn:0 < n):∃ g cap,v=.slice (some ⟨g,0,none⟩) n cap:=by
 obtain ⟨g,cap,rfl,_⟩:=h.form hn
 exact ⟨g,cap,rfl⟩
end Go.Proofs.YtobfpgoepaeknaaGreat
namespace Go.Proofs.YtobfpgoepaeknaaGreat
open Go.RowKit
attribute [local go_sem ↓] Go.wp_at_zero Go.wp_at_succ
set_option maxRecDepth 20000 in
set_option maxHeartbeats 4000000 in
theorem TBytes_any (w:World) (gt:Nat) (cl:Nat→Nat) (C:Nat) (bs:List Bool) (ns:List Nat) (h:TabB w gt cl C bs ns) (hC:C≤24) (hS:bs.length≤24) (hcl:∀ b,b < 256→cl b < 256) (hns:∀ x∈ns,x < 256) (hnl:ns.length≤1000) :
  Calls Tryz.prog 20 #[.pointer (some ⟨gt,0,none⟩)] w fun e w'=>e=.returned (.string (strN (bytesT bs.length C cl bs ns)))∧Below w.heap.size w w':=by
 obtain ⟨gv,nv,h1,h2,h3⟩:=h.ex
 obtain ⟨ga,gc,rfl⟩:=h2.form
 obtain ⟨na,nc,rfl⟩:=h3.form
 have HT1:=hide h1
 have HG:=hide h2
 have HN:=hide h3
 have c256:w.cell? ⟨gt,256,none⟩=some (.int .i64 (C:Int)):=by rw [cell_of_row _ _ _ _ _ _ h1,tabA_256]
 have c257:w.cell? ⟨gt,257,none⟩=some (.slice ga bs.length gc):=by rw [cell_of_row _ _ _ _ _ _ h1,tabA_257]
 have hw1:=wrapB C (by omega)
 have hw2:=wrapB bs.length (by omega)
 have hCI:(C:Int)≤24:=by omega
 have hSI:(bs.length:Int)≤24:=by omega
 have hnI:(ns.length:Int)≤1000:=by omega
 have HC:=hide hC
 have HS:=hide hS
 have HCL:=hide hcl
 have HNS:=hide hns
 have HNL:=hide hnl
 obtain ⟨i,i0,i1,i2,i3⟩:=info_of infoU8
 have HI:=hide (And.intro i0 (And.intro i1 (And.intro i2 i3)))
 have H0:Hid (ByI w (w.alloc (.cells #[.int .u8 ((bs.length:Nat):Int),.int .u8 (C:Int)] 5)) (.slice (some ⟨w.heap.size,0,none⟩) 2 2) [bs.length,C]):=by
  refine ⟨(Below.refl _ _).alloc (Nat.le_refl _) _,?_⟩
  exact ⟨rfl,.inr ⟨_,2,_,rfl,Nat.le_refl _,heap_alloc_new _ _,Nat.le_refl _,by unfold maxLen;omega,rfl,rfl⟩⟩
 clear i0 i1 i2 i3 h h1 h2 h3 hC hS hcl hns hnl
 go_enter Tryz.func20,Tryz.ntmps20
 go_upto_region 1 with fail
 go_cut [3] (fun tv wx=>∃ ta tc,tv=.slice ta 2 tc∧Hid (ByI w wx (.slice ta 2 tc) [bs.length,C]))
 case first =>
  go_region
  all_goals
   go_wp2_with fail
   go_meet
   exact ⟨_,_,rfl,(unhide H0).below.drew,(unhide H0).row⟩
 case rest =>
  rename World=>w1
  obtain ⟨ta0,tc0,rfl,HC1⟩:=hcut
  clear H0 c256 c257 hw1 hw2
  go_wp2_with fail
  go_loopw [3,4] (fun tv bx wr=>∃ (b:Nat) (xs:List Nat) (ta:Option Addr) (tc:Nat),tv=.slice ta xs.length tc∧bx=.int .i64 (b:Int)∧Hid (b≤256∧xs=[bs.length,C]++(List.range b).map cl∧ByI w wr (.slice ta xs.length tc) xs)) (fun _ bx _=>left256 bx)
  case atStart=>exact ⟨0,[bs.length,C],ta0,tc0,rfl,rfl,Nat.zero_le _,rfl,unhide HC1⟩
  case round =>
   clear HC1
   rename World=>wr
   obtain ⟨b,xs,ta,tc,rfl,rfl,HH⟩:=hrel
   obtain ⟨hb,hxs,hI⟩:=unhide HH
   have hT:wr.heap[gt]?=_:=(hI.below.block _ (Array.getElem?_eq_some_iff.1 (unhide HT1)).1).trans (unhide HT1)
   have HXS:=hide hxs
   have HI1:=hide hI
   have HSZ:Hid (w.heap.size≤wr.heap.size):=hI.below.size
   by_cases hlt:b < 256
   ·have hbI:(b:Int) < 256:=by omega
    have HLT:=hide hlt
    have HXL:Hid (xs.length≤300):=by rw [hxs];simp [Hid];omega
    have y0:wr.cell? ⟨gt,b,none⟩=some (.int .i64 ((cl b:Nat):Int)):=by rw [cell_of_row _ _ _ _ _ _ hT,tabA_b _ _ _ _ hlt]
    have hgt:gt < wr.heap.size:=(Array.getElem?_eq_some_iff.1 hT).1
    have hw:=wrapB (cl b) (unhide HCL b hlt)
    have HO2:=hide (World.ownsRow.alloc hI.row (Obj.cells #[.int .u8 ((cl b:Nat):Int)] 5))
    have HSN:Hid (xs++[cl b]=[bs.length,C]++(List.range (b+1)).map cl):=by rw [hxs,map_snoc,List.append_assoc];exact rfl
    generalize cl b=y at *
    clear hlt hb hxs hI hT HH
    go_wp2_with (at_builtin;refine wpList_append_own _ rfl (.tmp 24) (.tmp 32) 66 rfl w.heap.size 5 i (.int .u8 0) 1 1 Tryz.underlying66 (unhide HI).1 (unhide HI).2.1 (unhide HI).2.2.1 (unhide HI).2.2.2 rfl (by decide) _ _ _ rfl (unhide HO2) ⟨wr.heap.size,0,none⟩ 1 1 [.int .u8 (y:Int)] rfl rfl (cell_one_new _ _ _) (by intro u hu;simp at hu;subst hu;rfl) (by have:=unhide HXL;unfold maxLen;omega) (by have:=unhide HXL;omega) (by have:=unhide HSZ;simp;omega) ?_;intro v' w3 ho3 hg3 _;have HNW:=hide (ByI.grown (unhide HI1) hg3 ho3);obtain ⟨g3,cap3,rfl⟩:=own_slice' ho3 (by omega);clear ho3 hg3)
    go_roundw
    case rel=>exact ⟨b+1,xs++[y],some ⟨g3,0,none⟩,cap3,by simp,by go_num,unhide HLT,unhide HSN,by simpa using unhide HNW⟩
    case measure=>have:=unhide HLT;simp [left256,intOf];omega
   ·have hb2:b=256:=by omega
    subst hb2
    clear hlt hb hI hT HH hxs
    go_wp2_with fail
    go_loopw [3,5] (fun tv kx wr=>∃ (k:Nat) (xs:List Nat) (ta:Option Addr) (tc:Nat),tv=.slice ta xs.length tc∧kx=.int .i64 (k:Int)∧Hid (k≤bs.length∧xs=[bs.length,C]++(List.range 256).map cl++(bs.take k).map bitN∧ByI w wr (.slice ta xs.length tc) xs)) (fun _ kx _=>bs.length - (intOf kx).toNat)
    case atStart=>exact ⟨0,xs,ta,tc,rfl,rfl,Nat.zero_le _,by rw [unhide HXS];simp,unhide HI1⟩
    case round =>
     clear HI1 HXS HSZ
     rename World=>wr
     obtain ⟨k,xs,ta,tc,rfl,rfl,HH⟩:=hrel
     obtain ⟨hk,hxs,hI⟩:=unhide HH
     have hT:wr.heap[gt]?=_:=(hI.below.block _ (Array.getElem?_eq_some_iff.1 (unhide HT1)).1).trans (unhide HT1)
     have y0:wr.cell? ⟨gt,257,none⟩=some (.slice ga bs.length gc):=by rw [cell_of_row _ _ _ _ _ _ hT,tabA_257]
     have HXS:=hide hxs
     have HI1:=hide hI
     have HSZ:Hid (w.heap.size≤wr.heap.size):=hI.below.size
     by_cases hlt:k < bs.length
     ·have hkI:(k:Int) < (bs.length:Int):=by omega
      have HLT:=hide hlt
      have HXL:Hid (xs.length≤300):=by rw [hxs];simp [Hid];have:=unhide HS;omega
      obtain ⟨gg,cg,he,hx⟩:=((unhide HG).below hI.below).at hlt
      have hgg:gg < wr.heap.size:=by
       rw [he] at HG
       exact (((unhide HG).below hI.below).lt gg rfl).2
      simp only [Value.slice.injEq,true_and] at he
      obtain ⟨rfl,rfl⟩:=he
      have hgt:gt < wr.heap.size:=(Array.getElem?_eq_some_iff.1 hT).1
      have HSN:Hid (∀ y,y=bitN (bs.getD k false)→xs++[y]=[bs.length,C]++(List.range 256).map cl++(bs.take (k+1)).map bitN):=fun y hy=>by rw [hxs,take_snoc bs false hlt,List.map_append,←List.append_assoc,hy];rfl
      have HO2:=hide (fun y:Int=>World.ownsRow.alloc hI.row (Obj.cells #[.int .u8 y] 5))
      clear hlt hk hxs hI hT HH
      generalize bs.getD k false=q at *
      cases q
      ·have HO2:=hide (unhide HO2 0)
       go_wp2_with (at_builtin;refine wpList_append_own _ rfl (.tmp 50) (.tmp 52) 66 rfl w.heap.size 5 i (.int .u8 0) 1 1 Tryz.underlying66 (unhide HI).1 (unhide HI).2.1 (unhide HI).2.2.1 (unhide HI).2.2.2 rfl (by decide) _ _ _ rfl (unhide HO2) ⟨wr.heap.size,0,none⟩ 1 1 [.int .u8 0] rfl rfl (cell_one_new _ _ _) (by intro u hu;simp at hu;subst hu;rfl) (by have:=unhide HXL;unfold maxLen;omega) (by have:=unhide HXL;omega) (by have:=unhide HSZ;simp;omega) ?_;intro v' w3 ho3 hg3 _;have HNW:=hide (ByI.grown (unhide HI1) hg3 ho3);obtain ⟨g3,cap3,rfl⟩:=own_slice' ho3 (by omega);clear ho3 hg3)
       go_roundw
       case rel =>
         repeat apply Exists.intro
         exact ⟨⟨k+1,xs++[0],some ⟨g3,0,none⟩,cap3,by simp,by go_num,unhide HLT,unhide HSN 0 rfl,by simpa using unhide HNW⟩,rfl⟩
       case measure=>have:=unhide HLT;simp [intOf];omega
      ·have HO2:=hide (unhide HO2 1)
       go_wp2_with (at_builtin;refine wpList_append_own _ rfl (.tmp 50) (.tmp 52) 66 rfl w.heap.size 5 i (.int .u8 0) 1 1 Tryz.underlying66 (unhide HI).1 (unhide HI).2.1 (unhide HI).2.2.1 (unhide HI).2.2.2 rfl (by decide) _ _ _ rfl (unhide HO2) ⟨wr.heap.size,0,none⟩ 1 1 [.int .u8 1] rfl rfl (cell_one_new _ _ _) (by intro u hu;simp at hu;subst hu;rfl) (by have:=unhide HXL;unfold maxLen;omega) (by have:=unhide HXL;omega) (by have:=unhide HSZ;simp;omega) ?_;intro v' w3 ho3 hg3 _;have HNW:=hide (ByI.grown (unhide HI1) hg3 ho3);obtain ⟨g3,cap3,rfl⟩:=own_slice' ho3 (by omega);clear ho3 hg3)
       go_roundw
       case rel =>
         repeat apply Exists.intro
         exact ⟨⟨k+1,xs++[1],some ⟨g3,0,none⟩,cap3,by simp,by go_num,unhide HLT,unhide HSN 1 rfl,by simpa using unhide HNW⟩,rfl⟩
       case measure=>have:=unhide HLT;simp [intOf];omega
     ·have hk2:k=bs.length:=by omega
      subst hk2
      have HXS2:Hid (xs=[bs.length,C]++(List.range 256).map cl++bs.map bitN):=by rw [hxs,List.take_length];exact rfl
      clear hlt hk hxs hI hT HH HXS
      go_wp2_with fail
      go_loopw [3,7] (fun tv kx wr=>∃ (k:Nat) (xs:List Nat) (ta:Option Addr) (tc:Nat),tv=.slice ta xs.length tc∧kx=.int .i64 (k:Int)∧Hid (k≤ns.length∧xs=[bs.length,C]++(List.range 256).map cl++bs.map bitN++ns.take k∧ByI w wr (.slice ta xs.length tc) xs)) (fun _ kx _=>ns.length - (intOf kx).toNat)
      case atStart=>exact ⟨0,xs,ta,tc,rfl,rfl,Nat.zero_le _,by rw [unhide HXS2];simp,unhide HI1⟩
      case round =>
       clear HI1 HXS2 HSZ y0
       rename World=>wr
       obtain ⟨k,xs,ta,tc,rfl,rfl,HH⟩:=hrel
       obtain ⟨hk,hxs,hI⟩:=unhide HH
       have hT:wr.heap[gt]?=_:=(hI.below.block _ (Array.getElem?_eq_some_iff.1 (unhide HT1)).1).trans (unhide HT1)
       have y0:wr.cell? ⟨gt,258,none⟩=some (.slice na ns.length nc):=by rw [cell_of_row _ _ _ _ _ _ hT,tabA_258]
       have HI1:=hide hI
       have HSZ:Hid (w.heap.size≤wr.heap.size):=hI.below.size
       by_cases hlt:k < ns.length
       ·have hkI:(k:Int) < (ns.length:Int):=by omega
        have HLT:=hide hlt
        have HXL:Hid (xs.length≤2000):=by rw [hxs];simp [Hid];have:=unhide HS;have:=unhide HNL;omega
        obtain ⟨gg,cg,he,hx⟩:=((unhide HN).below hI.below).at hlt
        have hgg:gg < wr.heap.size:=by
         rw [he] at HN
         exact (((unhide HN).below hI.below).lt gg rfl).2
        simp only [Value.slice.injEq,true_and] at he
        obtain ⟨rfl,rfl⟩:=he
        have hgt:gt < wr.heap.size:=(Array.getElem?_eq_some_iff.1 hT).1
        have hy:ns.getD k 0 < 256:=by
         rw [List.getD_eq_getElem?_getD,List.getElem?_eq_getElem hlt];exact unhide HNS _ (List.getElem_mem _)
        have hw:=wrapB _ hy
        have HSN:Hid (xs++[ns.getD k 0]=[bs.length,C]++(List.range 256).map cl++bs.map bitN++ns.take (k+1)):=by rw [hxs,take_snoc ns 0 hlt,←List.append_assoc];exact rfl
        have HO2:=hide (World.ownsRow.alloc hI.row (Obj.cells #[.int .u8 ((ns.getD k 0:Nat):Int)] 5))
        clear hlt hk hxs hI hT HH hy
        generalize ns.getD k 0=y at *
        go_wp2_with (at_builtin;refine wpList_append_own _ rfl (.tmp 63) (.tmp 72) 66 rfl w.heap.size 5 i (.int .u8 0) 1 1 Tryz.underlying66 (unhide HI).1 (unhide HI).2.1 (unhide HI).2.2.1 (unhide HI).2.2.2 rfl (by decide) _ _ _ rfl (unhide HO2) ⟨wr.heap.size,0,none⟩ 1 1 [.int .u8 (y:Int)] rfl rfl (cell_one_new _ _ _) (by intro u hu;simp at hu;subst hu;rfl) (by have:=unhide HXL;unfold maxLen;omega) (by have:=unhide HXL;omega) (by have:=unhide HSZ;simp;omega) ?_;intro v' w3 ho3 hg3 _;have HNW:=hide (ByI.grown (unhide HI1) hg3 ho3);obtain ⟨g3,cap3,rfl⟩:=own_slice' ho3 (by omega);clear ho3 hg3)
        go_roundw
        case rel =>
         repeat apply Exists.intro
         exact ⟨⟨k+1,xs++[y],some ⟨g3,0,none⟩,cap3,by simp,by go_num,unhide HLT,unhide HSN,by simpa using unhide HNW⟩,rfl⟩
        case measure=>have:=unhide HLT;simp [intOf];omega
       ·have hk2:k=ns.length:=by omega
        subst hk2
        have hxe:xs=bytesT bs.length C cl bs ns:=by rw [hxs,List.take_length];rfl
        have hpos:0 < xs.length:=by rw [hxs];simp
        obtain ⟨gg,cg,he⟩:=own_slice' hI.row hpos
        simp only [Value.slice.injEq,true_and] at he
        obtain ⟨rfl,rfl⟩:=he
        have hxb:∀ x∈xs,x < 256:=fun x hx=>by
         rw [hxe] at hx
         unfold bytesT at hx
         have h1:=unhide HC
         have h2:=unhide HS
         rcases List.mem_append.1 hx with hx | hx
         ·rcases List.mem_append.1 hx with hx | hx
          ·rcases List.mem_append.1 hx with hx | hx
           ·simp at hx;omega
           ·obtain ⟨b,hb,rfl⟩:=List.mem_map.1 hx
            exact unhide HCL b (List.mem_range.1 hb)
          ·obtain ⟨b,hb,rfl⟩:=List.mem_map.1 hx
           cases b<;>simp [bitN]
         ·exact unhide HNS x hx
        have hcv:=conv_row hI.row hxb
        have HXE:=hide hxe
        clear hlt hk hxs hI hT HH hxe hpos hxb
        go_wp2_with fail
        go_ret
        exact ⟨by rw [unhide HXE];rfl,(unhide HI1).below⟩
end Go.Proofs.YtobfpgoepaeknaaGreat
namespace Go.Proofs.YtobfpgoepaeknaaGreat
open Go.RowKit
attribute [local go_sem ↓] Go.wp_at_zero Go.wp_at_succ zvT
attribute [local go_sem] zcT_size zcT_ne cells_agg
theorem TabOf.nc_lt {L:List Nat→Prop} {S C:Nat} {nx:Nat→Nat→Nat} {gr:Nat→Bool} {cl:Nat→Nat} {nc:Nat→Nat→Nat} (h:TabOf L S C nx gr cl nc) {i c:Nat} (hi:i < S) (hc:c < C):nc i c < S:=by
 obtain ⟨b,hb,rfl⟩:=h.cols.all c hc
 rw [h.nc i b hi hb];exact h.dfa.lt i b hi hb
end Go.Proofs.YtobfpgoepaeknaaGreat
namespace Go.Proofs.YtobfpgoepaeknaaGreat
def AtW (t:ByteArray) (A:Nat) (x:List Nat):Prop:=A+x.length≤t.size∧∀ (i c:Nat),x[i]?=some c→byteAt t (A+i)=(c:Int)
theorem AtW.app {t:ByteArray} {A:Nat} {x y:List Nat} (h:AtW t A (x++y)):AtW t A x∧AtW t (A+x.length) y:=by
 obtain ⟨h1,h2⟩:=h
 rw [List.length_append] at h1
 refine ⟨⟨by omega,fun i c hi=>h2 i c (getElem?_app hi y)⟩,by omega,fun i c hi=>?_⟩
 have:=h2 (x.length+i) c (by rw [List.getElem?_append_right (by omega),show x.length+i - x.length=i from by omega];exact hi)
 rw [←Nat.add_assoc] at this;exact this
theorem AtW.head {t:ByteArray} {A:Nat} {c:Nat} {x:List Nat} (h:AtW t A (c ::x)):byteAt t A=(c:Int)∧A < t.size∧AtW t (A+1) x:=by
 have h':AtW t A ([c]++x):=h
 obtain ⟨a,b⟩:=h'.app
 exact ⟨a.2 0 c rfl,by have:=a.1;simp at this;omega,b⟩
def ScanP (t:ByteArray) (A B:Nat):Prop:=∀ m d bk,(m=0∨m=1)→0≤d→∃ m' bk',(m'=0∨m'=1)∧Go' t A ⟨m,d,bk⟩ B ⟨m',d,bk'⟩
def ScanA (t:ByteArray) (A B:Nat):Prop:=∀ m d bk,(m=0∨m=1)→0≤d→∃ bk',Go' t A ⟨m,d,bk⟩ B ⟨1,d,bk'⟩
theorem ScanA.p {t:ByteArray} {A B:Nat} (h:ScanA t A B):ScanP t A B:=fun m d bk hm hd=>by
 obtain ⟨bk',hg⟩:=h m d bk hm hd
 exact ⟨1,bk',Or.inr rfl,hg⟩
theorem ScanP.trans {t:ByteArray} {A B C:Nat} (h:ScanP t A B) (k:ScanP t B C):ScanP t A C:=fun m d bk hm hd=>by
 obtain ⟨m1,b1,h1,g1⟩:=h m d bk hm hd
 obtain ⟨m2,b2,h2,g2⟩:=k m1 d b1 h1 hd
 exact ⟨m2,b2,h2,g1.trans g2⟩
theorem ScanP.refl (t:ByteArray) (A:Nat):ScanP t A A:=fun m _ bk hm _=>⟨m,bk,hm,Go'.refl _ _ _⟩
def Lead (x:List Nat):Prop:=∃ c y,x=c ::y∧atSuffixB (c:Int)=false
def Gp (x:List Nat) (v:Val):Prop:=∀ t A,t.size≤60→AtW t A x→PatV t A (A+x.length) v∧ScanP t A (A+x.length)
def Gb (x:List Nat) (v:Val):Prop:=(x=[]∨Lead x)∧∀ t A,t.size≤60→AtW t A x→BraV t A (A+x.length) v∧ScanP t A (A+x.length)
def Gi (x:List Nat) (v:Val):Prop:=Lead x∧∀ t A,t.size≤60→AtW t A x→PieV t A (A+x.length) v∧ScanA t A (A+x.length)
def Ga (x:List Nat) (v:Val):Prop:=Lead x∧∀ t A,t.size≤60→AtW t A x→AtoV t A (A+x.length) v∧ScanA t A (A+x.length)
def Gs (y:List Nat) (F:Val→Val):Prop:=∀ t A,t.size≤60→AtW t A y→(∀ v,SufV t A (A+y.length) v (F v))∧∀ d bk,0≤d→∃ bk',Go' t A ⟨1,d,bk⟩ (A+y.length) ⟨1,d,bk'⟩
theorem Lead.app {x:List Nat} (h:Lead x) (y:List Nat):Lead (x++y):=by
 obtain ⟨c,z,rfl,hc⟩:=h;exact ⟨c,z++y,rfl,hc⟩
theorem goes_40 {m d bk:Int} (h:m=0∨m=1):goesS ⟨m,d,bk⟩ 40=(true,⟨0,d+1,bk⟩):=by rw [goes_out h];rfl
theorem goes_41 {m d bk:Int} (h:m=0∨m=1) (hd:1≤d):goesS ⟨m,d,bk⟩ 41=(true,⟨1,d - 1,bk⟩):=by
 rw [goes_out h]
 unfold outsideS
 simp
 omega
theorem goes_124 {m d bk:Int} (h:m=0∨m=1):goesS ⟨m,d,bk⟩ 124=(true,⟨0,d,bk⟩):=by rw [goes_out h];rfl
theorem Ga.par {x:List Nat} {v:Val} (h:Gp x v):Ga (40 ::(x++[41])) v:=by
 refine ⟨⟨40,_,rfl,by decide⟩,fun t A h60 ha=>?_⟩
 obtain ⟨b0,l0,ha1⟩:=ha.head
 obtain ⟨ax,ac⟩:=ha1.app
 obtain ⟨b1,l1,_⟩:=ac.head
 obtain ⟨pv,sp⟩:=h t (A+1) h60 ax
 have e:A+(40 ::(x++[41])).length=A+1+x.length+1:=by simp;omega
 rw [e]
 refine ⟨atoV_par b0 pv l1 b1,fun m d bk hm hd=>?_⟩
 have g0:Go' t A ⟨m,d,bk⟩ (A+1) ⟨0,d+1,bk⟩:=Go'.step (by rw [b0];exact goes_40 hm)
 obtain ⟨m1,b1',hm1,g1⟩:=sp 0 (d+1) bk (Or.inl rfl) (by omega)
 have g2:Go' t (A+1+x.length) ⟨m1,d+1,b1'⟩ (A+1+x.length+1) ⟨1,d,b1'⟩:=Go'.step (by rw [b1];have:=goes_41 (bk:=b1') hm1 (show 1≤d+1 by omega);rw [show d+1 - 1=d from by omega] at this;exact this)
 exact ⟨b1',(g0.trans g1).trans g2⟩
theorem Gs.nil:Gs [] id:=fun t A _ ha=>⟨fun v=>by have:=ha.1;exact SufV.refl (by simpa using this),fun d bk _=>⟨bk,Go'.refl _ _ _⟩⟩
theorem goes_suf {c:Int} {d bk:Int} (h:c=42∨c=43∨c=63):goesS ⟨1,d,bk⟩ c=(true,⟨1,d,bk⟩):=by
 rw [goes_out (Or.inr rfl)]
 rcases h with rfl | rfl | rfl<;>rfl
theorem Gs.star:Gs [42] starV:=fun t A _ ha=>by
 obtain ⟨b0,l0,_⟩:=ha.head
 exact ⟨fun v=>sufV_star l0 b0,fun d bk _=>⟨bk,Go'.step (by rw [b0];exact goes_suf (Or.inl rfl))⟩⟩
theorem Gs.plus:Gs [43] plusV:=fun t A _ ha=>by
 obtain ⟨b0,l0,_⟩:=ha.head
 exact ⟨fun v=>sufV_plus l0 b0,fun d bk _=>⟨bk,Go'.step (by rw [b0];exact goes_suf (Or.inr (Or.inl rfl)))⟩⟩
theorem Gs.opt:Gs [63] optV:=fun t A _ ha=>by
 obtain ⟨b0,l0,_⟩:=ha.head
 exact ⟨fun v=>sufV_opt l0 b0,fun d bk _=>⟨bk,Go'.step (by rw [b0];exact goes_suf (Or.inr (Or.inr rfl)))⟩⟩
theorem dec_of {m:Nat} (h:m≤9):decB ((48+m:Nat):Int)=true:=by unfold decB;simp;omega
theorem goes_4 {d bk c:Int} (h:decB c=true):goesS ⟨4,d,bk⟩ c=(true,⟨5,d,bk⟩):=by unfold goesS;simp [h]
theorem goes_6 {d bk c:Int} (h:decB c=true):goesS ⟨6,d,bk⟩ c=(true,⟨7,d,bk⟩):=by unfold goesS;simp [h]
theorem Gs.times {m n:Nat} (hm:m≤9) (hn:n≤9):Gs [123,48+m,44,48+n,125] (timesV m n):=fun t A _ ha=>by
 obtain ⟨b0,l0,a1⟩:=ha.head
 obtain ⟨b1,l1,a2⟩:=a1.head
 obtain ⟨b2,l2,a3⟩:=a2.head
 obtain ⟨b3,l3,a4⟩:=a3.head
 obtain ⟨b4,l4,_⟩:=a4.head
 have d1:=dec_of hm
 have d2:=dec_of hn
 refine ⟨fun v=>?_,fun d bk hd=>⟨bk,?_⟩⟩
 ·have:=sufV_times (t:=t) (A:=A) (v:=v) (by omega) b0 (by rw [b1];exact d1) b2 (by rw [b3];exact d2) b4
  rw [b1,b3,show (((48+m:Nat):Int) - 48).toNat=m from by omega,show (((48+n:Nat):Int) - 48).toNat=n from by omega] at this
  exact this
 ·have g0:Go' t A ⟨1,d,bk⟩ (A+1) ⟨4,d,bk⟩:=Go'.step (by rw [b0,goes_out (Or.inr rfl)];rfl)
  have g1:Go' t (A+1) ⟨4,d,bk⟩ (A+1+1) ⟨5,d,bk⟩:=Go'.step (by rw [b1];exact goes_4 d1)
  have g2:Go' t (A+1+1) ⟨5,d,bk⟩ (A+1+1+1) ⟨6,d,bk⟩:=Go'.step (by rw [b2];rfl)
  have g3:Go' t (A+1+1+1) ⟨6,d,bk⟩ (A+1+1+1+1) ⟨7,d,bk⟩:=Go'.step (by rw [b3];exact goes_6 d2)
  have g4:Go' t (A+1+1+1+1) ⟨7,d,bk⟩ (A+1+1+1+1+1) ⟨1,d,bk⟩:=Go'.step (by rw [b4];rfl)
  exact (((g0.trans g1).trans g2).trans g3).trans g4
theorem Gi.of {x y:List Nat} {v:Val} {F:Val→Val} (h:Ga x v) (k:Gs y F):Gi (x++y) (F v):=by
 refine ⟨h.1.app y,fun t A h60 ha=>?_⟩
 obtain ⟨ax,ay⟩:=ha.app
 obtain ⟨av,sa⟩:=h.2 t A h60 ax
 obtain ⟨sv,sg⟩:=k t _ h60 ay
 rw [List.length_append,←Nat.add_assoc]
 refine ⟨pieV_of h60 av (sv v),fun m d bk hm hd=>?_⟩
 obtain ⟨b1,g1⟩:=sa m d bk hm hd
 obtain ⟨b2,g2⟩:=sg d b1 hd
 exact ⟨b2,g1.trans g2⟩
theorem Ga.i {x:List Nat} {v:Val} (h:Ga x v):Gi x v:=by
 have:=Gi.of h Gs.nil
 rw [List.append_nil] at this;exact this
theorem Gb.nil:Gb [] Re.blank.val:=⟨Or.inl rfl,fun t A _ ha=>⟨by have:=ha.1;exact braV_nil (by simpa using this),ScanP.refl _ _⟩⟩
theorem Gi.b {x:List Nat} {v:Val} (h:Gi x v):Gb x v:=by
 refine ⟨Or.inr h.1,fun t A h60 ha=>?_⟩
 obtain ⟨pv,sa⟩:=h.2 t A h60 ha
 have:=(brV_join pv (Or.inl ⟨rfl,rfl⟩) (fun h=>absurd h (by omega))).2
 rw [catV_unit] at this
 exact ⟨this,sa.p⟩
theorem Gi.cat {x y:List Nat} {v u:Val} (h:Gi x v) (k:Gb y u) (hy:Lead y):Gb (x++y) (catV v u):=by
 refine ⟨Or.inr (h.1.app y),fun t A h60 ha=>?_⟩
 obtain ⟨ax,ay⟩:=ha.app
 obtain ⟨pv,sa⟩:=h.2 t A h60 ax
 obtain ⟨bv,sb⟩:=k.2 t _ h60 ay
 obtain ⟨c,z,rfl,hc⟩:=hy
 rw [List.length_append,←Nat.add_assoc]
 refine ⟨(brV_join pv (Or.inr ⟨by simp,bv⟩) (fun _=>by rw [ay.head.1];exact hc)).2,sa.p.trans sb⟩
theorem Gb.p {x:List Nat} {v:Val} (h:Gb x v):Gp x v:=fun t A h60 ha=>by
 obtain ⟨bv,sb⟩:=h.2 t A h60 ha
 have:=patV_join h60 bv (Or.inl ⟨rfl,rfl⟩)
 rw [altV_unit] at this
 exact ⟨this,sb⟩
theorem Gb.alt {x y:List Nat} {v u:Val} (h:Gb x v) (k:Gp y u):Gp (x++124 ::y) (altV v u):=fun t A h60 ha=>by
 obtain ⟨ax,ay⟩:=ha.app
 obtain ⟨bv,sb⟩:=h.2 t A h60 ax
 obtain ⟨c0,l0,a1⟩:=ay.head
 obtain ⟨pv,sp⟩:=k t _ h60 a1
 have e:A+(x++124 ::y).length=A+x.length+1+y.length:=by simp;omega
 rw [e]
 refine ⟨patV_join h60 bv (Or.inr ⟨by omega,c0,pv⟩),sb.trans (ScanP.trans ?_ sp)⟩
 exact fun m d bk hm _=>⟨0,bk,Or.inl rfl,Go'.step (by rw [c0];exact goes_124 hm)⟩
def kindR:Re→Int:=Re.fold ⟨1,fun _=>2,fun _ _=>3,fun _ _=>4,fun _=>5,fun _=>6,fun _=>7,fun _ _ _=>8⟩
theorem kind_blank:kindR .blank=1:=rfl
theorem kind_set (f:Nat→Bool):kindR (.set f)=2:=rfl
theorem kind_seq (a b:Re):kindR (.seq a b)=3:=rfl
theorem kind_alt (a b:Re):kindR (.alt a b)=4:=rfl
theorem kind_star (a:Re):kindR (.star a)=5:=rfl
theorem kind_plus (a:Re):kindR (.plus a)=6:=rfl
theorem kind_opt (a:Re):kindR (.opt a)=7:=rfl
theorem kind_times (m n:Nat) (a:Re):kindR (.times m n a)=8:=rfl
theorem Dr.kind {rs:List Rn} {R:Re} {k:Int} (h:Dr rs R k):∃ r,rs[k.toNat]?=some r∧r.kind=kindR R:=by
 cases R using Re.ind with
 | blank=>obtain ⟨r,_,h1,h2⟩:=h;exact ⟨r,h1,h2⟩
 | set f=>obtain ⟨r,_,h1,h2,_⟩:=h;exact ⟨r,h1,h2⟩
 | seq a b _ _=>obtain ⟨r,_,h1,h2,_⟩:=h;exact ⟨r,h1,h2⟩
 | alt a b _ _=>obtain ⟨r,_,h1,h2,_⟩:=h;exact ⟨r,h1,h2⟩
 | star a _=>obtain ⟨r,_,h1,h2,_⟩:=h;exact ⟨r,h1,h2⟩
 | plus a _=>obtain ⟨r,_,h1,h2,_⟩:=h;exact ⟨r,h1,h2⟩
 | opt a _=>obtain ⟨r,_,h1,h2,_⟩:=h;exact ⟨r,h1,h2⟩
 | times m n a _=>obtain ⟨r,_,h1,h2,_⟩:=h;exact ⟨r,h1,h2⟩
theorem some_same {α:Type} {o:Option α} {a b:α} (h:o=some a) (k:o=some b):a=b:=Option.some.inj (h.symm.trans k)
section
attribute [local simp] kind_blank kind_set kind_seq kind_alt kind_star kind_plus kind_opt kind_times
theorem Dr.same {rs:List Rn}:∀ {R S:Re} {k:Int},Dr rs R k→Dr rs S k→R=S:=by
 intro R
 induction R using Re.ind with
 | blank =>
  intro S k h g
  have hk:kindR .blank=kindR S:=by obtain ⟨r,a1,a2⟩:=h.kind;obtain ⟨r',b1,b2⟩:=g.kind;have:=some_same a1 b1;subst this;rw [←a2,←b2]
  cases S using Re.ind with
  | blank=>rfl
  | _=>exact absurd hk (by simp)
 | set f =>
  intro S k h g
  have hk:kindR (.set f)=kindR S:=by obtain ⟨r,a1,a2⟩:=h.kind;obtain ⟨r',b1,b2⟩:=g.kind;have:=some_same a1 b1;subst this;rw [←a2,←b2]
  cases S using Re.ind with
  | set f'=>obtain ⟨r,_,a1,_,a2⟩:=h;obtain ⟨r',_,b1,_,b2⟩:=g;have:=some_same a1 b1;subst this;rw [←a2,←b2]
  | _=>exact absurd hk (by simp)
 | seq a b iha ihb =>
  intro S k h g
  have hk:kindR (.seq a b)=kindR S:=by obtain ⟨r,a1,a2⟩:=h.kind;obtain ⟨r',b1,b2⟩:=g.kind;have:=some_same a1 b1;subst this;rw [←a2,←b2]
  cases S using Re.ind with
  | seq a' b' _ _=>obtain ⟨r,_,a1,_,a2,a3⟩:=h;obtain ⟨r',_,b1,_,b2,b3⟩:=g;have:=some_same a1 b1;subst this;rw [iha a2 b2,ihb a3 b3]
  | _=>exact absurd hk (by simp)
 | alt a b iha ihb =>
  intro S k h g
  have hk:kindR (.alt a b)=kindR S:=by obtain ⟨r,a1,a2⟩:=h.kind;obtain ⟨r',b1,b2⟩:=g.kind;have:=some_same a1 b1;subst this;rw [←a2,←b2]
  cases S using Re.ind with
  | alt a' b' _ _=>obtain ⟨r,_,a1,_,a2,a3⟩:=h;obtain ⟨r',_,b1,_,b2,b3⟩:=g;have:=some_same a1 b1;subst this;rw [iha a2 b2,ihb a3 b3]
  | _=>exact absurd hk (by simp)
 | star a iha =>
  intro S k h g
  have hk:kindR (.star a)=kindR S:=by obtain ⟨r,a1,a2⟩:=h.kind;obtain ⟨r',b1,b2⟩:=g.kind;have:=some_same a1 b1;subst this;rw [←a2,←b2]
  cases S using Re.ind with
  | star a' _=>obtain ⟨r,_,a1,_,a2⟩:=h;obtain ⟨r',_,b1,_,b2⟩:=g;have:=some_same a1 b1;subst this;rw [iha a2 b2]
  | _=>exact absurd hk (by simp)
 | plus a iha =>
  intro S k h g
  have hk:kindR (.plus a)=kindR S:=by obtain ⟨r,a1,a2⟩:=h.kind;obtain ⟨r',b1,b2⟩:=g.kind;have:=some_same a1 b1;subst this;rw [←a2,←b2]
  cases S using Re.ind with
  | plus a' _=>obtain ⟨r,_,a1,_,a2⟩:=h;obtain ⟨r',_,b1,_,b2⟩:=g;have:=some_same a1 b1;subst this;rw [iha a2 b2]
  | _=>exact absurd hk (by simp)
 | opt a iha =>
  intro S k h g
  have hk:kindR (.opt a)=kindR S:=by obtain ⟨r,a1,a2⟩:=h.kind;obtain ⟨r',b1,b2⟩:=g.kind;have:=some_same a1 b1;subst this;rw [←a2,←b2]
  cases S using Re.ind with
  | opt a' _=>obtain ⟨r,_,a1,_,a2⟩:=h;obtain ⟨r',_,b1,_,b2⟩:=g;have:=some_same a1 b1;subst this;rw [iha a2 b2]
  | _=>exact absurd hk (by simp)
 | times m n a iha =>
  intro S k h g
  have hk:kindR (.times m n a)=kindR S:=by obtain ⟨r,a1,a2⟩:=h.kind;obtain ⟨r',b1,b2⟩:=g.kind;have:=some_same a1 b1;subst this;rw [←a2,←b2]
  cases S using Re.ind with
  | times m' n' a' _ =>
   obtain ⟨r,_,a1,_,a2,a3,_,_,a4⟩:=h
   obtain ⟨r',_,b1,_,b2,b3,_,_,b4⟩:=g
   have:=some_same a1 b1
   subst this
   have e1:m=m':=by omega
   have e2:n=n':=by omega
   rw [iha a4 b4,e1,e2]
  | _=>exact absurd hk (by simp)
end
theorem Gp.place {p:ByteArray} {x:List Nat} {v:Val} (h:Gp x v) (h60:p.size≤60) (hp:AtW p 0 x) (hl:x.length=p.size):placeS p=-1:=by
 obtain ⟨_,sp⟩:=h p 0 h60 hp
 obtain ⟨m',bk',hm,g1,g2⟩:=sp 0 0 0 (Or.inl rfl) (by omega)
 rw [Nat.zero_add,hl,Nat.sub_zero] at g2
 have:=scan_adv p p.size 0 ⟨0,0,0⟩ _ g2 (by omega)
 rw [Nat.sub_zero] at this
 unfold placeS
 rw [this,show p.size - (0+p.size)=0 from by omega]
 unfold scanS
 rw [if_neg]
 simp only [Bool.or_eq_true,decide_eq_true_eq]
 omega
theorem Gp.reads {p:ByteArray} {x:List Nat} {v:Val} (h:Gp x v) (h60:p.size≤60) (hp:AtW p 0 x) (hl:x.length=p.size):∃ n rs k,rfF n 0 p 0 0 []=some (rs,k)∧DrV rs k v:=by
 obtain ⟨pv,_⟩:=h p 0 h60 hp
 obtain ⟨n,rs1,k,h1,h2⟩:=pv.2.2.2 []
 rw [Nat.zero_add,hl,ByteArray.extract_zero_size] at h1
 exact ⟨n,_,k,h1,h2⟩
theorem Gp.answer {p:ByteArray} {x:List Nat} {v:Val} (h:Gp x v) (h60:p.size≤60) (hp:AtW p 0 x) (hl:x.length=p.size) (hw:v.2≤12) {y:St} {i:Int} (hr:Rds p 0 0 x0 (y,i)) :
  (readErr p y).1=0∧∀ n rs k S,rfF n 0 p 0 0 []=some (rs,k)→Dr rs S k→S.L=v.1:=by
 obtain ⟨n',rs',k',f1,S',f2,f3⟩:=h.reads h60 hp hl
 have key:∀ n rs k S,rfF n 0 p 0 0 []=some (rs,k)→Dr rs S k→S.val=v:=by
  intro n rs k S g1 g2
  have a:=rfF_mono n (max n n') 0 p 0 0 [] _ (Nat.le_max_left _ _) g1
  have b:=rfF_mono n' (max n n') 0 p 0 0 [] _ (Nat.le_max_right _ _) f1
  rw [a] at b
  simp only [Option.some.injEq,Prod.mk.injEq] at b
  obtain ⟨rfl,rfl⟩:=b
  rw [Dr.same g2 f2,f3]
 have hn:¬(y.s.bad=true∨y.s.k < p.size):=fun hh=>by
  have:=(refOk_all p y i h60 hr).1 hh
  rw [h.place h60 hp hl] at this
  omega
 refine ⟨?_,fun n rs k S g1 g2=>congrArg Prod.fst (key n rs k S g1 g2)⟩
 obtain ⟨R,n,rs,k,S,_,_,e,g1,g2,hv⟩:=read_meets p y i h60 hr hn
 have e2:R.wt=v.2:=by
  have:=congrArg Prod.snd (hv.trans (key n rs k S g1 g2))
  exact this
 unfold readErr
 rw [if_neg (by simpa using hn),e,e2]
 unfold cl
 rw [if_neg (by omega),if_neg (by omega)]
end Go.Proofs.YtobfpgoepaeknaaGreat
