/-
  table.sortLetters: the classes of letters.
  The cells of a table; a table in the making.
  table.ofGraph: the table of a graph.
  The graph: Draw.
-/
import Derived.Test.YtobfpgoepaeknaaGreatTA23
import Derived.Laws.ResultCell
import Derived.Test.YtobfpgoepaeknaaGreatTA22
namespace Go.Proofs.YtobfpgoepaeknaaGreat
open Go.RowKit
attribute [local go_sem ↓] Go.wp_at_zero Go.wp_at_succ
structure SlI (w wr:World) (cv fv:Value) (cs fs:List Nat):Prop where
 below:Below w.heap.size w wr
 rc:NRow wr w.heap.size cv cs
 rf:NRow wr w.heap.size fv fs
 dj:Dj cv fv
section sl
variable {w wr w2 : World} {cv fv : Value} {cs fs : List Nat}
theorem SlI.next (h:SlI w wr cv fv cs fs) (k:Below wr.heap.size wr w2):SlI w w2 cv fv cs fs:=⟨h.below.trans (k.mono h.below.size),h.rc.below k,h.rf.below k,h.dj⟩
theorem SlI.alloc (h:SlI w wr cv fv cs fs) (o:Obj):SlI w (wr.alloc o) cv fv cs fs:=h.next ((Below.refl _ _).alloc (Nat.le_refl _) _)
theorem keep1 {w0 w2:World} {row:Option Nat} (hgrow:w0.grownBy w2 row) {B e z:Nat} {v:Value} {n:Nat} {xs:List Value} (h:w0.ownsRow B e z v n xs) (hd:∀ q,v.ownBlock=some q→row=some q→False):w2.ownsRow B e z v n xs :=
 Fr.own (Fr.ofGrown hgrow) h (fun q hq hm=>hd q hq (Option.mem_toList.1 hm))
theorem SlI.firsts (h:SlI w wr cv fv cs fs) (hgrow:wr.grownBy w2 fv.ownBlock) {g cap y:Nat} (ho:w2.ownsRow w.heap.size 3 1 (.slice (some ⟨g,0,none⟩) (fs.length+1) cap) (fs.length+1) (natCells fs++[.int .i64 (y:Int)])) (hl:fv.ownBlock=some g∨g=wr.heap.size) :
  SlI w w2 cv (.slice (some ⟨g,0,none⟩) (fs.length+1) cap) cs (fs++[y]) :=
 ⟨h.below.grown hgrow h.below.size (fun k hk=>(h.rf.lt k hk).1),keep1 hgrow h.rc h.dj,NRow.of ho,h.dj.lies hl (fun q hq=>(h.rc.lt q hq).2)⟩
theorem SlI.classes (h:SlI w wr cv fv cs fs) (hgrow:wr.grownBy w2 cv.ownBlock) {g cap y:Nat} (ho:w2.ownsRow w.heap.size 3 1 (.slice (some ⟨g,0,none⟩) (cs.length+1) cap) (cs.length+1) (natCells cs++[.int .i64 (y:Int)])) (hl:cv.ownBlock=some g∨g=wr.heap.size) :
  SlI w w2 (.slice (some ⟨g,0,none⟩) (cs.length+1) cap) fv (cs++[y]) fs :=
 ⟨h.below.grown hgrow h.below.size (fun k hk=>(h.rc.lt k hk).1),NRow.of ho,keep1 hgrow h.rf h.dj.symm,(h.dj.symm.lies hl (fun q hq=>(h.rf.lt q hq).2)).symm⟩
end sl
theorem SlI.start (w:World):SlI w ((w.alloc (.cells #[] 3)).alloc (.cells #[] 3)) (.slice (some ⟨w.heap.size,0,none⟩) 0 0) (.slice (some ⟨w.heap.size+1,0,none⟩) 0 0) [] []:=by
 have h1:=World.ownsRow_made (base:=w.heap.size) (e:=3) (size:=1) w #[] 0 (by simp) (by simp) rfl
 have h2:=World.ownsRow_made (base:=w.heap.size) (e:=3) (size:=1) (w.alloc (.cells #[] 3)) #[] 0 (by simp) (by simp) rfl
 refine ⟨((Below.refl _ _).alloc (Nat.le_refl _) _).alloc (by simp) _,World.ownsRow.alloc (by simpa [natCells,NRow] using h1) _,by simpa [natCells,NRow] using h2,fun q a b=>?_⟩
 simp [Value.ownBlock] at a b
 omega
set_option maxRecDepth 20000 in
set_option maxHeartbeats 2000000 in
theorem sortLetters_any (w:World) (g gf M:Nat) (F:Nat→Nat) (grs:List Bool) (nxs ks hs:List Nat) (h:GraphB w g M F grs nxs) (hf:FoldB w gf ks hs) (sm:Small M grs nxs) (sf:SmallF ks hs) :
  Calls Tryz.prog 70 #[.pointer (some ⟨g,0,none⟩),.pointer (some ⟨gf,0,none⟩)] w fun e w'=>∃ cv fv cs fs,e=.returned (.tuple #[cv,fv])∧Below w.heap.size w w'∧NRow w' w.heap.size cv cs∧NRow w' w.heap.size fv fs∧SplitPost (ElT hs.length (nfT ks hs nxs M)) M cs fs:=by
 have HLA:Hid (∀ W,Below w.heap.size w W→∀ a b:Nat,a≤256→b≤256→Calls Tryz.prog 116 #[.pointer (some ⟨g,0,none⟩),.pointer (some ⟨gf,0,none⟩),.int .i64 (a:Int),.int .i64 (b:Int)] W fun e w'=>(∃ y,e=.returned (.bool y)∧(y=true↔ElT hs.length (nfT ks hs nxs M) a b))∧Below W.heap.size W w') :=
  fun W hW a b ha hb=>leadAlike_any W g gf M F grs nxs ks hs (h.below hW) (hf.below hW) sm sf a b ha hb
 have HLE:Hid (∀ W,Below w.heap.size w W→Calls Tryz.prog 115 #[.pointer (some ⟨g,0,none⟩)] W fun e w'=>e=.returned (.int .i64 (M:Int))∧w'=W):=fun W hW=>Letters_any W g M F grs nxs (h.below hW)
 have HEQ:=hide (ElT_eqv hs.length (nfT ks hs nxs M))
 have HM:=hide sm.m
 have hMI:(M:Int)≤256:=by have:=sm.m;omega
 generalize ElT hs.length (nfT ks hs nxs M)=E at *
 have H0:=hide (SlI.start w)
 obtain ⟨i,i0,i1,i2,i3⟩:=info_of info3
 have HI:=hide (And.intro i0 (And.intro i1 (And.intro i2 i3)))
 clear i0 i1 i2 i3 h hf sm sf
 go_enter Tryz.func70,Tryz.ntmps70
 go_wp2_with fail
 go_loopw [6,7,8] (fun cv fv lx wr=>∃ (l:Nat) (ca cc fa fc:_) (cs fs:List Nat),cv=.slice ca cs.length cc∧fv=.slice fa fs.length fc∧lx=.int .i64 (l:Int)∧Hid (l≤M∧SlI w wr (.slice ca cs.length cc) (.slice fa fs.length fc) cs fs∧cs.length=l∧fs.length≤24∧Sorted l E fs (fun i=>cs.getD i 0))) (fun _ _ lx _=>M - (intOf lx).toNat)
 case atStart=>exact ⟨0,_,_,_,_,[],[],rfl,rfl,rfl,Nat.zero_le _,unhide H0,rfl,by simp,Sorted.nil _ _⟩
 case round =>
  rename World=>wr
  obtain ⟨l,ca,cc,fa,fc,cs,fs,rfl,rfl,rfl,HH⟩:=hrel
  obtain ⟨hl,hI,hcl,hfl,hso⟩:=unhide HH
  have HI1:=hide hI
  have HCL:=hide hcl
  have HFL:=hide hfl
  have HSO:=hide hso
  have HLL:=hide (unhide HLE wr hI.below)
  have hfI:(fs.length:Int)≤24:=by omega
  by_cases hlt:l < M
  ·have hltI:(l:Int) < (M:Int):=by omega
   have HLT:=hide hlt
   clear H0 HH hI hcl hfl hso hl hlt
   go_wp2_with fail
   refine (unhide HLL).mono ?_
   rintro e w1 ⟨rfl,hww⟩
   obtain rfl:wr=w1:=hww.symm
   clear hww HLL
   go_wp2_with fail
   go_loopw [9] (fun kx wx=>∃ k:Nat,kx=.int .i64 (k:Int)∧k≤fs.length∧Hid ((∀ j,j < k→¬E l (fs.getD j 0))∧SlI w wx (.slice ca cs.length cc) (.slice fa fs.length fc) cs fs)) (fun kx _=>fs.length - (intOf kx).toNat)
   case atStart=>exact ⟨0,rfl,Nat.zero_le _,fun j hj=>absurd hj (Nat.not_lt_zero _),unhide HI1⟩
   case round =>
    clear HI1
    rename World=>wx
    obtain ⟨k,rfl,hk,HKK⟩:=hrel
    obtain ⟨hno,hI⟩:=unhide HKK
    have HNO:=hide hno
    have HI1:=hide hI
    by_cases hkl:k < fs.length
    ·obtain ⟨gh,ch,he,hx⟩:=hI.rf.at hkl
     simp only [Value.slice.injEq,true_and] at he
     obtain ⟨rfl,rfl⟩:=he
     have hkI2:(k:Int) < (fs.length:Int):=by omega
     have HKL2:=hide hkl
     have hxb:fs.getD k 0≤256:=by
      have:=((unhide HSO).head k hkl).1
      have:=unhide HM
      have:=unhide HLT
      omega
     have HC:=hide (unhide HLA wx hI.below l _ (by have:=unhide HM;have:=unhide HLT;omega) hxb)
     have HNO2:Hid (¬E l (fs.getD k 0)→∀ j,j < k+1→¬E l (fs.getD j 0)):=fun hne j hj=>by
      by_cases e:j=k
      ·subst e;exact hne
      ·exact hno j (by omega)
     have HYES:Hid (E l (fs.getD k 0)→Sorted (l+1) E fs (fun i=>(cs++[k]).getD i 0)):=fun hE=>(unhide HSO).old (unhide HEQ) hkl hE (fun a ha=>getD_snoc_old (by rw [unhide HCL];exact ha)) (by rw [←unhide HCL];exact getD_snoc_new _ _)
     generalize fs.getD k 0=x at *
     clear hkl hxb hno hI HKK
     go_wp2_with fail
     refine (unhide HC).mono ?_
     rintro e w1 ⟨⟨y,rfl,hy⟩,hww⟩
     have HI2:=hide ((unhide HI1).next hww)
     clear hww
     cases y
     ·have HN:Hid (¬E l x):=fun hE=>by have:=hy.2 hE;cases this
      clear hy
      go_wp2_with fail
      go_roundw
      case rel=>exact ⟨k+1,by go_num,unhide HKL2,unhide HNO2 (unhide HN),unhide HI2⟩
      case measure=>have:=unhide HKL2;simp [intOf];omega
     ·have HY:=hide (hy.1 rfl)
      clear hy
      have hkne:¬(k:Int)=(fs.length:Int):=by omega
      have HOK:=hide (World.ownsRow.alloc (unhide HI2).rc (Obj.cells #[.int .i64 (k:Int)] 3))
      have HSK:=hide ((unhide HI2).alloc (Obj.cells #[.int .i64 (k:Int)] 3))
      have HSZ:Hid (w.heap.size≤w1.heap.size):=(unhide HI2).below.size
      have HKN:Hid (cs.length≤256):=by have:=unhide HCL;have:=unhide HLT;have:=unhide HM;show _≤_;omega
      go_wp2_with (at_builtin;refine wpList_append_lies _ rfl (.tmp 48) (.tmp 50) 37 rfl w.heap.size 3 i (.int .i64 0) 1 8 Tryz.underlying37 (unhide HI).1 (unhide HI).2.1 (unhide HI).2.2.1 (unhide HI).2.2.2 rfl (by decide) _ _ _ rfl (unhide HOK) ⟨w1.heap.size,0,none⟩ 1 1 [.int .i64 (k:Int)] rfl rfl (cell_one_new _ _ _) (by intro u hu;simp at hu;subst hu;rfl) (by decide) (by have:=unhide HKN;unfold maxLen;omega) (by have:=unhide HKN;omega) (by have:=unhide HSZ;simp;omega) (w1.heap.size+1) (by simp) ?_;intro g5 cap5 w8 ho hgrow hlies hlt5;have HN:=hide (SlI.classes (unhide HSK) hgrow ho (hlies.elim Or.inl (fun e=>Or.inr (by rw [e];simp))));clear ho hgrow hlies)
      go_roundw
      case rel=>exact ⟨l+1,some ⟨g5,0,none⟩,cap5,_,_,cs++[k],fs,by simp,rfl,by go_num,unhide HLT,by simpa using unhide HN,by simp [unhide HCL],unhide HFL,unhide HYES (unhide HY)⟩
      case measure=>have:=unhide HLT;simp [intOf];omega
    ·have hk2:k=fs.length:=by omega
     subst hk2
     have HOH:=hide (World.ownsRow.alloc hI.rf (Obj.cells #[.int .i64 (l:Int)] 3))
     have HSH:=hide (hI.alloc (Obj.cells #[.int .i64 (l:Int)] 3))
     have HSZ:Hid (w.heap.size≤wx.heap.size):=hI.below.size
     have HNEW:Hid (Sorted (l+1) E (fs++[l]) (fun i=>(cs++[fs.length]).getD i 0)):=(unhide HSO).new (unhide HEQ) hno (fun a ha=>getD_snoc_old (by rw [unhide HCL];exact ha)) (by rw [←unhide HCL];exact getD_snoc_new _ _)
     have HKN:Hid (cs.length≤256):=by have:=unhide HCL;have:=unhide HLT;have:=unhide HM;show _≤_;omega
     clear hno hI HKK
     go_upto_region 11 with (at_builtin;refine wpList_append_lies _ rfl (.tmp 39) (.tmp 41) 37 rfl w.heap.size 3 i (.int .i64 0) 1 8 Tryz.underlying37 (unhide HI).1 (unhide HI).2.1 (unhide HI).2.2.1 (unhide HI).2.2.2 rfl (by decide) _ _ _ rfl (unhide HOH) ⟨wx.heap.size,0,none⟩ 1 1 [.int .i64 (l:Int)] rfl rfl (cell_one_new _ _ _) (by intro u hu;simp at hu;subst hu;rfl) (by decide) (by have:=unhide HFL;unfold maxLen;omega) (by have:=unhide HFL;omega) (by have:=unhide HSZ;simp;omega) (wx.heap.size+1) (by simp) ?_;intro g5 cap5 W ho hgrow hlies hlt5;have HN:=hide (SlI.firsts (unhide HSH) hgrow ho (hlies.elim Or.inl (fun e=>Or.inr (by rw [e];simp))));clear ho hgrow hlies)
     by_cases h24:fs.length=24
     ·have h25:(24:Int) < (fs.length:Int)+1:=by omega
      have H24:=hide h24
      clear h24
      go_wp2_with fail
      go_ret2
      exact ⟨_,_,_,_,rfl,(unhide HN).below,(unhide HN).rc,(unhide HN).rf,.inl ⟨by simp [unhide H24],_,_,unhide HLT,unhide HNEW⟩⟩
     ·have h25:(fs.length:Int)+1≤24:=by omega
      have H24:Hid (fs.length+1≤24):=by show _≤_;omega
      have HOK:=hide (World.ownsRow.alloc (unhide HN).rc (Obj.cells #[.int .i64 ((fs.length:Nat):Int)] 3))
      have HSK:=hide ((unhide HN).alloc (Obj.cells #[.int .i64 ((fs.length:Nat):Int)] 3))
      have HSZ2:Hid (w.heap.size≤W.heap.size):=(unhide HN).below.size
      clear h24 HN
      go_wp2_with (at_builtin;refine wpList_append_lies _ rfl (.tmp 48) (.tmp 50) 37 rfl w.heap.size 3 i (.int .i64 0) 1 8 Tryz.underlying37 (unhide HI).1 (unhide HI).2.1 (unhide HI).2.2.1 (unhide HI).2.2.2 rfl (by decide) _ _ _ rfl (unhide HOK) ⟨W.heap.size,0,none⟩ 1 1 [.int .i64 ((fs.length:Nat):Int)] rfl rfl (cell_one_new _ _ _) (by intro u hu;simp at hu;subst hu;rfl) (by decide) (by have:=unhide HKN;unfold maxLen;omega) (by have:=unhide HKN;omega) (by have:=unhide HSZ2;simp;omega) (W.heap.size+1) (by simp) ?_;intro g6 cap6 w9 ho hgrow hlies hlt6;have HN:=hide (SlI.classes (unhide HSK) hgrow ho (hlies.elim Or.inl (fun e=>Or.inr (by rw [e];simp))));clear ho hgrow hlies)
      go_roundw
      case rel=>exact ⟨l+1,some ⟨g6,0,none⟩,cap6,some ⟨g5,0,none⟩,cap5,cs++[fs.length],fs++[l],by simp,by simp,by go_num,unhide HLT,by simpa using unhide HN,by simp [unhide HCL],by rw [List.length_append];exact unhide H24,unhide HNEW⟩
      case measure=>have:=unhide HLT;simp [intOf];omega
  ·have hl2:l=M:=by omega
   subst hl2
   have HR:Hid (SplitPost E l cs fs):=.inr ⟨hfl,hcl,hso⟩
   clear H0 HH hI hcl hfl hso hl hlt
   go_wp2_with fail
   refine (unhide HLL).mono ?_
   rintro e w1 ⟨rfl,hww⟩
   obtain rfl:wr=w1:=hww.symm
   clear hww HLL
   go_wp2_with fail
   go_ret2
   exact ⟨_,_,_,_,rfl,(unhide HI1).below,(unhide HI1).rc,(unhide HI1).rf,unhide HR⟩
end Go.Proofs.YtobfpgoepaeknaaGreat
namespace Go.Proofs.YtobfpgoepaeknaaGreat
open Go.RowKit
theorem results_cell_row_tmp {P:Program} {fn:Func} {p u:Tmp} {ty:TypeId} (h:fn.results=#[.cell p ty,.tmp u]) (tmps:Array Value) (w:World) (g:Nat) (t:TypeId) (cs:Array Value) (fr:Nat × Nat) (d:TypeDesc)
  (hp:tmps.getD p undef=.pointer (some ⟨g,0,none⟩)) (hg:w.heap[g]?=some (.cells cs t fr)) (hu:P.underlying ty=some d) (hd:(match d with | .struct _ | .array _ _=>true | _=>false)=true) (hi:(P.info? ty).map (·.size)=some cs.size)
  (x:Value) (hx:tmps.getD u undef=x):(results fn tmps).run P w=.ok (.tuple #[.agg cs,x]) w:=by
 rw [results_cell_tmp h,hp,hx]
 simp [asAddr,run_loadVar_row w g t ty cs fr d hg hu hd hi]
theorem wrapB (b:Nat) (h:b < 256):IntKind.u8.wrap (b:Int)=(b:Int):=by
 rw [IntKind.wrap_u8];omega
def tabA (cl:Nat→Nat) (C:Nat) (gv nv:Value):Array Value:=rowN [] cl [.int .i64 (C:Int),gv,nv]
def zcT:Array Value:=tabA (fun _=>0) 0 (.slice none 0 0) (.slice none 0 0)
theorem tabA_size (cl:Nat→Nat) (C:Nat) (gv nv:Value):(tabA cl C gv nv).size=259:=rowN_size _ _ _
theorem zcT_size:zcT.size=259:=tabA_size _ _ _ _
theorem zcT_ne:zcT≠#[]:=rowN_ne _ _ _
theorem zvT (w:World):(zeroValue 47).run Tryz.prog w=.ok (.agg zcT) w:=by kernel_rfl
theorem tabA_b (cl:Nat→Nat) (C:Nat) (gv nv:Value) {b:Nat} (h:b < 256):(tabA cl C gv nv)[b]?=some (.int .i64 ((cl b:Nat):Int)):=by
 have:=rowN_mid [] [.int .i64 (C:Int),gv,nv] cl h
 rwa [List.length_nil,Nat.zero_add] at this
theorem tabA_256 (cl:Nat→Nat) (C:Nat) (gv nv:Value):(tabA cl C gv nv)[256]?=some (.int .i64 (C:Int)):=rowN_post [] _ _ 0
theorem tabA_257 (cl:Nat→Nat) (C:Nat) (gv nv:Value):(tabA cl C gv nv)[257]?=some gv:=rowN_post [] _ _ 1
theorem tabA_258 (cl:Nat→Nat) (C:Nat) (gv nv:Value):(tabA cl C gv nv)[258]?=some nv:=rowN_post [] _ _ 2
theorem tabA_set (cl:Nat→Nat) (C:Nat) (gv nv:Value) {b:Nat} (h:b < 256) (x:Nat):(tabA cl C gv nv).setIfInBounds b (.int .i64 ((x:Nat):Int))=tabA (fun c=>if c=b then x else cl c) C gv nv:=by
 have:=rowN_set [] [.int .i64 (C:Int),gv,nv] cl h x
 rwa [List.length_nil,Nat.zero_add] at this
theorem tabA_set257 (cl:Nat→Nat) (C:Nat) (gv nv v:Value):(tabA cl C gv nv).setIfInBounds 257 v=tabA cl C v nv:=rowN_set_post [] _ _ 1 v
theorem tabA_set258 (cl:Nat→Nat) (C:Nat) (gv nv v:Value):(tabA cl C gv nv).setIfInBounds 258 v=tabA cl C gv v:=rowN_set_post [] _ _ 2 v
theorem tabA_build (C:Nat):zcT.setIfInBounds 256 (.int .i64 (C:Int))=tabA (fun _=>0) C (.slice none 0 0) (.slice none 0 0):=rowN_set_post [] _ _ 0 _
theorem tabA_one (a b:Option Addr) (n1 n2 c1 c2:Nat) (cl:Nat→Nat) (C:Nat):(tabA cl C (.slice a n1 c1) (.slice b n2 c2)).all (·.oneCell')=true:=rowN_one cl rfl rfl
theorem tabA_congr {cl cl':Nat→Nat} (h:∀ b,b < 256→cl b=cl' b) (C:Nat) (gv nv:Value):tabA cl C gv nv=tabA cl' C gv nv:=rowN_congr h
structure OgI (w3 wr:World) (cl:Nat→Nat) (C:Nat) (gv nv:Value) (bs:List Bool) (ns:List Nat):Prop where
 below:Below w3.heap.size w3 wr
 bT:wr.heap[w3.heap.size]?=some (.cells (tabA cl C gv nv) 47 (0,0))
 rg:BRow wr w3.heap.size gv bs
 rn:NRow wr w3.heap.size nv ns
section og
variable {w3 wr w2 : World} {cl : Nat → Nat} {C : Nat} {gv nv : Value} {bs : List Bool} {ns : List Nat}
theorem OgI.lt (h:OgI w3 wr cl C gv nv bs ns):w3.heap.size < wr.heap.size:=(Array.getElem?_eq_some_iff.1 h.bT).1
theorem OgI.start (w3:World) (C:Nat):OgI w3 (w3.alloc (.cells (tabA (fun _=>0) C (.slice none 0 0) (.slice none 0 0)) 47)) (fun _=>0) C (.slice none 0 0) (.slice none 0 0) [] [] :=
 ⟨(Below.refl _ _).alloc (Nat.le_refl _) _,heap_alloc_new _ _,World.ownsRow_nil _ _ _ _,World.ownsRow_nil _ _ _ _⟩
theorem OgI.next (h:OgI w3 wr cl C gv nv bs ns) (k:Below wr.heap.size wr w2):OgI w3 w2 cl C gv nv bs ns :=
 ⟨h.below.trans (k.mono h.below.size),(k.block _ h.lt).trans h.bT,h.rg.below k,h.rn.below k⟩
theorem OgI.drew (h:OgI w3 wr cl C gv nv bs ns):OgI w3 wr.drew cl C gv nv bs ns:=⟨h.below.drew,h.bT,h.rg,h.rn⟩
theorem OgI.alloc (h:OgI w3 wr cl C gv nv bs ns) (o:Obj):OgI w3 (wr.alloc o) cl C gv nv bs ns:=h.next ((Below.refl _ _).alloc (Nat.le_refl _) _)
theorem OgI.congr (h:OgI w3 wr cl C gv nv bs ns) {cl':Nat→Nat} (he:∀ b,b < 256→cl b=cl' b):OgI w3 wr cl' C gv nv bs ns:=⟨h.below,by rw [←tabA_congr he];exact h.bT,h.rg,h.rn⟩
theorem OgI.cls (h:OgI w3 wr cl C gv nv bs ns) {b:Nat} (hb:b < 256) (x:Nat):OgI w3 (wr.setCell ⟨w3.heap.size,b,none⟩ (.int .i64 ((x:Nat):Int))) (fun c=>if c=b then x else cl c) C gv nv bs ns :=
 ⟨h.below.setCell (by simp) _,by rw [heap_setCell_same _ _ _ _ _ _ h.bT,tabA_set _ _ _ _ hb],own_set_any h.rg h.bT (by decide) _ _,own_set_any h.rn h.bT (by decide) _ _⟩
theorem OgI.grant (h:OgI w3 wr cl C gv nv bs ns) (hgrow:wr.grownBy w2 gv.ownBlock) {v':Value} {y:Bool} (ho:w2.ownsRow w3.heap.size 4 1 v' (bs.length+1) (boolCells bs++[.bool y])) :
  OgI w3 (w2.setCell ⟨w3.heap.size,257,none⟩ v') cl C v' nv (bs++[y]) ns:=by
 have e2:=own_off h.rg h.bT (by decide)
 have g2:=grown_at hgrow h.bT (fun e=>e2 _ e rfl)
 exact ⟨(h.below.grown hgrow h.below.size (fun k hk=>(h.rg.lt k hk).1)).setCell (by simp) _,by rw [heap_setCell_same _ _ _ _ _ _ g2,tabA_set257],own_set_any (BRow.of ho) g2 (by decide) _ _,keep2 hgrow g2 h.rn (own_own h.rn h.rg (by decide)) (by decide)⟩
theorem OgI.edge (h:OgI w3 wr cl C gv nv bs ns) (hgrow:wr.grownBy w2 nv.ownBlock) {v':Value} {y:Nat} (ho:w2.ownsRow w3.heap.size 3 1 v' (ns.length+1) (natCells ns++[.int .i64 (y:Int)])) :
  OgI w3 (w2.setCell ⟨w3.heap.size,258,none⟩ v') cl C gv v' bs (ns++[y]):=by
 have e2:=own_off h.rn h.bT (by decide)
 have g2:=grown_at hgrow h.bT (fun e=>e2 _ e rfl)
 exact ⟨(h.below.grown hgrow h.below.size (fun k hk=>(h.rn.lt k hk).1)).setCell (by simp) _,by rw [heap_setCell_same _ _ _ _ _ _ g2,tabA_set258],keep2 hgrow g2 h.rg (own_own h.rg h.rn (by decide)) (by decide),own_set_any (NRow.of ho) g2 (by decide) _ _⟩
end og
def TabV (w:World) (B:Nat) (v:Value) (L:List Nat→Prop):Prop:=∃ S C nx gr cl nc gv nv,v=.agg (tabA cl C gv nv)∧BRow w B gv ((List.range S).map gr)∧NRow w B nv ((List.range S).flatMap (fun i=>(List.range C).map (nc i)))∧TabOf L S C nx gr cl nc
theorem flat_len (C:Nat) (nc:Nat→Nat→Nat):∀ k,((List.range k).flatMap (fun i=>(List.range C).map (nc i))).length=k * C
 | 0=>by simp
 | k+1=>by rw [List.range_succ,List.flatMap_append,List.length_append,flat_len C nc k];simp [Nat.add_mul]
theorem flat_snoc (C:Nat) (nc:Nat→Nat→Nat) (k:Nat):(List.range (k+1)).flatMap (fun i=>(List.range C).map (nc i))=(List.range k).flatMap (fun i=>(List.range C).map (nc i))++(List.range C).map (nc k):=by
 rw [List.range_succ,List.flatMap_append];simp
theorem map_snoc {α:Type} (f:Nat→α) (k:Nat):(List.range (k+1)).map f=(List.range k).map f++[f k]:=by rw [List.range_succ,List.map_append];rfl
end Go.Proofs.YtobfpgoepaeknaaGreat
namespace Go.Proofs.YtobfpgoepaeknaaGreat
open Go.RowKit
attribute [local go_sem ↓] Go.wp_at_zero Go.wp_at_succ zvT
attribute [local go_sem] zcT_size zcT_ne cells_agg
theorem fold_small {N:Nat} {E:Nat→Nat→Prop} {ks hs:List Nat} (hN:N≤10000) (h1:hs.length≤24) (h2:ks.length=N) (h3:Sorted N E hs (fun i=>ks.getD i 0)):SmallF ks hs:=by
 refine ⟨by omega,h1,fun k=>?_⟩
 by_cases hk:k < hs.length
 ·have:=(h3.head k hk).1;omega
 ·rw [List.getD_eq_getElem?_getD,List.getElem?_eq_none (by omega)];simp
set_option maxRecDepth 20000 in
set_option maxHeartbeats 4000000 in
theorem ofGraph_any (w:World) (g:Nat) (hb:List Nat) (F:Nat→Nat) (grs:List Bool) (nxs:List Nat) (h:GraphB w g hb.length F grs nxs) (sm:Small hb.length grs nxs) (E0:Nat→Nat→Prop) (hl:Sorted 256 E0 hb F)
  (L:List Nat→Prop) (hd:BfsDfa L grs.length (fun i b=>nlM nxs hb.length i (F b)) (fun i=>grs.getD i false)) :
  Calls Tryz.prog 39 #[.pointer (some ⟨g,0,none⟩)] w fun e w'=>Below w.heap.size w w'∧((∃ v,e=.returned (.tuple #[v,.int .i64 0])∧TabV w' w.heap.size v L)∨(e=.returned (.tuple #[.agg zcT,.int .i64 3])∧(ManyStates L∨ManyClasses L))):=by
 have hB0:Below w.heap.size w (w.alloc (.cells zcT 47)):=(Below.refl _ _).alloc (Nat.le_refl _) _
 have HFO:=hide (fold_any (w.alloc (.cells zcT 47)) g hb F grs nxs (h.below hB0) sm E0 hl L hd)
 have HG:=hide h
 have HSM:=hide sm
 have HL:=hide hl
 have HB0:=hide hB0
 clear h sm hl hd hB0
 go_enter Tryz.func39,Tryz.ntmps39
 go_wp2_with fail
 refine (unhide HFO).mono ?_
 rintro e w1 ⟨kv,hv,ks,hs,rfl,hb1,hk1,hh1,hpost⟩
 clear HFO
 obtain ⟨ka,kc,rfl⟩:=hk1.form
 obtain ⟨ha,hc,rfl⟩:=hh1.form
 have hR1:w1.heap[w.heap.size]?=some (.cells zcT 47 (0,0)):=(hb1.block _ (by simp)).trans (heap_alloc_new w _)
 have hbw1:Below w.heap.size w w1:=(unhide HB0).trans (hb1.mono (by simp))
 have hsz1:w.heap.size < w1.heap.size:=(Array.getElem?_eq_some_iff.1 hR1).1
 have hR2:(w1.alloc (.cells #[.slice ka ks.length kc,.slice ha hs.length hc] 138)).heap[w.heap.size]?=some (.cells zcT 47 (0,0)):=by rw [Below.heap_alloc _ _ _ hsz1];exact hR1
 have hbw2:Below w.heap.size w (w1.alloc (.cells #[.slice ka ks.length kc,.slice ha hs.length hc] 138)):=below_then hbw1 _
 have hb12:Below w1.heap.size w1 (w1.alloc (.cells #[.slice ka ks.length kc,.slice ha hs.length hc] 138)):=(Below.refl _ _).alloc (Nat.le_refl _) _
 have hfb:FoldB (w1.alloc (.cells #[.slice ka ks.length kc,.slice ha hs.length hc] 138)) w1.heap.size ks hs:=⟨_,_,_,_,heap_alloc_new _ _,(hk1.below hb12).zero,(hh1.below hb12).zero⟩
 have HR2:=hide hR2
 have HBW2:=hide hbw2
 have HFB:=hide hfb
 rcases hpost with ⟨h24,hmany⟩ | ⟨h24,hkl,⟨E,hso⟩,hmin⟩
 ·have h24I:(24:Int) < (hs.length:Int):=by omega
  have HMANY:=hide hmany
  clear hb1 hk1 hh1 hR1 hbw1 hR2 hbw2 hb12 hfb h24 hmany
  go_wp2_with (refine wpList_store_row0 rfl 47 _ _ rfl rfl w.heap.size _ rfl rfl 47 _ (unhide HR2) (by rw [zcT_size];kernel_rfl) (by rw [zcT_size]) (tabA_one _ _ _ _ _ _ _ _) ?_)
  exact bodyPost_ret (v:=.tuple #[.agg zcT,.int .i64 3])
   (results_cell_row_tmp (p:=2) (u:=3) (ty:=47) rfl _ _ w.heap.size 47 _ (0,0) _ rfl (setRow_heap _ _ _ _ _ _ (unhide HR2)) Tryz.underlying47 rfl (by rw [zcT_size];kernel_rfl) _ rfl) rfl
   ⟨below_setRow (unhide HBW2) (Nat.le_refl _) _,.inr ⟨rfl,.inl (unhide HMANY)⟩⟩
 ·have h24I:(hs.length:Int)≤24:=by omega
  have hsf:=fold_small (unhide HSM).g h24 hkl hso
  have HSF:=hide hsf
  have HMIN:Hid (MinDfa L hs.length (fun k b=>nfT ks hs nxs hb.length k (F b)) (fun k=>grs.getD (hs.getD k 0) false)):=hmin
  have HSL:=hide (sortLetters_any _ g w1.heap.size hb.length F grs nxs ks hs ((unhide HG).below hbw2) hfb (unhide HSM) hsf)
  have H24:=hide h24
  clear hb1 hk1 hh1 hR1 hbw1 hR2 hbw2 hb12 hfb h24 hkl hso hmin hsf
  go_wp2_with fail
  refine (unhide HSL).mono ?_
  rintro e w3 ⟨cv,fv,cs,fs,rfl,hb3,hc3,hf3,hsp⟩
  clear HSL
  obtain ⟨ca,cc,rfl⟩:=hc3.form
  obtain ⟨fa,fc,rfl⟩:=hf3.form
  have hbw3:Below w.heap.size w w3:=(unhide HBW2).trans (hb3.mono (unhide HBW2).size)
  have hR3:w3.heap[w.heap.size]?=some (.cells zcT 47 (0,0)):=(hb3.block _ (by simp;omega)).trans (unhide HR2)
  have HR3:=hide hR3
  have HBW3:=hide hbw3
  have HF3:=hide ((unhide HFB).below hb3)
  have HC3:=hide hc3.zero
  have HFS3:=hide hf3.zero
  rcases hsp with ⟨f25,n,kd,hn,hso⟩ | ⟨f24,hcl,hso⟩
  ·have f25I:(24:Int) < (fs.length:Int):=by omega
   have HMANY:=hide (many_of (unhide HL) (unhide HMIN) hn hso (by omega))
   clear hb3 hc3 hf3 hbw3 hR3 f25 hn hso
   go_wp2_with (refine wpList_store_row0 rfl 47 _ _ rfl rfl w.heap.size _ rfl rfl 47 _ (unhide HR3) (by rw [zcT_size];kernel_rfl) (by rw [zcT_size]) (tabA_one _ _ _ _ _ _ _ _) ?_)
   exact bodyPost_ret (v:=.tuple #[.agg zcT,.int .i64 3])
    (results_cell_row_tmp (p:=2) (u:=3) (ty:=47) rfl _ _ w.heap.size 47 _ (0,0) _ rfl (setRow_heap _ _ _ _ _ _ (unhide HR3)) Tryz.underlying47 rfl (by rw [zcT_size];kernel_rfl) _ rfl) rfl
    ⟨below_setRow (unhide HBW3) (Nat.le_refl _) _,.inr ⟨rfl,.inr (unhide HMANY)⟩⟩
  ·have f24I:(fs.length:Int)≤24:=by omega
   have HTAB:=hide (tab_of (unhide HL) (unhide HMIN) hso (unhide H24) f24)
   have HFX:Hid (∀ c,c < fs.length→fs.getD c 0≤256):=fun c hc=>by
    have:=(hso.head c hc).1;have:=(unhide HSM).m;omega
   have HF24:=hide f24
   have HCL:=hide hcl
   have HG3:=hide ((unhide HG).below hbw3)
   clear hb3 hc3 hf3 hbw3 hR3 f24 hcl hso HG HBW2 HR2 HFB
   have HO0:=hide (OgI.start w3 fs.length)
   go_wp2_with (refine wpList_store_row0 rfl 47 _ _ rfl rfl w3.heap.size _ rfl rfl 47 _ (heap_alloc_new _ _) (by rw [tabA_build,tabA_size];kernel_rfl) (by rw [tabA_build,tabA_size,zcT_size]) (by rw [tabA_build];exact tabA_one _ _ _ _ _ _ _ _) ?_;rw [tabA_build,setRow_alloc])
   go_loopw [8] (fun bx wr=>∃ b:Nat,bx=.int .i64 (b:Int)∧Hid (b≤256∧OgI w3 wr (fun c=>if c < b then cs.getD (F c) 0 else 0) fs.length (.slice none 0 0) (.slice none 0 0) [] [])) (fun bx _=>left256 bx)
   case atStart=>exact ⟨0,rfl,Nat.zero_le _,(unhide HO0).congr (fun b _=>by rw [if_neg (Nat.not_lt_zero _)])⟩
   case round =>
    clear HO0
    rename World=>wr
    obtain ⟨b,rfl,HH⟩:=hrel
    obtain ⟨hb256,hI⟩:=unhide HH
    by_cases hlt:b < 256
    ·have hbI:(b:Int) < 256:=by omega
     have HLT:=hide hlt
     have HLE:=hide (Letter_any wr g hb.length F grs nxs ((unhide HG3).below hI.below) b hlt)
     have HAT:=hide (at_any wr 0 _ cs (F b) ((unhide HC3).below hI.below) (by have:=unhide HCL;have:=(unhide HSM).m;omega))
     have y0:wr.cell? ⟨w3.heap.size,b,none⟩=some (.int .i64 (((if b < b then cs.getD (F b) 0 else 0:Nat)):Int)):=by rw [cell_of_row _ _ _ _ _ _ hI.bT,tabA_b _ _ _ _ hlt]
     have z0:=frozen_of_row wr w3.heap.size b _ _ hI.bT
     rw [if_neg (Nat.lt_irrefl _)] at y0
     have hw8:=wrapB b hlt
     have HN:Hid (OgI w3 (wr.setCell ⟨w3.heap.size,b,none⟩ (.int .i64 ((cs.getD (F b) 0:Nat):Int))) (fun c=>if c < b+1 then cs.getD (F c) 0 else 0) fs.length (.slice none 0 0) (.slice none 0 0) [] []):=(hI.cls hlt (cs.getD (F b) 0)).congr (fun c _=>by
      by_cases e:c=b
      ·subst e;rw [if_pos rfl,if_pos (by omega)]
      ·rw [if_neg e]
       by_cases e2:c < b
       ·rw [if_pos e2,if_pos (by omega)]
       ·rw [if_neg e2,if_neg (by omega)])
     generalize cs.getD (F b) 0=x at *
     generalize F b=fb at *
     clear hlt hI hb256 HH
     go_wp2_with fail
     refine (unhide HLE).mono ?_
     rintro e wq ⟨rfl,hww⟩
     obtain rfl:wr=wq:=hww.symm
     clear hww
     go_wp2_with fail
     refine (unhide HAT).mono ?_
     rintro e wq ⟨rfl,hww⟩
     obtain rfl:wr=wq:=hww.symm
     clear hww
     go_wp2_with fail
     go_roundw
     case rel=>exact ⟨b+1,by go_num,unhide HLT,unhide HN⟩
     case measure=>have:=unhide HLT;simp [left256,intOf];omega
    ·have hb2:b=256:=by omega
     subst hb2
     have HI2:Hid (OgI w3 wr (fun c=>cs.getD (F c) 0) fs.length (.slice none 0 0) (.slice none 0 0) [] []):=hI.congr (fun c hc=>by rw [if_pos hc])
     clear hlt hI hb256 HH
     obtain ⟨gr,hgr⟩:∃ gr:Nat→Bool,∀ k,gr k=grs.getD (hs.getD k 0) false:=⟨fun k=>grs.getD (hs.getD k 0) false,fun _=>rfl⟩
     obtain ⟨nc,hnc⟩:∃ nc:Nat→Nat→Nat,∀ k c,nc k c=nfT ks hs nxs hb.length k (fs.getD c 0):=⟨fun k c=>nfT ks hs nxs hb.length k (fs.getD c 0),fun _ _=>rfl⟩
     have HT2:Hid (TabOf L hs.length fs.length (fun k b=>nfT ks hs nxs hb.length k (F b)) gr (fun c=>cs.getD (F c) 0) nc):=by
      have e1:gr=(fun k=>grs.getD (hs.getD k 0) false):=funext hgr
      have e2:nc=(fun k c=>nfT ks hs nxs hb.length k (fs.getD c 0)):=funext fun k=>funext fun c=>hnc k c
      rw [e1,e2];exact unhide HTAB
     have HGR:=hide hgr
     have HNC:=hide hnc
     clear HTAB hgr hnc
     generalize (fun c=>cs.getD (F c) 0)=cl at *
     obtain ⟨j,j0,j1,j2,j3⟩:=info_of infoBool
     have HJ2:=hide (And.intro j0 (And.intro j1 (And.intro j2 j3)))
     obtain ⟨i,i0,i1,i2,i3⟩:=info_of info3
     have HI:=hide (And.intro i0 (And.intro i1 (And.intro i2 i3)))
     clear j0 j1 j2 j3 i0 i1 i2 i3
     go_wp2_with fail
     go_loopw [9] (fun kx wq=>∃ (k:Nat) (gv nv:Value),kx=.int .i64 (k:Int)∧Hid (k≤hs.length∧OgI w3 wq cl fs.length gv nv ((List.range k).map gr) ((List.range k).flatMap (fun i=>(List.range fs.length).map (nc i))))) (fun kx _=>hs.length - (intOf kx).toNat)
     case atStart=>exact ⟨0,_,_,rfl,Nat.zero_le _,unhide HI2⟩
     case round =>
      clear HI2
      rename World=>wq
      obtain ⟨k,gv,nv,rfl,HH⟩:=hrel
      obtain ⟨hk,hI⟩:=unhide HH
      obtain ⟨ka',kc',ha',hc',h1,-,h3⟩:=((unhide HF3).below hI.below).ex
      have c1:wq.cell? ⟨w1.heap.size,1,none⟩=some (.slice ha' hs.length hc'):=by rw [cell_of_row _ _ _ _ _ _ h1];rfl
      have hl1:w1.heap.size < wq.heap.size:=(Array.getElem?_eq_some_iff.1 h1).1
      have hl3:w3.heap.size < wq.heap.size:=hI.lt
      obtain ⟨bs,hbs⟩:∃ bs,bs=(List.range k).map gr:=⟨_,rfl⟩
      obtain ⟨ns,hns⟩:∃ ns,ns=(List.range k).flatMap (fun i=>(List.range fs.length).map (nc i)):=⟨_,rfl⟩
      rw [←hbs,←hns] at hI
      have HBS:=hide hbs
      have HNS:=hide hns
      have HBL:Hid (bs.length=k):=by rw [unhide HBS];simp [Hid]
      have HNL:Hid (ns.length=k * fs.length):=by rw [unhide HNS];exact flat_len _ _ _
      obtain ⟨ga,gc,rfl⟩:=hI.rg.form
      obtain ⟨na,nn,rfl⟩:=hI.rn.form
      by_cases hlt:k < hs.length
      ·have hkI:(k:Int) < (hs.length:Int):=by omega
       have HLT:=hide hlt
       obtain ⟨gh,ch,he,hx⟩:=h3.at hlt
       simp only [Value.slice.injEq,true_and] at he
       obtain ⟨rfl,rfl⟩:=he
       have hlh:gh < wq.heap.size:=(h3.lt gh rfl).2
       have y257:wq.cell? ⟨w3.heap.size,257,none⟩=some (.slice ga bs.length gc):=by rw [cell_of_row _ _ _ _ _ _ hI.bT,tabA_257]
       have z257:=frozen_of_row wq w3.heap.size 257 _ _ hI.bT
       have HGQ:=hide ((unhide HG3).below hI.below)
       have HGN:Hid (∀ W,GraphB W g hb.length F grs nxs→Calls Tryz.prog 73 #[.pointer (some ⟨g,0,none⟩),.int .i64 ((hs.getD k 0:Nat):Int)] W fun e w'=>e=.returned (.bool (gr k))∧w'=W):=fun W hW=>by
        rw [unhide HGR];exact Granted_any W g hb.length F grs nxs hW _ (unhide HSM).g
       have HYG:Hid (bs++[gr k]=(List.range (k+1)).map gr):=by rw [unhide HBS];exact (map_snoc gr k).symm
       generalize hs.getD k 0=x at *
       generalize gr k=y at *
       have HO2:=hide (World.ownsRow.alloc hI.rg (Obj.cells #[.bool y] 4))
       have HS2:=hide (hI.alloc (Obj.cells #[.bool y] 4)).drew
       have HOFF:Hid (∀ q,(Value.slice ga bs.length gc).ownBlock=some q→q≠w3.heap.size):=own_off hI.rg hI.bT (by decide)
       have HBN:Hid (bs.length≤24):=by have:=unhide HBL;have:=unhide H24;show _≤_;omega
       clear hlt hI hk h1 h3 HH hbs hns
       go_upto_region 15 with fail
       go_cut [] from 43 to 79 (fun wx=>∃ gv2,Hid (OgI w3 wx cl fs.length gv2 (.slice na ns.length nn) (bs++[y]) ns))
       case first =>
        go_region_law (first
         | (refine step_append_own (by rfl) _ _ _ (by rfl) w3.heap.size 4 j (.bool false) 1 1 Tryz.underlying45 (unhide HJ2).1 (unhide HJ2).2.1 (unhide HJ2).2.2.1 (unhide HJ2).2.2.2 rfl (by decide) _ _ _ (by rfl) (by exact unhide HO2) ⟨wq.heap.size,0,none⟩ 1 1 [.bool y] (by rfl) rfl (by exact cell_one_new _ _ _) (by intro u hu;simp at hu;subst hu;rfl) (by have:=unhide HBN;unfold maxLen;omega) (by have:=unhide HBN;omega) (by simp;omega) ?_;intro v' w5 ho3 hgrow;have hb3:w5.heap[w3.heap.size]?=_:=(hgrow.block w3.heap.size (by simp;omega) (fun e=>unhide HOFF _ e.symm rfl)).trans (unhide HS2).bT;have y0:w5.cell? ⟨w3.heap.size,257,none⟩=some (.slice ga bs.length gc):=(by rw [cell_of_row _ _ _ _ _ _ hb3,tabA_257]);have z0:=frozen_of_row w5 w3.heap.size 257 _ _ hb3;have HN:=hide (OgI.grant (unhide HS2) hgrow ho3);obtain ⟨va3,n3,vc3,rfl⟩:=own_slice ho3;clear hb3 ho3 hgrow)
         | (go_simp;go_at_call 73;refine (unhide HGN _ (by exact (unhide HGQ).drew)).mono ?_;rintro e w' ⟨rfl,hww⟩;obtain rfl:wq.drew=w':=hww.symm))
        all_goals
         go_wp2_with fail
         go_meet
         exact ⟨_,unhide HN⟩
       case rest =>
        rename World=>w5
        obtain ⟨gv2,HC⟩:=hcut
        clear c1 hx y257 z257 hlh hl1 hl3 HS2 HO2 HOFF HGQ HGN
        go_wp2_with fail
        go_loopw [10] (fun cx wy=>∃ (c:Nat) (nv2:Value),cx=.int .i64 (c:Int)∧Hid (c≤fs.length∧OgI w3 wy cl fs.length gv2 nv2 (bs++[y]) (ns++(List.range c).map (nc k)))) (fun cx _=>fs.length - (intOf cx).toNat)
        case atStart=>exact ⟨0,_,rfl,Nat.zero_le _,by simpa using unhide HC⟩
        case round =>
         clear HC
         rename World=>wy
         obtain ⟨c,nv2,rfl,HH⟩:=hrel
         obtain ⟨hc,hI⟩:=unhide HH
         obtain ⟨ms,hms⟩:∃ ms,ms=ns++(List.range c).map (nc k):=⟨_,rfl⟩
         rw [←hms] at hI
         have HMS:=hide hms
         obtain ⟨na2,nn2,rfl⟩:=hI.rn.form
         have HML:Hid (ms.length≤1000):=by
          rw [unhide HMS,List.length_append,unhide HNL,List.length_map,List.length_range]
          have h1:k * fs.length≤24 * 24:=Nat.mul_le_mul (by have:=unhide HLT;have:=unhide H24;omega) (unhide HF24)
          have:=unhide HF24
          show _≤_
          omega
         by_cases hlt:c < fs.length
         ·have hcI:(c:Int) < (fs.length:Int):=by omega
          have HCT:=hide hlt
          obtain ⟨gq,cq,he,hx⟩:=((unhide HFS3).below hI.below).at hlt
          have hlq:gq < wy.heap.size:=by
           rw [he] at HFS3
           exact (((unhide HFS3).below hI.below).lt gq rfl).2
          simp only [Value.slice.injEq,true_and] at he
          obtain ⟨rfl,rfl⟩:=he
          have hl3:w3.heap.size < wy.heap.size:=hI.lt
          have y258:wy.cell? ⟨w3.heap.size,258,none⟩=some (.slice na2 ms.length nn2):=by rw [cell_of_row _ _ _ _ _ _ hI.bT,tabA_258]
          have z258:=frozen_of_row wy w3.heap.size 258 _ _ hI.bT
          have HGQ:=hide ((unhide HG3).below hI.below)
          have HFQ:=hide ((unhide HF3).below hI.below)
          have HNX:Hid (∀ W,GraphB W g hb.length F grs nxs→FoldB W w1.heap.size ks hs→Calls Tryz.prog 74 #[.pointer (some ⟨w1.heap.size,0,none⟩),.pointer (some ⟨g,0,none⟩),.int .i64 (k:Int),.int .i64 ((fs.getD c 0:Nat):Int)] W fun e w'=>e=.returned (.int .i64 ((nc k c:Nat):Int))∧w'=W.drew):=fun W hW hF=>by
           rw [unhide HNC];exact next_any W g w1.heap.size hb.length F grs nxs ks hs hW hF (unhide HSM) (unhide HSF) k _ (unhide HFX c hlt)
          have HYN:Hid (ms++[nc k c]=ns++(List.range (c+1)).map (nc k)):=by
           rw [unhide HMS,map_snoc,List.append_assoc];exact rfl
          generalize fs.getD c 0=x2 at *
          generalize nc k c=z at *
          have HO2:=hide (World.ownsRow.alloc hI.rn (Obj.cells #[.int .i64 (z:Int)] 3))
          have HS2:=hide (hI.alloc (Obj.cells #[.int .i64 (z:Int)] 3)).drew.drew
          have HOFF:Hid (∀ q,(Value.slice na2 ms.length nn2).ownBlock=some q→q≠w3.heap.size):=own_off hI.rn hI.bT (by decide)
          clear hlt hI hc HH hms
          go_upto_region 19 with fail
          go_region_law (first
           | (refine step_append_own (by rfl) _ _ _ (by rfl) w3.heap.size 3 i (.int .i64 0) 1 8 Tryz.underlying37 (unhide HI).1 (unhide HI).2.1 (unhide HI).2.2.1 (unhide HI).2.2.2 rfl (by decide) _ _ _ (by rfl) (by exact unhide HO2) ⟨wy.heap.size,0,none⟩ 1 1 [.int .i64 (z:Int)] (by rfl) rfl (by exact cell_one_new _ _ _) (by intro u hu;simp at hu;subst hu;rfl) (by have:=unhide HML;unfold maxLen;omega) (by have:=unhide HML;omega) (by simp;omega) ?_;intro v' w6 ho3 hgrow;have hb3:w6.heap[w3.heap.size]?=_:=(hgrow.block w3.heap.size (by simp;omega) (fun e=>unhide HOFF _ e.symm rfl)).trans (unhide HS2).bT;have y0:w6.cell? ⟨w3.heap.size,258,none⟩=some (.slice na2 ms.length nn2):=(by rw [cell_of_row _ _ _ _ _ _ hb3,tabA_258]);have z0:=frozen_of_row w6 w3.heap.size 258 _ _ hb3;have HN:=hide (OgI.edge (unhide HS2) hgrow ho3);obtain ⟨va3,n3,vc3,rfl⟩:=own_slice ho3;clear hb3 ho3 hgrow)
           | (go_simp;go_at_call 74;refine (unhide HNX _ (by exact (unhide HGQ).drew) (by exact ⟨(unhide HFQ).ex⟩)).mono ?_;rintro e w' ⟨rfl,hww⟩;obtain rfl:wy.drew.drew=w':=hww.symm))
          all_goals
           go_wp2_with fail
           go_roundw
           case rel=>exact ⟨c+1,by go_num,.slice va3 n3 vc3,unhide HCT,by rw [←unhide HYN];exact unhide HN⟩
           case measure=>have:=unhide HCT;simp [intOf];omega
         ·have hc2:c=fs.length:=by omega
          subst hc2
          have HR:Hid (OgI w3 wy cl fs.length gv2 (.slice na2 ms.length nn2) ((List.range (k+1)).map gr) ((List.range (k+1)).flatMap (fun i=>(List.range fs.length).map (nc i)))):=by
           have e1:ms=(List.range (k+1)).flatMap (fun i=>(List.range fs.length).map (nc i)):=by rw [flat_snoc,←unhide HNS];exact hms
           rw [←unhide HYG,←e1];exact hI
          clear hI hc hms HH hlt
          go_wp2_with fail
          go_roundw
          case rel=>exact ⟨k+1,gv2,_,by go_num,unhide HLT,unhide HR⟩
          case measure=>have:=unhide HLT;simp [intOf];omega
      ·have hk2:k=hs.length:=by omega
       subst hk2
       have HI1:=hide hI
       have hRq:wq.heap[w.heap.size]?=some (.cells zcT 47 (0,0)):=(hI.below.block _ (Array.getElem?_eq_some_iff.1 (unhide HR3)).1).trans (unhide HR3)
       have HRQ:=hide hRq
       have HBQ:Hid (Below w.heap.size w wq):=(unhide HBW3).trans (hI.below.mono (unhide HBW3).size)
       have HS3:Hid (w.heap.size≤w3.heap.size):=(unhide HBW3).size
       clear hI hk hlt h1 h3 HH hbs hns hRq
       go_wp2_with (first
        | refine wpList_load_row rfl 47 _ rfl w3.heap.size rfl 47 _ (0,0) _ (unhide HI1).bT Tryz.underlying47 rfl (by rw [tabA_size];kernel_rfl) ?_
        | refine wpList_store_row rfl 47 _ _ rfl w.heap.size _ rfl rfl 47 _ (unhide HRQ) (by rw [tabA_size];kernel_rfl) (by rw [tabA_size,zcT_size]) (tabA_one _ _ _ _ _ _ _ _) ?_)
       refine bodyPost_ret (v:=.tuple #[.agg (tabA cl fs.length (.slice ga bs.length gc) (.slice na ns.length nn)),.int .i64 0])
        (results_cell_row_tmp (p:=2) (u:=3) (ty:=47) rfl _ _ w.heap.size 47 _ (0,0) _ rfl (setRow_heap _ _ _ _ _ _ (unhide HRQ)) Tryz.underlying47 rfl (by rw [tabA_size];kernel_rfl) _ rfl) rfl
        ⟨below_setRow (unhide HBQ) (Nat.le_refl _) _,.inl ⟨_,rfl,?_⟩⟩
       refine ⟨_,_,_,_,_,_,_,_,rfl,?_,?_,unhide HT2⟩
       ·rw [←unhide HBS];exact own_setRow (ownsRow_less (unhide HI1).rg (unhide HS3)) (own_off (unhide HI1).rg (unhide HRQ) (by decide)) _
       ·rw [←unhide HNS];exact own_setRow (ownsRow_less (unhide HI1).rn (unhide HS3)) (own_off (unhide HI1).rn (unhide HRQ) (by decide)) _
end Go.Proofs.YtobfpgoepaeknaaGreat
namespace Go.Proofs.YtobfpgoepaeknaaGreat
open Go.RowKit
attribute [local go_sem ↓] Go.wp_at_zero Go.wp_at_succ zvG
attribute [local go_sem] zcG_size zcG_ne cells_agg
theorem setRow_alloc2 (w:World) (o:Obj) (A B:Array Value) (t:TypeId):((w.alloc o).alloc (Obj.cells A t)).setRow (w.heap.size+1) B=(w.alloc o).alloc (Obj.cells B t):=by
 have:=setRow_alloc (w.alloc o) A B t
 simpa using this
def dlP (p:Part) (hb:List Nat):Nat→Nat→Nat:=fun s c=>reachP p s &&& fitP p (hb.getD c 0)
theorem dlP_lt {p:Part} (hp:p.Ok) (hb:List Nat) (s c:Nat):dlP p hb s c < 2 ^ p.next.length :=
 Nat.lt_of_le_of_lt Nat.and_le_left (reachN_lt hp.2.2.2 s _)
def GrTo (p:Part) (st:List Nat) (grs:List Bool):Prop:=∀ i,i < grs.length→grs.getD i false=decide (st.getD i 0 &&& p.last≠0)
theorem GrTo.snoc {p:Part} {st:List Nat} {grs:List Bool} (h:GrTo p st grs):GrTo p st (grs++[decide (st.getD grs.length 0 &&& p.last≠0)]):=fun i hi=>by
 by_cases e:i=grs.length
 ·subst e;simp [List.getD_eq_getElem?_getD]
 ·have:i < grs.length:=by simp at hi;omega
  rw [List.getD_eq_getElem?_getD,List.getElem?_append_left this,←List.getD_eq_getElem?_getD];exact h i this
theorem GrTo.more {p:Part} {st:List Nat} {grs:List Bool} (h:GrTo p st grs) (s:Nat) (hl:grs.length≤st.length):GrTo p (st++[s]) grs:=fun i hi=>by
 rw [getD_snoc_old (by omega)];exact h i hi
structure DwJ (w wr:World) (gM:Nat) (p:Part) (F:Nat→Nat) (hb st:List Nat) (e f:Nat) (lv stv:Value):Prop where
 ex:∃ nus nxs grs gv nv nuv,DwI w wr gM p F hb st nus nxs grs lv gv nv stv nuv∧RollOk (2 ^ p.next.length) st nus∧Drawn (2 ^ p.next.length) hb.length (dlP p hb) st e nxs∧GrTo p st grs∧grs.length=f∧f≤st.length
set_option maxRecDepth 20000 in
set_option maxHeartbeats 2000000 in
theorem Draw_any (w:World) (ga:Nat) (p:Part) (hA:AutB w ga p) (hp:p.Ok) (hl:p.next.length≤13) (hl1:1≤p.next.length) :
  Calls Tryz.prog 38 #[.pointer (some ⟨ga,0,none⟩)] w fun e w'=>∃ lv F gv nv hb st nxs grs,e=.returned (.agg (graphA lv F gv nv))∧Below w.heap.size w w'∧NRow w' w.heap.size lv (hb.map (fitP p))∧BRow w' w.heap.size gv grs∧NRow w' w.heap.size nv nxs ∧
   Sorted 256 (fun b b'=>fitP p b=fitP p b') hb F∧Drawn (2 ^ p.next.length) hb.length (dlP p hb) st (st.length * hb.length) nxs∧GrTo p st grs∧grs.length=st.length:=by
 have HA:=hide hA
 have HP:=hide hp
 have HL:=hide hl
 have HL1:=hide hl1
 have hB0:Below w.heap.size w ((w.alloc (.cells zcG 93)).alloc (.cells zcG 93)):=((Below.refl _ _).alloc (Nat.le_refl _) _).alloc (by simp) _
 have HSB:=hide (sortBytes_any _ (w.heap.size+1) ga p (.slice none 0 0) (.slice none 0 0) (hA.below hB0) (heap_alloc2_new w _ (Obj.cells zcG 93)))
 have HB0:=hide hB0
 clear hA hp hl hl1 hB0
 go_enter Tryz.func38,Tryz.ntmps38
 go_wp2_with (refine wpList_store_row0 rfl 93 _ _ rfl rfl (w.heap.size+1) _ rfl rfl 93 _ (heap_alloc2_new w _ (Obj.cells zcG 93)) (by rw [zcG_size];kernel_rfl) (by rw [zcG_size]) (graphA_one _ _ _ _ _ _ _ _ _ _) ?_;rw [setRow_alloc2])
 refine (unhide HSB).mono ?_
 rintro e w1 ⟨rfl,lv,F,hb,hsb⟩
 have hw1:Below w.heap.size w w1:=(unhide HB0).trans ⟨hsb.fr.os,hsb.fr.tape,hsb.fr.output,hsb.fr.size,fun k hk=>hsb.fr.block k (by simp;omega) (by simp;omega)⟩
 have hA1:=(unhide HA).below hw1
 obtain ⟨av,ha,har⟩:=id hA1
 obtain ⟨aa,ac,rfl⟩:=har.form
 have y0:w1.cell? ⟨ga,0,none⟩=some (.slice aa p.next.length ac):=by rw [cell_of_row _ _ _ _ _ _ ha,autA_0]
 have hbR:w1.heap[w.heap.size]?=some (.cells zcG 93 (0,0)):=hsb.fr.at (heap_alloc2_old w _ _) (by simp)
 have hsz:w.heap.size+2≤w1.heap.size:=by have:=hsb.fr.size;simpa using this
 have hnI:(p.next.length:Int)≤13:=by have:=unhide HL;omega
 have HBP:Hid (2 ^ p.next.length≤10000):=by
  have:2 ^ p.next.length≤2 ^ 13:=Nat.pow_le_pow_right (by omega) (unhide HL)
  show _≤_
  omega
 have HMV:Hid (∀ w,Calls Tryz.prog 64 #[.int .i64 1,.int .i64 (p.next.length:Int)] w fun e w'=>e=.returned (.int .i64 ((2 ^ p.next.length:Nat):Int))∧w'=w):=fun w=>by
  have:=move_any 1 p.next.length w (by have:=unhide HL;omega) (by rw [Nat.one_mul];exact pow_top (by have:=unhide HL;omega))
  rwa [Nat.one_mul] at this
 have HB1:Hid (1 < 2 ^ p.next.length):=by
  have:2 ^ 1≤2 ^ p.next.length:=Nat.pow_le_pow_right (by omega) (unhide HL1)
  show _ < _
  omega
 have HPB:Hid (∀ s c,dlP p hb s c < 2 ^ p.next.length):=dlP_lt (unhide HP) hb
 obtain ⟨i,i0,i1,i2,i3⟩:=info_of info3
 have HI:=hide (And.intro i0 (And.intro i1 (And.intro i2 i3)))
 have HSO:=hide hsb.so
 have HHB:Hid (hb.length≤256):=hsb.so.len_le
 have HM0:Hid (0 < hb.length):=(hsb.so.zero (by decide)).1
 -- what lies in memory when the roll has been made
 have h1:Below w1.heap.size w1 ((w1.alloc (.cells (madeCells #[.int .i64 0] (2 ^ p.next.length)) 3)).alloc (.cells #[.slice none 0 0,.slice (some ⟨w1.heap.size,0,none⟩) (2 ^ p.next.length) (2 ^ p.next.length)] 136)):=((Below.refl _ _).alloc (Nat.le_refl _) _).alloc (by simp) _
 have hru:NRow (w1.alloc (.cells (madeCells #[.int .i64 0] (2 ^ p.next.length)) 3)) w.heap.size (.slice (some ⟨w1.heap.size,0,none⟩) (2 ^ p.next.length) (2 ^ p.next.length)) (List.replicate (2 ^ p.next.length) 0):=NRow.new (by omega) (by have:=unhide HBP;unfold maxLen;omega)
 have HD0:Hid (DwI w ((w1.alloc (.cells (madeCells #[.int .i64 0] (2 ^ p.next.length)) 3)).alloc (.cells #[.slice none 0 0,.slice (some ⟨w1.heap.size,0,none⟩) (2 ^ p.next.length) (2 ^ p.next.length)] 136)) (w1.heap.size+1) p F hb [] (List.replicate (2 ^ p.next.length) 0) [] [] lv (.slice none 0 0) (.slice none 0 0) (.slice none 0 0) (.slice (some ⟨w1.heap.size,0,none⟩) (2 ^ p.next.length) (2 ^ p.next.length))) :=
  ⟨hw1.trans (h1.mono hw1.size),(h1.block _ (by omega)).trans hbR,(h1.block _ (by omega)).trans hsb.bg,heap_alloc2_new w1 _ _,by omega,ownsRow_less (hsb.row.below h1) (by simp;omega),World.ownsRow_nil _ _ _ _,World.ownsRow_nil _ _ _ _,World.ownsRow_nil _ _ _ _,World.ownsRow.alloc hru _,(Dj.nil _).symm,(Dj.nil _).symm,fun q h1 h2=>(by have:w1.heap.size=q:=(by simpa [Value.ownBlock] using h2);have:=(hsb.row.lt q h1).2;omega),Dj.nil _,Dj.nil _,Dj.nil _⟩
 have hr0:RollOk (2 ^ p.next.length) [] (List.replicate (2 ^ p.next.length) 0):=RollOk.start
 have HN0:=hide (number_new _ (w1.heap.size+1) w.heap.size _ _ _ _ 1 (unhide HD0).bM (unhide HD0).rs (unhide HD0).ru (unhide HD0).d6 (unhide HD0).below.size (by rw [List.length_replicate];exact unhide HB1) (by rw [List.length_replicate];exact unhide HBP) (by simp) (by simp [List.getD_eq_getElem?_getD,unhide HB1]))
 have HR0:=hide hr0
 have HW1:=hide hw1
 clear i0 i1 i2 i3 ha har hA1 hbR hsb hw1 h1 hru hr0 HB0 HSB
 generalize hq:2 ^ p.next.length=q at *
 have HQ:=hide hq
 have hqI:(q:Int)≤10000:=by have:=unhide HBP;omega
 have HQ2:=HBP
 clear hq
 go_wp2_with (first
  | (go_at_call 64;refine (unhide HMV _).mono ?_;rintro e w' ⟨rfl,hww⟩;obtain rfl:w1=w':=hww.symm)
  | (refine wpList_make_row _ rfl _ _ 37 rfl 3 i (.int .i64 0) Tryz.underlying37 (unhide HI).1 (unhide HI).2.1 (unhide HI).2.2.1 rfl .i64 .i64 q rfl rfl (by rw [(unhide HI).2.2.2];have:=unhide HQ2;omega) (by have:=unhide HQ2;omega) ?_))
 refine (unhide HN0).mono ?_
 rintro e w2 ⟨rfl,g0,cap0,hfr,hlies,hbM,hst,hnu⟩
 have HJ:Hid (∃ stv,DwJ w w2 (w1.heap.size+1) p F hb [1] 0 0 lv stv):=by
  refine ⟨_,⟨_,_,_,_,_,_,(unhide HD0).meet hfr hlies hbM hst hnu,?_,?_,fun i hi=>absurd hi (Nat.not_lt_zero _),rfl,Nat.zero_le _⟩⟩
  ·rw [unhide HQ];exact (unhide HR0).new (unhide HB1)
  ·rw [unhide HQ];exact Drawn.start (unhide HB1)
 clear hfr hlies hbM hst hnu HN0 HD0 HR0 y0
 generalize w1.heap.size+1=gM at *
 obtain ⟨j,j0,j1,j2,j3⟩:=info_of infoBool
 have HJ2:=hide (And.intro j0 (And.intro j1 (And.intro j2 j3)))
 clear j0 j1 j2 j3
 go_wp2_with fail
 go_loopw [5] (fun ix wr=>∃ (m:Nat) (st:List Nat) (stv:Value),ix=.int .i64 (m:Int)∧Hid (m≤st.length∧DwJ w wr gM p F hb st (m * hb.length) m lv stv)) (fun ix _=>q - (intOf ix).toNat)
 case atStart =>
  obtain ⟨stv,h⟩:=unhide HJ
  exact ⟨0,[1],stv,rfl,Nat.zero_le _,by rw [Nat.zero_mul];exact h⟩
 case round =>
  rename_i wr
  obtain ⟨m,st,stv,rfl,HH⟩:=hrel
  obtain ⟨hms,⟨nus,nxs,grs,gv,nv,nuv,hI,hR,hD,hG,hgl,hgs⟩⟩:=unhide HH
  rw [unhide HQ] at hR hD
  have hsq:st.length≤q:=hD.size
  have HSQ:Hid (st.length≤q):=hsq
  have hsI:(st.length:Int)≤10000:=by have:=unhide HQ2;omega
  obtain ⟨sa,sc,rfl⟩:=hI.rs.form
  have c0:wr.cell? ⟨gM,0,none⟩=some (.slice sa st.length sc):=by rw [cell_of_row _ _ _ _ _ _ hI.bM];rfl
  by_cases hlt:m < st.length
  ·have hltI:(m:Int) < (st.length:Int):=by omega
   obtain ⟨gs,caps,he,hc⟩:=hI.rs.at hlt
   simp only [Value.slice.injEq,true_and] at he
   obtain ⟨rfl,rfl⟩:=he
   obtain ⟨ggr,capg,rfl⟩:=hI.rg.form
   have y257:wr.cell? ⟨w.heap.size+1,257,none⟩=some (.slice ggr grs.length capg):=by rw [cell_of_row _ _ _ _ _ _ hI.bG,graphA_257]
   have HLT:=hide hlt
   have hxt:st.getD m 0 < top:=Nat.lt_of_lt_of_le (hD.bound m hlt) (by have:=unhide HQ2;unfold top;omega)
   have HXT:=hide hxt
   have HI1:=hide hI
   have HR:=hide hR
   have HD:=hide hD
   have HG:=hide hG
   have HGL:=hide hgl
   generalize hx:st.getD m 0=x at *
   have HX:=hide hx
   have HAW:=hide ((unhide HA).below hI.below)
   have hg1:w.heap.size+1 < wr.heap.size:=Nat.lt_trans hI.hM hI.lt
   have HGN:Hid (grs.length≤10000):=by have:=unhide HQ2;show _≤_;omega
   have HGR:Hid (∀ W,AutB W ga p→Calls Tryz.prog 66 #[.pointer (some ⟨ga,0,none⟩),.int .i64 (x:Int)] W fun e w'=>e=.returned (.bool (decide (x &&& p.last≠0)))∧w'=W):=fun W hW=>grants_any W ga p x hW (unhide HP) (by have:=unhide HL;omega) (unhide HXT)
   have HRC:Hid (∀ W,AutB W ga p→Calls Tryz.prog 65 #[.pointer (some ⟨ga,0,none⟩),.int .i64 (x:Int)] W fun e w'=>e=.returned (.int .i64 ((reachP p x:Nat):Int))∧w'=W):=fun W hW=>reach_any W ga p x hW (unhide HP) (by have:=unhide HL;omega) (unhide HXT)
   have HRT:Hid (reachP p x < top):=reachP_lt (unhide HP) (by have:=unhide HL;omega) x
   generalize hy:decide (x &&& p.last≠0)=y at *
   have HY:=hide hy
   have HO2:=hide (World.ownsRow.alloc (unhide HI1).rg (Obj.cells #[.bool y] 4))
   have HS2:=hide ((unhide HI1).alloc (Obj.cells #[.bool y] 4)).drew
   have hz257:=frozen_of_row wr (w.heap.size+1) 257 _ _ (unhide HI1).bG
   have HSZ:Hid (w.heap.size≤wr.heap.size):=(unhide HI1).below.size
   have HOFF:Hid (∀ q,(Value.slice ggr grs.length capg).ownBlock=some q→q≠w.heap.size+1):=own_off (unhide HI1).rg (unhide HI1).bG (by decide)
   clear hlt hms hI hR hD hG hgl hgs hsq hxt hx HH hy
   go_upto_region 9 with fail
   go_cut [] from 22 to 65 (fun wx=>∃ v',Hid (DwI w wx gM p F hb st nus nxs (grs++[y]) lv v' nv (.slice (some ⟨gs,0,none⟩) st.length sc) nuv))
   case first =>
    go_region_law (first
     | (refine step_append_own (by rfl) _ _ _ (by rfl) w.heap.size 4 j (.bool false) 1 1 Tryz.underlying45 (unhide HJ2).1 (unhide HJ2).2.1 (unhide HJ2).2.2.1 (unhide HJ2).2.2.2 rfl (by decide) _ _ _ (by rfl) (by exact unhide HO2) ⟨wr.heap.size,0,none⟩ 1 1 [.bool y] (by rfl) rfl (by exact cell_one_new _ _ _) (by intro u hu;simp at hu;subst hu;rfl) (by have:=unhide HGN;unfold maxLen;omega) (by have:=unhide HGN;omega) (by have:=unhide HSZ;simp;omega) ?_;intro v' w3 ho3 hgrow;have hb3:w3.heap[w.heap.size+1]?=_:=(hgrow.block (w.heap.size+1) (by simp;omega) (fun e=>unhide HOFF _ e.symm rfl)).trans (unhide HS2).bG;have y0:w3.cell? ⟨w.heap.size+1,257,none⟩=some (.slice ggr grs.length capg):=(by rw [cell_of_row _ _ _ _ _ _ hb3,graphA_257]);have z0:=frozen_of_row w3 (w.heap.size+1) 257 _ _ hb3;have HN:=hide (DwI.grant (unhide HS2) hgrow ho3);obtain ⟨va3,n3,vc3,rfl⟩:=own_slice ho3;clear hb3 ho3 hgrow)
     | (go_simp;go_at_call 66;refine (unhide HGR _ (by exact (unhide HAW).drew)).mono ?_;rintro e w' ⟨rfl,hww⟩;obtain rfl:wr.drew=w':=hww.symm))
    all_goals
     go_wp2_with fail
     go_meet
     exact ⟨_,unhide HN⟩
   case rest =>
    rename World=>w3
    obtain ⟨v',HC⟩:=hcut
    clear c0 hc y257 hg1 hz257 HI1 HAW HS2 HO2 HOFF HSZ HGR
    have HAW:=hide ((unhide HA).below (unhide HC).below)
    go_wp2_with fail
    refine (unhide HRC _ (unhide HAW)).mono ?_
    rintro e w4 ⟨rfl,hww⟩
    obtain rfl:w3=w4:=hww.symm
    clear hww HRC
    have HJ3:Hid (DwJ w w3 gM p F hb st (m * hb.length+0) (m+1) lv (.slice (some ⟨gs,0,none⟩) st.length sc)):=by
     refine ⟨_,_,_,_,_,_,unhide HC,by rw [unhide HQ];exact unhide HR,by rw [unhide HQ];exact unhide HD,?_,by simp [unhide HGL],by have:=unhide HLT;omega⟩
     have:=(unhide HG).snoc
     rw [unhide HGL,unhide HX,unhide HY] at this
     exact this
    clear HC HR HD HG HGL
    go_wp2_with fail
    go_loopw [8] (fun kx w6=>∃ (k:Nat) (st2:List Nat) (stv2:Value),kx=.int .i64 (k:Int)∧Hid (k≤hb.length∧DwJ w w6 gM p F hb st2 (m * hb.length+k) (m+1) lv stv2∧st2.getD m 0=x)) (fun kx _=>hb.length - (intOf kx).toNat)
    case atStart=>exact ⟨0,st,_,rfl,Nat.zero_le _,unhide HJ3,unhide HX⟩
    case round =>
     rename World=>w6
     obtain ⟨k,st2,stv2,rfl,HH⟩:=hrel
     obtain ⟨hk,⟨nus2,nxs2,grs2,gv2,nv2,nuv2,hI,hR,hD,hG,hgl,hgs⟩,hx2⟩:=unhide HH
     rw [unhide HQ] at hR hD
     obtain ⟨la,lc,hlv⟩:=hI.rl.form
     rw [List.length_map] at hlv
     subst hlv
     have y0:w6.cell? ⟨w.heap.size+1,0,none⟩=some (.slice la hb.length lc):=by rw [cell_of_row _ _ _ _ _ _ hI.bG,graphA_0]
     have hbI:(hb.length:Int)≤256:=by have:=unhide HHB;omega
     have HI1:=hide hI
     by_cases hlt:k < hb.length
     ·have hltI:(k:Int) < (hb.length:Int):=by omega
      obtain ⟨gl,capl,he,hc⟩:=hI.rl.at (k:=k) (by rw [List.length_map];exact hlt)
      rw [getD_map_fit p hlt] at hc
      simp only [Value.slice.injEq,List.length_map,true_and] at he
      obtain ⟨rfl,rfl⟩:=he
      have HLT2:=hide hlt
      have HSL:Hid (st2.length≤q):=hD.size
      have hs:dlP p hb x k < q:=unhide HPB x k
      have HS:=hide hs
      have e1:=i64_and_nat _ _ (unhide HRT) (fitP_lt (unhide HP) (by have:=unhide HL;omega) (hb.getD k 0))
      have HR:=hide hR
      have HD:=hide hD
      have HG:=hide hG
      have HGL:=hide hgl
      have HGS:=hide hgs
      have HX2:=hide hx2
      have hdm:(m * hb.length+k) / hb.length=m∧(m * hb.length+k) % hb.length=k:=edge_div hlt
      have HDM:=hide hdm
      have hnl:nxs2.length=m * hb.length+k:=hD.len
      have HNL:Hid (nxs2.length≤2560000):=by
       have h1:m * hb.length≤10000 * 256:=Nat.mul_le_mul (by have:=unhide HQ2;omega) (unhide HHB)
       have h2:(m+1) * hb.length≤10000 * 256:=Nat.mul_le_mul (by have:=unhide HQ2;omega) (unhide HHB)
       rw [Nat.add_mul] at h2
       show _≤_
       omega
      generalize hdl:dlP p hb x k=s at *
      have hsd:reachP p x &&& fitP p (hb.getD k 0)=s:=hdl
      rw [hsd] at e1
      have HDL:=hide hdl
      have hg1:w.heap.size+1 < w6.heap.size:=Nat.lt_trans hI.hM hI.lt
      obtain ⟨na2,nc2,rfl⟩:=hI.rn.form
      clear hlt hk hI hR hD hG hgl hgs hx2 HH hdl hsd hdm hnl hs
      generalize fitP p (hb.getD k 0)=yf at *
      generalize reachP p x=rx at *
      go_upto_region 14 with fail
      go_cut [9] from 45 to 65 (fun nx wx=>∃ (n:Nat) (st3 nus3:List Nat) (stv3:Value),nx=.int .i64 (n:Int)∧Hid (DwI w wx gM p F hb st3 nus3 nxs2 grs2 (.slice (some ⟨gl,0,none⟩) hb.length lc) gv2 (.slice na2 nxs2.length nc2) stv3 nuv2∧RollOk q st3 nus3∧Drawn q hb.length (dlP p hb) st3 (m * hb.length+k+1) (nxs2++[n])∧GrTo p st3 grs2∧m+1≤st3.length∧st3.getD m 0=x))
      case first =>
       by_cases h0:nus2.getD s 0=0
       ·have HN1:=hide (number_new _ gM w.heap.size _ _ _ _ s (unhide HI1).bM (unhide HI1).rs (unhide HI1).ru (unhide HI1).d6 (unhide HI1).below.size (by rw [(unhide HR).len];exact unhide HS) (by rw [(unhide HR).len];exact unhide HQ2) (Nat.le_trans (unhide HSL) (unhide HQ2)) h0)
        have HH0:=hide h0
        clear h0
        go_wp2_with fail
        refine (unhide HN1).mono ?_
        rintro e w7 ⟨rfl,g3,cap3,hfr,hlies,hbM,hst,hnu⟩
        have HM7:=hide ((unhide HI1).meet hfr hlies hbM hst hnu)
        clear hfr hlies hbM hst hnu
        go_wp2_with fail
        go_meet
        have hml:=unhide HGS
        refine ⟨_,_,_,_,rfl,unhide HM7,(unhide HR).new (unhide HS),(unhide HD).new (unhide HM0) (by rw [(unhide HDM).1];omega) (by rw [(unhide HDM).1,(unhide HDM).2,unhide HX2];exact (unhide HDL).symm) (unhide HS) ((unhide HR).no s (unhide HS) (unhide HH0)),(unhide HG).more s (by rw [unhide HGL];exact hml),by simp;omega,by rw [getD_snoc_old (by omega)];exact unhide HX2⟩
       ·obtain ⟨n,hn⟩:∃ n,nus2.getD s 0=n+1:=⟨nus2.getD s 0 - 1,by omega⟩
        have hyes:=(unhide HR).yes s (unhide HS) h0
        rw [hn,Nat.add_sub_cancel] at hyes
        have HYES:=hide hyes
        have HN1:=hide (number_old _ gM w.heap.size _ _ _ s n (unhide HI1).bM (unhide HI1).ru (by rw [(unhide HR).len];exact unhide HS) (by rw [(unhide HR).len];exact unhide HQ2) hn (by have:=unhide HSL;have:=unhide HQ2;omega))
        clear h0 hn hyes
        go_wp2_with fail
        refine (unhide HN1).mono ?_
        rintro e w7 ⟨rfl,hww⟩
        obtain rfl:w6=w7:=hww.symm
        clear hww
        go_wp2_with fail
        go_meet
        have hml:=unhide HGS
        exact ⟨_,_,_,_,rfl,unhide HI1,unhide HR,(unhide HD).old (unhide HM0) (by rw [(unhide HDM).1];omega) (unhide HYES).1 (by rw [(unhide HDM).1,(unhide HDM).2,unhide HX2,(unhide HYES).2];exact (unhide HDL).symm),unhide HG,hml,unhide HX2⟩
      case rest =>
       rename World=>w7
       obtain ⟨n,st3,nus3,stv3,rfl,HC⟩:=hcut
       clear y0 hc hg1 HI1 HR HD HG HX2 HGS
       have HO2:=hide (World.ownsRow.alloc (unhide HC).1.rn (Obj.cells #[.int .i64 (n:Int)] 3))
       have HS2:=hide ((unhide HC).1.alloc (Obj.cells #[.int .i64 (n:Int)] 3))
       have y258:w7.cell? ⟨w.heap.size+1,258,none⟩=some (.slice na2 nxs2.length nc2):=by rw [cell_of_row _ _ _ _ _ _ (unhide HC).1.bG,graphA_258]
       have HOFF:Hid (∀ q,(Value.slice na2 nxs2.length nc2).ownBlock=some q→q≠w.heap.size+1):=own_off (unhide HC).1.rn (unhide HC).1.bG (by decide)
       have HSZ:Hid (w.heap.size≤w7.heap.size):=(unhide HC).1.below.size
       have hg1:w.heap.size+1 < w7.heap.size:=Nat.lt_trans (unhide HC).1.hM (unhide HC).1.lt
       go_wp2_with (at_builtin;refine wpList_append_lies _ rfl (.tmp 61) (.tmp 63) 37 rfl w.heap.size 3 i (.int .i64 0) 1 8 Tryz.underlying37 (unhide HI).1 (unhide HI).2.1 (unhide HI).2.2.1 (unhide HI).2.2.2 rfl (by decide) _ _ _ rfl (unhide HO2) ⟨w7.heap.size,0,none⟩ 1 1 [.int .i64 (n:Int)] rfl rfl (cell_one_new _ _ _) (by intro u hu;simp at hu;subst hu;rfl) (by decide) (by have:=unhide HNL;unfold maxLen;omega) (by have:=unhide HNL;omega) (by have:=unhide HSZ;simp;omega) (w7.heap.size+1) (by simp) ?_;intro g5 cap5 w8 ho hgrow hlies hlt5;have hb3:w8.heap[w.heap.size+1]?=_:=(hgrow.block (w.heap.size+1) (by simp;omega) (fun e=>unhide HOFF _ e.symm rfl)).trans (unhide HS2).bG;have y8:w8.cell? ⟨w.heap.size+1,258,none⟩=some (.slice na2 nxs2.length nc2):=(by rw [cell_of_row _ _ _ _ _ _ hb3,graphA_258]);have z8:=frozen_of_row w8 (w.heap.size+1) 258 _ _ hb3;have HN:=hide (DwI.edge (unhide HS2) hgrow ho (hlies.elim Or.inl (fun e=>Or.inr (by rw [e];simp))));clear hb3 ho hgrow hlies)
       go_roundw
       case rel =>
        obtain ⟨c1,c2,c3,c4,c5,c6⟩:=unhide HC
        exact ⟨k+1,st3,_,by go_num,unhide HLT2,⟨_,_,_,_,_,_,unhide HN,by rw [unhide HQ];exact c2,by rw [unhide HQ];exact c3,c4,unhide HGL,c5⟩,c6⟩
       case measure=>have:=unhide HLT2;simp [intOf];omega
     ·have hk2:k=hb.length:=by omega
      subst hk2
      have HRES:Hid (m+1≤st2.length∧DwJ w w6 gM p F hb st2 ((m+1) * hb.length) (m+1) (.slice la hb.length lc) stv2):=by
       refine ⟨hgs,⟨nus2,nxs2,grs2,gv2,nv2,nuv2,hI,?_,?_,hG,hgl,hgs⟩⟩
       ·rw [unhide HQ];exact hR
       ·rw [unhide HQ,Nat.add_mul,Nat.one_mul];exact hD
      have HMQ:Hid (m+1≤q):=Nat.le_trans hgs hD.size
      clear hI hR hD hG hgl hgs hx2 HH
      go_wp2
      go_roundw
      case rel=>exact ⟨m+1,st2,stv2,by go_num,unhide HRES⟩
      case measure=>have:=unhide HMQ;simp [intOf];omega
  ·have hk2:m=st.length:=by omega
   subst hk2
   have HI1:=hide hI
   have HR:=hide hR
   have HD:=hide hD
   have HG:=hide hG
   have HGL:=hide hgl
   obtain ⟨ggr,capg,rfl⟩:=hI.rg.form
   obtain ⟨nna,ncn,rfl⟩:=hI.rn.form
   obtain ⟨la,lc,rfl⟩:=hI.rl.form
   clear hI hR hD hG hgl hgs hsq hms HH
   go_wp2_with (first
    | refine wpList_load_row rfl 93 _ rfl (w.heap.size+1) rfl 93 _ (0,0) _ (unhide HI1).bG Tryz.underlying93 rfl (by rw [graphA_size];kernel_rfl) ?_
    | refine wpList_store_row rfl 93 _ _ rfl w.heap.size _ rfl rfl 93 _ (unhide HI1).bR (by rw [graphA_size];kernel_rfl) (by rw [graphA_size,zcG_size]) (graphA_one _ _ _ _ _ _ _ _ _ _) ?_)
   refine bodyPost_ret (v:=.agg (graphA (.slice la (hb.map (fitP p)).length lc) F (.slice ggr grs.length capg) (.slice nna nxs.length ncn)))
    (results_cell_row (p:=2) (ty:=93) rfl _ _ w.heap.size 93 _ (0,0) _ rfl (setRow_heap _ _ _ _ _ _ (unhide HI1).bR) Tryz.underlying93 rfl (by rw [graphA_size];kernel_rfl)) rfl
    ⟨_,_,_,_,hb,st,nxs,grs,rfl,below_setRow (unhide HI1).below (Nat.le_refl _) _,own_setRow (unhide HI1).rl (own_off (unhide HI1).rl (unhide HI1).bR (by decide)) _,own_setRow (unhide HI1).rg (own_off (unhide HI1).rg (unhide HI1).bR (by decide)) _,own_setRow (unhide HI1).rn (own_off (unhide HI1).rn (unhide HI1).bR (by decide)) _,unhide HSO,by rw [unhide HQ];exact unhide HD,unhide HG,unhide HGL⟩
end Go.Proofs.YtobfpgoepaeknaaGreat
