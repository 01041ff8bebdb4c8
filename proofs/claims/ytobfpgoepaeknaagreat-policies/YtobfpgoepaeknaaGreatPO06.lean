/-
  The reader of patterns: a set is laid behind the others, and a node for it.
  The reader of patterns: addSet.
  The reader of patterns: suffixes; what its smaller methods do to a reader with nodes and sets.
  The reader of patterns: atoms, pieces, branches, patterns.
-/
import Derived.Test.YtobfpgoepaeknaaGreatPO05
import Derived.Test.YtobfpgoepaeknaaGreatPO04
namespace Go.Proofs.YtobfpgoepaeknaaGreat
open Go.RowKit
theorem info84:(Tryz.prog.info? 132).map (fun i=>(i.zero,i.size,i.bytes))=some (some (.agg (setA fun _=>false)),256,256):=by kernel_rfl
theorem load_set (w:World) (f:Nat→Bool) :
  (Instr.loadAt 132 (.pointer (some ⟨w.heap.size,0,none⟩))).run Tryz.prog (w.alloc (Obj.cells (setA f) 132)).drew=.ok (.agg (setA f)) (w.alloc (Obj.cells (setA f) 132)).drew:=by
 have:=run_loadVar_row (P:=Tryz.prog) (w.alloc (Obj.cells (setA f) 132)).drew w.heap.size 132 132 (setA f) (0,0) _ (heap_alloc_new w _) Tryz.underlying132 rfl (by rw [size_setA];kernel_rfl)
 simp only [Instr.loadAt,Instr.sureAddr,Sem.run_bind,Sem.run_pure,Result.andThen_ok]
 exact this
theorem lay_from:∀ (l:List Value) (k:Nat) (a:Array Value),k+l.length≤a.size →
  ((l.zipIdx k).foldl (fun (acc:Array Value) (x:Value × Nat)=>acc.setIfInBounds (0+x.2) x.1) a)=(a.toList.take k++l++a.toList.drop (k+l.length)).toArray
 | [],k,a,_=>by simp
 | v ::l,k,a,h=>by
  have hlt:k < a.size:=by simp at h;omega
  rw [List.zipIdx_cons,List.foldl_cons,lay_from l (k+1) _ (by simp at h ⊢;omega)]
  apply Array.toList_inj.1
  simp only [Array.toList_setIfInBounds,Nat.zero_add]
  apply List.ext_getElem?
  intro j
  simp only [List.getElem?_append,List.length_take,List.length_set,Array.length_toList,List.length_append,List.length_cons,List.getElem?_take,List.getElem?_set,List.getElem?_drop,List.getElem?_cons]
  by_cases h1:j < k
  ·simp [h1,show j < k+1 by omega,show min (k+1) a.size=k+1 by omega,show min k a.size=k by omega,show ¬k=j by omega,show j < k+1+l.length by omega,show j < k+(l.length+1) by omega]
  ·by_cases h2:j=k
   ·subst h2
    simp [show min (j+1) a.size=j+1 by omega,show min j a.size=j by omega,hlt,show j < j+1+l.length by omega]
   ·by_cases h3:j < k+(l.length+1)
    ·simp [h1,h3,show ¬j < k+1 by omega,show min (k+1) a.size=k+1 by omega,show min k a.size=k by omega,show j < k+1+l.length by omega,show ¬j - k=0 by omega,show j - (k+1)=j - k - 1 by omega]
    ·simp [h3,show min (k+1) a.size=k+1 by omega,show min k a.size=k by omega,show ¬j < k+1+l.length by omega]
     rw [if_neg (by omega)]
     congr 1
     omega
theorem lay_all (cs a:Array Value) (h:cs.size=a.size) :
  (cs.zipIdx.foldl (fun (acc:Array Value) (x:Value × Nat)=>acc.setIfInBounds (0+x.2) x.1) a)=cs:=by
 rw [←Array.foldl_toList,Array.toList_zipIdx,lay_from cs.toList 0 a (by simp;omega)]
 have e:List.drop (0+cs.toList.length) a.toList=[]:=List.drop_eq_nil_of_le (by simp;omega)
 rw [e]
 simp
theorem fill_one (c cs:Array Value) (n:Nat) (hc:c.size=n) (hs:cs.size=n):Instr.fill (fun i=>some (i * n,n)) c [(0,Value.agg cs)]=some cs:=by
 subst hc
 simp only [Instr.fill,Value.cells,Nat.zero_mul]
 rw [lay_all cs c hs]
 simp [hs]
theorem build_one {P:Program} (w:World) (t e:TypeId) (ie:TypeInfo) (z:Value) (cs:Array Value) (hu:P.underlying t=some (.slice e)) (hie:P.info? e=some ie) (hz:ie.zero=some z)
  (hs:cs.size=ie.size) (hsmall:¬1 * ie.size > 2 ^ 24) (hpos:¬1 * ie.size=0) :
  (Instr.buildSlice t 1 #[(0,.agg cs)]).run P w=.ok (.slice (some ⟨w.heap.size,0,none⟩) 1 1) (w.alloc (Obj.cells cs e)):=by
 have hf:=fill_one ((Array.range (1 * ie.size)).map (z.cells[· % z.cells.size]!)) cs ie.size (by simp) hs
 simp [Instr.buildSlice,run_underlying hu,sizeOf,typeInfo,zeroValue,hie,hz,newRow] at hf ⊢
 rw [if_neg (by omega),if_neg (by omega)]
 simp [hf]
theorem build_set (w:World) (f:Nat→Bool) :
  (Instr.buildSlice 84 1 #[(0,.agg (setA f))]).run Tryz.prog w=.ok (.slice (some ⟨w.heap.size,0,none⟩) 1 1) (w.alloc (Obj.cells (setA f) 132)):=by
 obtain ⟨i,i0,i1,i2,i3⟩:=info_of info84
 exact build_one w _ _ i _ (setA f) Tryz.underlying84 i0 i1 (by rw [size_setA,i2]) (by rw [i2];decide) (by rw [i2];decide)
end Go.Proofs.YtobfpgoepaeknaaGreat
namespace Go.Proofs.YtobfpgoepaeknaaGreat
open Go.RowKit
theorem wp_load_set (w:World) (f:Nat→Bool) (d:Option Tmp) (x:Operand) (ty:TypeId) (pos:String) (af:Array Edge) (gd:Option (Nat × Bool)) (a:Act) (K:Act→World→Prop) (Q:Exit→Act→World→Prop)
  (hx:a.eval x=.pointer (some ⟨w.heap.size,0,none⟩)) :
  Oper.wp Tryz.prog { dst:=d,op:=.load 132 x,type:=ty,pos:=pos,after:=af,guard:=gd } a (w.alloc (Obj.cells (setA f) 132)).drew K Q=K (a.put d (.agg (setA f))) (w.alloc (Obj.cells (setA f) 132)).drew:=by
 unfold Oper.wp execOp
 simp only [hx,Sem.run_bind,Sem.run_pure,Result.andThen_ok,load_set]
 rfl
theorem wp_build_set (w:World) (f:Nat→Bool) (d:Option Tmp) (x:Operand) (ty:TypeId) (pos:String) (af:Array Edge) (gd:Option (Nat × Bool)) (a:Act) (K:Act→World→Prop) (Q:Exit→Act→World→Prop)
  (hx:a.eval x=.agg (setA f)) :
  Oper.wp Tryz.prog { dst:=d,op:=.buildSlice 84 1 #[(0,x)],type:=ty,pos:=pos,after:=af,guard:=gd } a (w.alloc (Obj.cells (setA f) 132)).drew K Q=K (a.put d (.slice (some ⟨w.heap.size+1,0,none⟩) 1 1)) (((w.alloc (Obj.cells (setA f) 132)).alloc (Obj.cells (setA f) 132)).drew):=by
 have hb:=build_set (w.alloc (Obj.cells (setA f) 132)).drew f
 have hz:(w.alloc (Obj.cells (setA f) 132)).drew.heap.size=w.heap.size+1:=by simp
 rw [hz] at hb
 unfold Oper.wp execOp
 simp only [List.map_toArray,List.map_cons,List.map_nil,hx,Sem.run_bind,Sem.run_pure,Result.andThen_ok,hb]
 rfl
attribute [local go_sem ↓] wp_load_set wp_build_set
theorem cells_agg (cs:Array Value):(Value.agg cs).cells=cs:=rfl
theorem zsz:(Value.agg (setA fun _=>false)).cells.size=256:=by rw [cells_agg,size_setA]
theorem pos256:0 < 256:=by omega
theorem len_setA (f:Nat→Bool):(setA f).toList.length=1 * 256:=by rw [Array.length_toList,size_setA]
theorem setA_toList_one (f:Nat→Bool):∀ u∈(setA f).toList,u.oneCell'=true:=by
 intro u hu
 have:=Array.all_eq_true_iff_forall_mem.1 (setA_one f) u (by simpa using hu)
 exact this
theorem addSet_fin {w W w':World} {b:Nat} {t:ByteArray} {s:S1} {nv sv v':Value} {ns:List Nd} {fs:List (Nat→Bool)} {f:Nat→Bool} (hb:b < w.heap.size) (hW:Below b w W)
  (h1:Rd1 W b t s nv sv) (h2:W.ownsRow (b+1) 186 6 nv ns.length (nodeCells ns)) (h3:W.ownsRow (b+1) 132 256 sv fs.length (setsCells fs))
  (hg:W.grownBy w' sv.ownBlock) (ho:w'.ownsRow (b+1) 132 256 v' (fs.length+1) (setsCells fs++(setA f).toList)) :
  Post2 w (w'.setCell ⟨b,4,none⟩ v') b t s ns (fs++[f]):=by
 have hsz:=hW.size
 refine ⟨(hW.trans (below_grown hg (by omega) (fun k hk=>by have:=(h3.lt k hk).1;omega))).setCell (Nat.le_refl _) _,nv,v',setSets (h1.kept hg (own_ne h3)),?_,?_⟩
 ·exact ownsRow_setCell_below (h2.kept hg (rows_apart (by decide) h2 h3)) (by simp) _
 ·refine ownsRow_setCell_below ?_ (by simp) _
  rw [setsCells_snoc]
  simpa using ho
set_option maxHeartbeats 400000 in
theorem addSet_any (w:World) (b:Nat) (t:ByteArray) (s:S1) (ns:List Nd) (fs:List (Nat→Bool)) (f:Nat→Bool) (h:Rd2 w b t s ns fs) (hn:ns.length≤1000) (hn':fs.length≤1000) :
  Calls Tryz.prog 166 #[.pointer (some ⟨b,0,none⟩),.agg (setA f)] w fun e w' =>
   e=.returned (.int .i64 (ns.length:Int))∧Post2 w w' b t s (ns++[⟨1,0,0,0,0,(fs.length:Int)⟩]) (fs++[f]):=by
 obtain ⟨nv,sv,h1,h2,h3⟩:=h
 obtain ⟨c0,c1,c2,c3,c4⟩:=h1.cells
 obtain ⟨f1,f2,f3,f4⟩:=h1.unfrozen
 obtain ⟨i,i0,i1,i2,i3⟩:=info_of info84
 have hbl:=h1.lt
 have H2:=hide ((h2.alloc (Obj.cells (setA f) 132)).alloc (Obj.cells (setA f) 132))
 have H3:=hide ((h3.alloc (Obj.cells (setA f) 132)).alloc (Obj.cells (setA f) 132))
 have HC:Hid (∀ j u,(setA f).toList[j]?=some u→((w.alloc (Obj.cells (setA f) 132)).alloc (Obj.cells (setA f) 132)).cell? ((⟨w.heap.size+1,0,none⟩:Addr).add j)=some u):=by
  have:=cells_new (w.alloc (Obj.cells (setA f) 132)) (setA f).toList 132
  simp only [Array.toArray_toList,World.size_alloc] at this
  exact this
 have H1:=hide (((Post1.refl h1).alloc (Obj.cells (setA f) 132)).alloc (Obj.cells (setA f) 132))
 have HI:=hide (And.intro i0 (And.intro i1 (And.intro i2 i3)))
 have HN:=hide hn
 have HN':=hide hn'
 have HO:=hide (own_ne h3)
 have hL:(fs.length:Int)≤1000:=by omega
 clear i0 i1 i2 i3 h1 h2 h3 hn hn'
 go_enter Tryz.func166,Tryz.ntmps166
 go_wp2
 go_region_law (refine step_append_own rfl (.tmp 10) (.tmp 12) 84 rfl (b+1) 132 i (.agg (setA fun _=>false)) 256 256 Tryz.underlying84 (unhide HI).1 (unhide HI).2.1 (unhide HI).2.2.1 (unhide HI).2.2.2 zsz pos256 sv fs.length (setsCells fs) (by simp [Act.eval]) (by exact unhide H3) ⟨w.heap.size+1,0,none⟩ 1 1 (setA f).toList (by simp [Act.eval]) (len_setA f) (by exact unhide HC) (setA_toList_one f) (by have:=unhide HN';unfold maxLen;omega) (by have:=unhide HN';omega) (by simp;omega) ?_;intro v' w' ho hg';have hr':=Rd1.kept (h:=by exact (unhide H1).2) hg' (unhide HO);obtain ⟨d0,d1,d2,d3,d4⟩:=hr'.cells;obtain ⟨g1,g2,g3,g4⟩:=hr'.unfrozen;obtain ⟨g,cap,hv⟩:=own_form ho;subst hv;have HG:=hide hg';have HO':=hide ho;have HR':=hide hr';clear hg' ho hr')
 all_goals
  have P3:=addSet_fin hbl (by exact (((Below.refl b w).alloc (by omega) _).alloc (by simp;omega) _).drew) (by exact (unhide H1).2) (by exact unhide H2) (by exact unhide H3) (unhide HG) (unhide HO')
  have HP3:=hide P3
  clear P3
  go_wp2_with fail
  refine (add_any _ b t s ns (fs++[f]) ⟨1,0,0,0,0,(fs.length:Int)⟩ (unhide HP3).2 (unhide HN)).mono ?_
  rintro e w5 ⟨rfl,hw5⟩
  go_wp2
  go_ret
  exact ⟨rfl,(unhide HP3).1.trans hw5.1,hw5.2⟩
end Go.Proofs.YtobfpgoepaeknaaGreat
namespace Go.Proofs.YtobfpgoepaeknaaGreat
open Go.RowKit
def RdS (w:World) (b:Nat) (t:ByteArray) (x:St):Prop:=Rd2 w b t x.s x.ns x.fs
def PostS (w w':World) (b:Nat) (t:ByteArray) (x:St):Prop:=Below b w w'∧RdS w' b t x
section
variable {w w' w1 : World} {b : Nat} {t : ByteArray} {x y : St} {s : S1}
theorem PostS.refl (h:RdS w b t x):PostS w w b t x:=⟨Below.refl _ _,h⟩
theorem PostS.trans (h:PostS w w1 b t x) (k:PostS w1 w' b t y):PostS w w' b t y:=⟨h.1.trans k.1,k.2⟩
theorem PostS.drewN (h:PostS w w1 b t x) (n:Nat):PostS w (w1.drewN n) b t x:=⟨below_drewN h.1 n,h.2⟩
theorem PostS.below (h:PostS w w1 b t x) (hb:Below w1.heap.size w1 w'):PostS w w' b t x:=by
 obtain ⟨nv,sv,h1,h2,h3⟩:=h.2
 have hg:=grownBy_of_below hb none
 refine ⟨h.1.trans (hb.mono (Nat.le_of_lt h1.lt)),nv,sv,h1.kept hg (by simp),h2.kept hg (by cases nv.ownBlock<;>simp),h3.kept hg (by cases sv.ownBlock<;>simp)⟩
theorem lift1 {nv sv:Value} (h1:Rd1 w b t x.s nv sv) (h2:w.ownsRow (b+1) 186 6 nv x.ns.length (nodeCells x.ns)) (h3:w.ownsRow (b+1) 132 256 sv x.fs.length (setsCells x.fs))
  (hp:Post1 w w' b t s nv sv):PostS w w' b t (x.at s) :=
 ⟨below_grown hp.1 (Nat.le_of_lt h1.lt) (fun k hk=>by simp at hk;omega),nv,sv,hp.2,h2.kept hp.1 (Or.inr (own_ne h2).symm),h3.kept hp.1 (Or.inr (own_ne h3).symm)⟩
end
theorem take_S (w:World) (b:Nat) (t:ByteArray) (x:St) (c:Int) (h:RdS w b t x) (ht:t.size≤60) (hk:x.s.k≤t.size) :
  Calls Tryz.prog 104 #[.pointer (some ⟨b,0,none⟩),.int .i64 c] w fun e w' =>
   e=.returned (.bool (x.s.pk t == c))∧PostS w w' b t (x.at (takeS t c x.s)):=by
 obtain ⟨nv,sv,h1,h2,h3⟩:=h
 refine (take_any w b t x.s nv sv c h1 ht hk).mono ?_
 rintro e w' ⟨rfl,hp⟩
 exact ⟨rfl,lift1 h1 h2 h3 hp⟩
theorem expect_S (w:World) (b:Nat) (t:ByteArray) (x:St) (c:Int) (h:RdS w b t x) (ht:t.size≤60) (hk:x.s.k≤t.size) :
  Calls Tryz.prog 164 #[.pointer (some ⟨b,0,none⟩),.int .i64 c] w fun e w' =>
   e=.returned (.tuple #[])∧PostS w w' b t (x.at (expectS t c x.s)):=by
 obtain ⟨nv,sv,h1,h2,h3⟩:=h
 refine (expect_any w b t x.s nv sv c h1 ht hk).mono ?_
 rintro e w' ⟨rfl,hp⟩
 exact ⟨rfl,lift1 h1 h2 h3 hp⟩
theorem readDigit_S (w:World) (b:Nat) (t:ByteArray) (x:St) (c:Int) (h:RdS w b t x) (ht:t.size≤60) (hk:x.s.k≤t.size) :
  Calls Tryz.prog 170 #[.pointer (some ⟨b,0,none⟩),.int .i64 c] w fun e w' =>
   e=.returned (.int .i64 (readDigitS t c x.s).1)∧PostS w w' b t (x.at (readDigitS t c x.s).2):=by
 obtain ⟨nv,sv,h1,h2,h3⟩:=h
 refine (readDigit_any w b t x.s nv sv c h1 ht hk).mono ?_
 rintro e w' ⟨rfl,hp⟩
 exact ⟨rfl,lift1 h1 h2 h3 hp⟩
theorem readByte_S (w:World) (b:Nat) (t:ByteArray) (x:St) (h:RdS w b t x) (ht:t.size≤60) (hk:x.s.k≤t.size) :
  Calls Tryz.prog 168 #[.pointer (some ⟨b,0,none⟩)] w fun e w' =>
   e=.returned (.int .i64 (readByteS t x.s).1)∧PostS w w' b t (x.at (readByteS t x.s).2):=by
 obtain ⟨nv,sv,h1,h2,h3⟩:=h
 refine (readByte_any w b t x.s nv sv h1 ht hk).mono ?_
 rintro e w' ⟨rfl,hp⟩
 exact ⟨rfl,lift1 h1 h2 h3 hp⟩
theorem readSet_S (w:World) (b:Nat) (t:ByteArray) (x:St) (h:RdS w b t x) (ht:t.size≤60) (hk:x.s.k≤t.size) :
  Calls Tryz.prog 165 #[.pointer (some ⟨b,0,none⟩)] w fun e w' =>
   e=.returned (.agg (setA (readSetS t x.s).1))∧PostS w w' b t (x.at (readSetS t x.s).2):=by
 obtain ⟨nv,sv,h1,h2,h3⟩:=h
 refine (readSet_any w b t x.s nv sv h1 ht hk).mono ?_
 rintro e w' ⟨rfl,hp⟩
 exact ⟨rfl,lift1 h1 h2 h3 hp⟩
theorem atAtom_S (w:World) (b:Nat) (t:ByteArray) (x:St) (h:RdS w b t x) (ht:t.size≤60) (hk:x.s.k≤t.size) :
  Calls Tryz.prog 144 #[.pointer (some ⟨b,0,none⟩)] w fun e w' =>
   e=.returned (.bool (atAtomB (x.s.pk t)))∧PostS w w' b t x:=by
 obtain ⟨nv,sv,h1,h2,h3⟩:=h
 refine (atAtom_any w b t x.s nv sv h1 ht hk).mono ?_
 rintro e w' ⟨rfl,n,rfl⟩
 exact ⟨rfl,(PostS.refl ⟨nv,sv,h1,h2,h3⟩).drewN n⟩
theorem atSuffix_S (w:World) (b:Nat) (t:ByteArray) (x:St) (h:RdS w b t x) (ht:t.size≤60) (hk:x.s.k≤t.size) :
  Calls Tryz.prog 159 #[.pointer (some ⟨b,0,none⟩)] w fun e w' =>
   e=.returned (.bool (atSuffixB (x.s.pk t)))∧PostS w w' b t x:=by
 obtain ⟨nv,sv,h1,h2,h3⟩:=h
 refine (atSuffix_any w b t x.s nv sv h1 ht hk).mono ?_
 rintro e w' ⟨rfl,n,rfl⟩
 exact ⟨rfl,(PostS.refl ⟨nv,sv,h1,h2,h3⟩).drewN n⟩
theorem add_S (w:World) (b:Nat) (t:ByteArray) (x:St) (k l r lo hi st:Int) (h:RdS w b t x) (hn:x.ns.length≤1000) :
  Calls Tryz.prog 105 #[.pointer (some ⟨b,0,none⟩),.agg #[.int .i64 k,.int .i64 l,.int .i64 r,.int .i64 lo,.int .i64 hi,.int .i64 st]] w fun e w' =>
   e=.returned (.int .i64 x.num)∧PostS w w' b t (x.add ⟨k,l,r,lo,hi,st⟩):=by
 refine (add_any w b t x.s x.ns x.fs ⟨k,l,r,lo,hi,st⟩ h hn).mono ?_
 rintro e w' ⟨rfl,hp⟩
 exact ⟨rfl,hp⟩
theorem addSet_S (w:World) (b:Nat) (t:ByteArray) (x:St) (f:Nat→Bool) (h:RdS w b t x) (hn:x.ns.length≤1000) (hn':x.fs.length≤1000) :
  Calls Tryz.prog 166 #[.pointer (some ⟨b,0,none⟩),.agg (setA f)] w fun e w' =>
   e=.returned (.int .i64 x.num)∧PostS w w' b t (x.addSet f):=by
 refine (addSet_any w b t x.s x.ns x.fs f h hn hn').mono ?_
 rintro e w' ⟨rfl,hp⟩
 exact ⟨rfl,hp⟩
set_option maxHeartbeats 400000 in
theorem readSuffix_any (w:World) (b:Nat) (t:ByteArray) (x:St) (inner:Int) (h:RdS w b t x) (ht:t.size≤60) (hk:x.s.k≤t.size) (hn:x.ns.length≤1000) :
  Calls Tryz.prog 160 #[.pointer (some ⟨b,0,none⟩),.int .i64 inner] w fun e w' =>
   e=.returned (.int .i64 x.num)∧PostS w w' b t (readSuffixS t inner x):=by
 by_cases c1:(x.s.pk t == 42)=true
 ·have e1:readSuffixS t inner x=(x.at (takeS t 42 x.s)).add ⟨4,inner,0,0,0,0⟩:=by simp only [readSuffixS,c1,if_true]
  rw [e1]
  clear e1
  go_enter Tryz.func160,Tryz.ntmps160
  go_wp2_with fail
  refine (take_S _ b t x 42 h ht hk).mono ?_
  rintro e w1 ⟨rfl,hw1⟩
  go_wp2_with fail
  refine (add_S _ b t _ 4 inner 0 0 0 0 hw1.2 hn).mono ?_
  rintro e w2 ⟨rfl,hw2⟩
  go_wp2
  go_ret
  exact ⟨rfl,hw1.trans hw2⟩
 ·have c1':(x.s.pk t == 42)=false:=by simpa using c1
  have t1:x.at (takeS t 42 x.s)=x:=by simp only [takeS,c1'];rfl
  by_cases c2:(x.s.pk t == 43)=true
  ·have e1:readSuffixS t inner x=(x.at (takeS t 43 x.s)).add ⟨5,inner,0,0,0,0⟩:=by simp only [readSuffixS,c1',c2,if_true];rfl
   rw [e1]
   have HT:=hide t1
   clear e1 t1 c1
   go_enter Tryz.func160,Tryz.ntmps160
   go_wp2_with fail
   refine (take_S _ b t x 42 h ht hk).mono ?_
   rw [unhide HT]
   rintro e w1 ⟨rfl,hw1⟩
   go_wp2_with fail
   refine (take_S _ b t x 43 hw1.2 ht hk).mono ?_
   rintro e w2 ⟨rfl,hw2⟩
   go_wp2_with fail
   refine (add_S _ b t _ 5 inner 0 0 0 0 hw2.2 hn).mono ?_
   rintro e w3 ⟨rfl,hw3⟩
   go_wp2
   go_ret
   exact ⟨rfl,(hw1.trans hw2).trans hw3⟩
  ·have c2':(x.s.pk t == 43)=false:=by simpa using c2
   have t2:x.at (takeS t 43 x.s)=x:=by simp only [takeS,c2'];rfl
   by_cases c3:(x.s.pk t == 63)=true
   ·have e1:readSuffixS t inner x=(x.at (takeS t 63 x.s)).add ⟨6,inner,0,0,0,0⟩:=by simp only [readSuffixS,c1',c2',c3,if_true];rfl
    rw [e1]
    have HT:=hide t1
    have HT2:=hide t2
    clear e1 t1 c1 t2 c2
    go_enter Tryz.func160,Tryz.ntmps160
    go_wp2_with fail
    refine (take_S _ b t x 42 h ht hk).mono ?_
    rw [unhide HT]
    rintro e w1 ⟨rfl,hw1⟩
    go_wp2_with fail
    refine (take_S _ b t x 43 hw1.2 ht hk).mono ?_
    rw [unhide HT2]
    rintro e w2 ⟨rfl,hw2⟩
    go_wp2_with fail
    refine (take_S _ b t x 63 hw2.2 ht hk).mono ?_
    rintro e w3 ⟨rfl,hw3⟩
    go_wp2_with fail
    refine (add_S _ b t _ 6 inner 0 0 0 0 hw3.2 hn).mono ?_
    rintro e w4 ⟨rfl,hw4⟩
    go_wp2
    go_ret
    exact ⟨rfl,((hw1.trans hw2).trans hw3).trans hw4⟩
   ·have c3':(x.s.pk t == 63)=false:=by simpa using c3
    have t3:x.at (takeS t 63 x.s)=x:=by simp only [takeS,c3'];rfl
    have k1:=expectS_le (t:=t) (c:=123) (s:=x.s) (by omega) hk
    have k2:=readDigitS_le (t:=t) (c:=10) (s:=expectS t 123 x.s) k1
    have k3:=expectS_le (t:=t) (c:=44) (s:=(readDigitS t 10 (expectS t 123 x.s)).2) (by omega) k2
    have k4:=readDigitS_le (t:=t) (c:=10) (s:=expectS t 44 (readDigitS t 10 (expectS t 123 x.s)).2) k3
    have hfin:readSuffixS t inner x=(x.at (expectS t 125 (readDigitS t 10 (expectS t 44 (readDigitS t 10 (expectS t 123 x.s)).2)).2)).add ⟨7,inner,0,(readDigitS t 10 (expectS t 123 x.s)).1,(readDigitS t 10 (expectS t 44 (readDigitS t 10 (expectS t 123 x.s)).2)).1,0⟩:=by
     simp only [readSuffixS,c1',c2',c3'];rfl
    rw [hfin]
    have HT:=hide t1
    have HT2:=hide t2
    have HT3:=hide t3
    clear t1 t2 t3 c1 c2 c3 hfin
    go_enter Tryz.func160,Tryz.ntmps160
    go_wp2_with fail
    refine (take_S _ b t x 42 h ht hk).mono ?_
    rw [unhide HT]
    rintro e w1 ⟨rfl,hw1⟩
    go_wp2_with fail
    refine (take_S _ b t x 43 hw1.2 ht hk).mono ?_
    rw [unhide HT2]
    rintro e w2 ⟨rfl,hw2⟩
    go_wp2_with fail
    refine (take_S _ b t x 63 hw2.2 ht hk).mono ?_
    rw [unhide HT3]
    rintro e w3 ⟨rfl,hw3⟩
    have p3:=(hw1.trans hw2).trans hw3
    clear hw1 hw2 hw3
    go_wp2_with fail
    refine (expect_S _ b t x 123 p3.2 ht hk).mono ?_
    rintro e w4 ⟨rfl,hw4⟩
    have p4:=p3.trans hw4
    go_wp2_with fail
    refine (readDigit_S _ b t _ 10 p4.2 ht k1).mono ?_
    rintro e w5 ⟨rfl,hw5⟩
    have p5:=p4.trans hw5
    go_wp2_with fail
    refine (expect_S _ b t _ 44 p5.2 ht k2).mono ?_
    rintro e w6 ⟨rfl,hw6⟩
    have p6:=p5.trans hw6
    go_wp2_with fail
    refine (readDigit_S _ b t _ 10 p6.2 ht k3).mono ?_
    rintro e w7 ⟨rfl,hw7⟩
    have p7:=p6.trans hw7
    go_wp2_with fail
    refine (expect_S _ b t _ 125 p7.2 ht k4).mono ?_
    rintro e w8 ⟨rfl,hw8⟩
    have p8:=p7.trans hw8
    go_wp2_with fail
    refine (add_S _ b t _ 7 inner 0 _ _ 0 p8.2 hn).mono ?_
    rintro e w9 ⟨rfl,hw9⟩
    go_wp2
    go_ret
    exact ⟨rfl,p8.trans hw9⟩
end Go.Proofs.YtobfpgoepaeknaaGreat
namespace Go.Proofs.YtobfpgoepaeknaaGreat
open Go.RowKit
attribute [local go_sem ↓] zvS
attribute [local go_sem] zcS_size zcS_ne
def OkS (t:ByteArray) (x:St):Prop:=x.s.k≤t.size∧x.fs.length≤x.ns.length∧x.ns.length+4 * (t.size - x.s.k)≤900
def Does (F tag:Nat) (t:ByteArray) (m:Nat):Prop :=
 ∀ (w:World) (b:Nat) (x:St),RdS w b t x→OkS t x→t.size - x.s.k≤m →
  Calls Tryz.prog F #[.pointer (some ⟨b,0,none⟩)] w fun e w'=>∃ y i,e=.returned (.int .i64 i)∧Rds t tag 0 x (y,i)∧PostS w w' b t y
theorem complement_zero (w:World):Calls Tryz.prog 167 #[.agg (setA fun _=>false)] w fun e w'=>e=.returned (.agg (setA fun _=>true))∧Below w.heap.size w w' :=
 (complement_any w (fun _=>false)).mono fun _ _ h=>h
set_option maxHeartbeats 1000000 in
theorem atom_of_pattern (t:ByteArray) (ht:t.size≤60) (m:Nat) (hp:∀ m',m' < m→Does 58 0 t m'):Does 158 6 t m:=by
 intro w b x h hok hm
 obtain ⟨hk,hfs,hns⟩:=hok
 have hn1:x.ns.length≤1000:=by omega
 have hn2:x.fs.length≤1000:=by omega
 by_cases c1:(x.s.pk t == 40)=true
 ·have hlt:=(S1.pk_lt (t:=t) (s:=x.s) (by rw [beq_iff_eq] at c1;omega)).2
  have e1:=takeS_eq c1
  have HP:=hide (hp (t.size - (x.s.k+1)) (by omega))
  have k1:(takeS t 40 x.s).k≤t.size:=takeS_le (by omega) hk
  have HB:=hide (fun (y:St) (i:Int) (h:Rds t 0 0 (x.at (takeS t 40 x.s)) (y,i))=>Rds.bracket (whole:=0) c1 h)
  have hok1:OkS t (x.at (takeS t 40 x.s)):=by
   refine ⟨k1,hfs,?_⟩
   rw [e1];simp only [St.at];omega
  have hm1:t.size - (x.at (takeS t 40 x.s)).s.k≤t.size - (x.s.k+1):=by rw [e1];exact Nat.le_refl _
  clear hp hm hlt e1
  generalize hs1:takeS t 40 x.s=s1 at *
  have HT1:=hide hs1
  clear hs1
  go_enter Tryz.func158,Tryz.ntmps158
  go_wp2_with fail
  refine (take_S _ b t x 40 h ht hk).mono ?_
  rw [unhide HT1]
  rintro e w1 ⟨rfl,hw1⟩
  go_wp2_with fail
  refine (unhide HP w1 b (x.at s1) hw1.2 hok1 hm1).mono ?_
  rintro e w2 ⟨y,i,rfl,hr,hw2⟩
  have hy:y.s.k≤t.size:=(Rds.facts (by exact k1) hr).2.1
  have HR:=hide hr
  clear hr
  go_wp2_with fail
  refine (expect_S _ b t y 41 hw2.2 ht hy).mono ?_
  rintro e w3 ⟨rfl,hw3⟩
  go_wp2
  go_ret
  exact ⟨_,_,rfl,unhide HB y i (unhide HR),(hw1.trans hw2).trans hw3⟩
 ·have c1':(x.s.pk t == 40)=false:=by simpa using c1
  have t1:x.at (takeS t 40 x.s)=x:=by simp only [takeS,c1'];rfl
  have HT:=hide t1
  have HL:=hide (Rds.leaf (whole:=0) c1')
  clear t1 c1 hp hm
  by_cases c2:(x.s.pk t == 91)=true
  ·have hfin:readLeafS t x=(x.at (readSetS t (takeS t 91 x.s)).2).addSet (readSetS t (takeS t 91 x.s)).1:=by simp only [readLeafS,c2,if_true]
   have HF:=hide hfin
   have k1:(takeS t 91 x.s).k≤t.size:=takeS_le (by omega) hk
   clear hfin
   go_enter Tryz.func158,Tryz.ntmps158
   go_wp2_with fail
   refine (take_S _ b t x 40 h ht hk).mono ?_
   rw [unhide HT]
   rintro e w1 ⟨rfl,hw1⟩
   go_wp2_with fail
   refine (take_S _ b t x 91 hw1.2 ht hk).mono ?_
   rintro e w2 ⟨rfl,hw2⟩
   have p2:=hw1.trans hw2
   clear hw1 hw2
   go_wp2_with fail
   refine (readSet_S _ b t _ p2.2 ht k1).mono ?_
   rintro e w3 ⟨rfl,hw3⟩
   have p3:=p2.trans hw3
   have HS:=hide (rfl:readSetS t (x.at (takeS t 91 x.s)).s=readSetS t (takeS t 91 x.s))
   clear p2 hw3
   have HN3:=hide (heap_alloc_new w3 (Obj.cells zcS 132))
   generalize hN:w3.heap.size=N at *
   have p4:=p3.below ((Below.refl _ _).alloc (Nat.le_refl _) (Obj.cells zcS 132))
   have p5:PostS w ((w3.alloc (Obj.cells zcS 132)).setRow N (setA (readSetS t (x.at (takeS t 91 x.s)).s).1)) b t _:=p3.below (below_setRow ((Below.refl _ _).alloc (Nat.le_refl _) _) (by omega) _)
   have HN5:=hide (setRow_heap _ _ _ (setA (readSetS t (x.at (takeS t 91 x.s)).s).1) _ _ (unhide HN3))
   go_wp2_with (first
    | refine wpList_store_row0 rfl 132 _ _ rfl rfl N _ rfl rfl 132 _ (unhide HN3) (by rw [size_setA];kernel_rfl) (by rw [zero84,size_setA,size_setA]) (setA_one _) ?_
    | refine wpList_load_row rfl 132 _ rfl N rfl 132 _ (0,0) _ (unhide HN5) Tryz.underlying132 rfl (by rw [size_setA];kernel_rfl) ?_)
   refine (addSet_S _ b t _ _ p5.2 hn1 hn2).mono ?_
   rintro e w6 ⟨rfl,hw6⟩
   go_wp2
   go_ret
   refine ⟨_,_,rfl,unhide HL,?_⟩
   rw [unhide HF]
   exact p5.trans hw6
  ·have c2':(x.s.pk t == 91)=false:=by simpa using c2
   have t2:x.at (takeS t 91 x.s)=x:=by simp only [takeS,c2'];rfl
   have HT2:=hide t2
   clear c2 t2
   by_cases c3:(x.s.pk t == 46)=true
   ·have hfin:readLeafS t x=(x.at (takeS t 46 x.s)).addSet (fun _=>true):=by simp only [readLeafS,c2',c3,if_true];rfl
    have HF:=hide hfin
    clear hfin
    go_enter Tryz.func158,Tryz.ntmps158
    go_wp2_with fail
    refine (take_S _ b t x 40 h ht hk).mono ?_
    rw [unhide HT]
    rintro e w1 ⟨rfl,hw1⟩
    go_wp2_with fail
    refine (take_S _ b t x 91 hw1.2 ht hk).mono ?_
    rw [unhide HT2]
    rintro e w2 ⟨rfl,hw2⟩
    go_wp2_with fail
    refine (take_S _ b t x 46 hw2.2 ht hk).mono ?_
    rintro e w3 ⟨rfl,hw3⟩
    have p3:=(hw1.trans hw2).trans hw3
    clear hw1 hw2 hw3
    go_wp2_with fail
    rw [zero84]
    refine (complement_zero _).mono ?_
    rintro e w4 ⟨rfl,hw4⟩
    have p4:=p3.below hw4
    go_wp2_with fail
    refine (addSet_S _ b t _ (fun _=>true) p4.2 hn1 hn2).mono ?_
    rintro e w6 ⟨rfl,hw6⟩
    go_wp2
    go_ret
    refine ⟨_,_,rfl,unhide HL,?_⟩
    rw [unhide HF]
    exact p4.trans hw6
   ·have c3':(x.s.pk t == 46)=false:=by simpa using c3
    have t3:x.at (takeS t 46 x.s)=x:=by simp only [takeS,c3'];rfl
    have HT3:=hide t3
    have hfin:readLeafS t x=(x.at (readByteS t x.s).2).addSet (addR (fun _=>false) (readByteS t x.s).1 (readByteS t x.s).1):=by simp only [readLeafS,c2',c3'];rfl
    have HF:=hide hfin
    clear hfin t3 c3
    go_enter Tryz.func158,Tryz.ntmps158
    go_wp2_with fail
    refine (take_S _ b t x 40 h ht hk).mono ?_
    rw [unhide HT]
    rintro e w1 ⟨rfl,hw1⟩
    go_wp2_with fail
    refine (take_S _ b t x 91 hw1.2 ht hk).mono ?_
    rw [unhide HT2]
    rintro e w2 ⟨rfl,hw2⟩
    go_wp2_with fail
    refine (take_S _ b t x 46 hw2.2 ht hk).mono ?_
    rw [unhide HT3]
    rintro e w3 ⟨rfl,hw3⟩
    have p3:=(hw1.trans hw2).trans hw3
    clear hw1 hw2 hw3
    go_wp2_with fail
    refine (readByte_S _ b t x p3.2 ht hk).mono ?_
    rintro e w4 ⟨rfl,hw4⟩
    have p4:=p3.trans hw4
    go_wp2_with fail
    rw [zero84]
    refine (addRange_any _ (fun _=>false) _ _).mono ?_
    rintro e w5 ⟨rfl,hw5⟩
    have p5:=p4.below hw5
    go_wp2_with fail
    refine (addSet_S _ b t _ _ p5.2 hn1 hn2).mono ?_
    rintro e w6 ⟨rfl,hw6⟩
    go_wp2
    go_ret
    refine ⟨_,_,rfl,unhide HL,?_⟩
    rw [unhide HF]
    exact p5.trans hw6
end Go.Proofs.YtobfpgoepaeknaaGreat
