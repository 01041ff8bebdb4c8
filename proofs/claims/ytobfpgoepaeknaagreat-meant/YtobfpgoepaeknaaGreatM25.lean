/-
  table.OfPattern: what it answers, by what is to be answered.
  Lines of a text: policies.splitLines.
  The cells of a table; a table in the making.
  table.parsed: a table out of its bytes.
-/
import Derived.Test.YtobfpgoepaeknaaGreatM24
import Derived.BigQuiet
import Derived.Test.YtobfpgoepaeknaaGreatM09
namespace Go.Proofs.YtobfpgoepaeknaaGreat
namespace Mc
open Go.RowKit
theorem OfPattern_P (w:World) (p:ByteArray) :
  Calls Tryz.prog 19 #[.string p] w fun e w'=>Below w.heap.size w w'∧((∃ er:Int,er≠0∧e=.returned (.tuple #[.agg zcT,.int .i64 er])∧PatA p ⟨#[]⟩ er)∨(∃ L S C nx gr cl nc gv nv,e=.returned (.tuple #[.agg (tabA cl C gv nv),.int .i64 0])∧BRow w' w.heap.size gv ((List.range S).map gr)∧NRow w' w.heap.size nv ((List.range S).flatMap (fun i=>(List.range C).map (nc i)))∧TabOf L S C nx gr cl nc∧PatA p (strN (layTab S C cl gr nc)) 0)):=by
 by_cases hp:p.size≤60
 ·refine (OfPattern_any w p hp).mono ?_
  rintro e w' ⟨hw',y,i,hr,hbad,hgood⟩
  refine ⟨hw',?_⟩
  by_cases h0:(readErr p y).1=0
  ·obtain ⟨R,n,rs,k,S,f1,f2,f3,f4,f5,hT⟩:=hgood h0
   obtain ⟨n',rs',k',S',g1,g2,g3⟩:=read_okV hp hr h0
   have hsame:=rf_same f3 g1
   simp only [Prod.mk.injEq] at hsame
   obtain ⟨rfl,rfl⟩:=hsame
   have e1:S=S':=Dr.same f4 g2
   subst e1
   rw [f5] at hT
   rcases hT with ⟨v,rfl,S',C,nx,gr,cl,nc,gv,nv,rfl,r1,r2,htab⟩ | ⟨rfl,hmany⟩
   ·exact .inr ⟨_,S',C,nx,gr,cl,nc,gv,nv,rfl,r1,r2,htab,.inr ⟨hp,y,i,hr,.inr ⟨h0,n',rs,k',S,_,g1,g2,g3,rfl,.inl ⟨rfl,_,_,_,_,_,_,htab,rfl⟩⟩⟩⟩
   ·exact .inl ⟨3,by decide,rfl,.inr ⟨hp,y,i,hr,.inr ⟨h0,n',rs,k',S,[],g1,g2,g3,rfl,.inr ⟨rfl,rfl,hmany⟩⟩⟩⟩
  ·exact .inl ⟨_,h0,hbad h0,.inr ⟨hp,y,i,hr,.inl ⟨h0,rfl,rfl⟩⟩⟩
 ·refine (OfPattern_long w p (by omega)).mono ?_
  rintro e w' ⟨rfl,hw'⟩
  exact ⟨hw',.inl ⟨1,by decide,rfl,.inl ⟨by omega,rfl,rfl⟩⟩⟩
end Mc
end Go.Proofs.YtobfpgoepaeknaaGreat
namespace Go.Proofs.YtobfpgoepaeknaaGreat
namespace Mc
open Go.RowKit
attribute [local go_sem ↓] Go.wp_at_zero Go.wp_at_succ
def txC (L:List ByteArray):List Value:=L.map Value.string
def TxR (w:World) (B:Nat) (v:Value) (L:List ByteArray):Prop:=w.ownsRow B 9 1 v L.length (txC L)
theorem TxR.of {w:World} {B:Nat} {v:Value} {L:List ByteArray} {y:ByteArray} (h:w.ownsRow B 9 1 v (L.length+1) (txC L++[.string y])):TxR w B v (L++[y]):=by
 unfold TxR txC
 rw [List.length_append,List.map_append];exact h
theorem TxR.at {w:World} {B:Nat} {va:Option Addr} {vc:Nat} {L:List ByteArray} (h:TxR w B (.slice va L.length vc) L) {k:Nat} (hk:k < L.length):∃ g,va=some ⟨g,0,none⟩∧g < w.heap.size∧w.cell? ⟨g,k,none⟩=some (.string (L.getD k ByteArray.empty)):=by
 have h':w.ownsRow B 9 1 (.slice va L.length vc) L.length (txC L):=h
 obtain ⟨g,cap,he⟩:=own_form h' (by omega)
 simp only [Value.slice.injEq,true_and] at he
 obtain ⟨rfl,rfl⟩:=he
 have:=h'.cells (g:=g) rfl k (.string (L.getD k ByteArray.empty)) (by unfold txC;rw [List.getElem?_map,List.getElem?_eq_getElem hk,List.getD_eq_getElem?_getD,List.getElem?_eq_getElem hk];rfl)
 rw [add0] at this
 exact ⟨g,rfl,(h'.lt g rfl).2,this⟩
theorem infoTx:(Tryz.prog.info? 9).map (fun i=>(i.zero,i.size,i.bytes))=some (some (.string ⟨#[]⟩),1,16):=by kernel_rfl
theorem appTx {ops:Array Oper} {rest:List Oper} {o:Oper} {a:Act} {W:World} {Q:Exit→Act→World→Prop} (hgd:o.guard=none) (s x:Operand)
  (ho:o.op=.call { callee:=.builtin .append,args:=#[s,x],argTypes:=#[60,60] }) (B:Nat) (v:Value) (xs:List ByteArray) (hs:a.eval s=v) (hown:TxR W B v xs) (g0:Nat) (y:ByteArray)
  (hx:a.eval x=.slice (some ⟨g0,0,none⟩) 1 1) (hc:W.cell? ⟨g0,0,none⟩=some (.string y)) (hlen:xs.length≤3000000) (hB:B≤W.heap.size) (H:Nat) (hH:W.heap.size=H)
  (h:∀ g cap w',w'.ownsRow B 9 1 (.slice (some ⟨g,0,none⟩) (xs.length+1) cap) (xs.length+1) (txC xs++[.string y])→W.grownBy w' v.ownBlock→(v.ownBlock=some g∨g=H)→g < w'.heap.size→wpList Tryz.prog ops Q rest (a.put o.dst (.slice (some ⟨g,0,none⟩) (xs.length+1) cap)) w'):wpList Tryz.prog ops Q (o ::rest) a W:=by
 obtain ⟨i,i0,i1,i2,i3⟩:=info_of infoTx
 exact wpList_append_lies W hgd s x 60 ho B 9 i (.string ⟨#[]⟩) 1 16 Tryz.underlying60 i0 i1 i2 i3 rfl (by decide) v xs.length (txC xs) hs hown ⟨g0,0,none⟩ 1 1 [.string y] hx rfl (one_cells hc) (by intro u hu;simp at hu;subst hu;rfl) (by decide) (by unfold maxLen;omega) (by omega) hB H hH h
structure CtI (w wr:World) (va:Option Addr) (vc:Nat) (L:List ByteArray):Prop where
 below:Below w.heap.size w wr
 row:TxR wr w.heap.size (.slice va L.length vc) L
theorem CtI.alloc {w wr:World} {va:Option Addr} {vc:Nat} {L:List ByteArray} (h:CtI w wr va vc L) (o:Obj):CtI w (wr.alloc o) va vc L:=⟨h.below.alloc h.below.size _,(Fr.ofAlloc wr o).own h.row (by simp)⟩
theorem CtI.push {w wr w2:World} {va:Option Addr} {vc:Nat} {L:List ByteArray} (h:CtI w wr va vc L) {g cap:Nat} {y:ByteArray} (hgrow:wr.grownBy w2 (.slice va L.length vc:Value).ownBlock) (ho:w2.ownsRow w.heap.size 9 1 (.slice (some ⟨g,0,none⟩) (L.length+1) cap) (L.length+1) (txC L++[.string y])):CtI w w2 (some ⟨g,0,none⟩) cap (L++[y]):=by
 refine ⟨h.below.grown hgrow h.below.size (fun q hq=>(World.ownsRow.lt h.row q hq).1),?_⟩
 rw [List.length_append]
 exact TxR.of ho
theorem CtI.empty (w:World):CtI w (w.alloc (.cells #[] 9)) (some ⟨w.heap.size,0,none⟩) 0 [] :=
 ⟨(Below.refl _ _).alloc (Nat.le_refl _) _,rfl,.inr ⟨_,0,_,rfl,Nat.le_refl _,heap_alloc_new _ _,Nat.le_refl _,by unfold maxLen;omega,rfl,rfl⟩⟩
set_option maxRecDepth 20000 in
set_option maxHeartbeats 2000000 in
theorem splitLines_any (w:World) (p:ByteArray) (hp:p.size≤284) :
  Calls Tryz.prog 51 #[.string p] w fun e w'=>∃ va vc,e=.returned (.tuple #[.slice va (cutL p).length vc,.string (cutR p)])∧CtI w w' va vc (cutL p):=by
 have hpI:(p.size:Int)≤284:=by omega
 have HP:=hide hp
 have HC0:Hid (CtI w (w.alloc (.cells #[] 9)) (some ⟨w.heap.size,0,none⟩) 0 (cutS p 0).1):=CtI.empty w
 clear hp
 go_enter Tryz.func51,Tryz.ntmps51
 go_wp2_with fail
 go_loopw [4,5,6] (fun lx bx ix wr=>∃ (i:Nat) (va:Option Addr) (vc:Nat),lx=.slice va (cutS p i).1.length vc∧bx=.int .i64 ((cutS p i).2:Int)∧ix=.int .i64 (i:Int)∧Hid (i≤p.size∧CtI w wr va vc (cutS p i).1)) (fun _ _ ix _=>p.size - (intOf ix).toNat)
 case atStart=>exact ⟨0,_,_,rfl,rfl,rfl,Nat.zero_le _,unhide HC0⟩
 case round =>
  clear HC0
  rename World=>wr
  obtain ⟨i,va,vc,rfl,rfl,rfl,HH⟩:=hrel
  obtain ⟨hi,hI⟩:=unhide HH
  clear HH
  have hle:=cutS_le p i
  have hll:=cutS_len p i
  by_cases hlt:i < p.size
  ·have hiI:(i:Int) < (p.size:Int):=by omega
   have hi0:(0:Int)≤(i:Int):=by omega
   have hi1:((i:Int)).toNat=i:=by omega
   have haI:((cutS p i).2:Int)≤(i:Int):=by omega
   have ha0:(0:Int)≤((cutS p i).2:Int):=by omega
   have ha1:(((cutS p i).2:Int)).toNat=(cutS p i).2:=by omega
   have b0:=bt_at p i
   have HI:=hide hI
   have HLT:=hide hlt
   by_cases h10:bt p i=10
   ·have HN:=hide (cutS_yes h10)
    rw [h10] at b0
    generalize cutS p i=c at *
    obtain ⟨L,a⟩:=c
    have HLL:Hid (L.length≤i):=hll
    have HXA:=hide (hI.alloc (Obj.cells #[.string (p.extract a i)] 9))
    have HSZ:Hid (w.heap.size≤wr.heap.size):=hI.below.size
    clear hi hI hle hll h10
    go_wp2_with (at_builtin;refine appTx rfl (.tmp 18) (.tmp 23) rfl w.heap.size _ L rfl (unhide HXA).row wr.heap.size (p.extract a i) rfl (new_cell rfl) (by have:=unhide HLL;have:=unhide HLT;have:=unhide HP;omega) (by have:=unhide HSZ;simp;omega) (wr.heap.size+1) (by simp) ?_;intro g5 cap5 w8 ho hgrow hlies hlt5;have HP9:=hide ((unhide HXA).push hgrow ho);clear ho hgrow hlies)
    go_roundw
    case rel=>exact ⟨i+1,some ⟨g5,0,none⟩,cap5,by rw [unhide HN];simp,by rw [unhide HN];go_num,by go_num,unhide HLT,by rw [unhide HN];exact unhide HP9⟩
    case measure=>have:=unhide HLT;simp [intOf];omega
   ·have HN:=hide (cutS_no h10)
    have hbI:¬((bt p i:Nat):Int)=10:=by omega
    generalize bt p i=bb at *
    generalize cutS p i=c at *
    obtain ⟨L,a⟩:=c
    clear hi hI hle hll h10
    go_wp2_with fail
    go_roundw
    case rel=>exact ⟨i+1,va,vc,by rw [unhide HN],by rw [unhide HN],by go_num,unhide HLT,by rw [unhide HN];exact unhide HI⟩
    case measure=>have:=unhide HLT;simp [intOf];omega
  ·have hi2:i=p.size:=by omega
   subst hi2
   have HI:Hid (CtI w wr va vc (cutL p)):=hI
   have haI:((cutS p p.size).2:Int)≤(p.size:Int):=by omega
   have ha0:(0:Int)≤((cutS p p.size).2:Int):=by omega
   have ha1:(((cutS p p.size).2:Int)).toNat=(cutS p p.size).2:=by omega
   have HR:Hid (cutR p=p.extract (cutS p p.size).2 p.size∧cutL p=(cutS p p.size).1):=⟨rfl,rfl⟩
   clear hi hlt hI hle hll
   generalize cutS p p.size=c at *
   obtain ⟨L,a⟩:=c
   go_wp2_with fail
   go_quiet (fail)
   go_wp2_with fail
   go_ret2
   exact ⟨va,vc,by rw [(unhide HR).1,(unhide HR).2];rfl,below_drewN (unhide HI).below _,(unhide HI).row⟩
end Mc
end Go.Proofs.YtobfpgoepaeknaaGreat
namespace Go.Proofs.YtobfpgoepaeknaaGreat
namespace Mc
open Go.RowKit
theorem tbC_set (cl:Nat→Nat) (C:Nat) (gv nv:Value) {b:Nat} (h:b < 256) (x:Nat):(tbC cl C gv nv).setIfInBounds b (.int .i64 ((x:Nat):Int))=tbC (fun c=>if c=b then x else cl c) C gv nv:=by
 apply Array.ext_getElem?
 intro k
 rw [Array.getElem?_setIfInBounds]
 by_cases hk:b=k
 ·subst hk
  rw [if_pos rfl,if_pos (by rw [tbC_size];omega),tbC_cl _ _ _ _ h,if_pos rfl]
 ·rw [if_neg hk]
  by_cases h2:k < 256
  ·rw [tbC_cl _ _ _ _ h2,tbC_cl _ _ _ _ h2,if_neg (Ne.symm hk)]
  ·obtain ⟨j,rfl⟩:∃ j,k=256+j:=⟨k - 256,by omega⟩
   rw [tbC_tail,tbC_tail]
theorem tbC_put (cl:Nat→Nat) (C C':Nat) (gv nv gv' nv' u:Value) (i:Nat) (hi:i < 3) (he:[.int .i64 (C':Int),gv',nv']=[.int .i64 (C:Int),gv,nv].set i u):(tbC cl C gv nv).setIfInBounds (256+i) u=tbC cl C' gv' nv':=by
 apply Array.ext_getElem?
 intro k
 rw [Array.getElem?_setIfInBounds]
 by_cases hk:256+i=k
 ·subst hk
  rw [if_pos rfl,if_pos (by rw [tbC_size];omega),tbC_tail,he,List.getElem?_set_self (by simpa using hi)]
 ·rw [if_neg hk]
  by_cases h2:k < 256
  ·rw [tbC_cl _ _ _ _ h2,tbC_cl _ _ _ _ h2]
  ·obtain ⟨j,rfl⟩:∃ j,k=256+j:=⟨k - 256,by omega⟩
   rw [tbC_tail,tbC_tail,he,List.getElem?_set_ne (by omega)]
theorem tbC_set256 (cl:Nat→Nat) (C C':Nat) (gv nv:Value):(tbC cl C gv nv).setIfInBounds 256 (.int .i64 (C':Int))=tbC cl C' gv nv:=tbC_put _ _ _ _ _ _ _ _ 0 (by decide) rfl
theorem tbC_set257 (cl:Nat→Nat) (C:Nat) (gv nv v:Value):(tbC cl C gv nv).setIfInBounds 257 v=tbC cl C v nv:=tbC_put _ _ _ _ _ _ _ _ 1 (by decide) rfl
theorem tbC_set258 (cl:Nat→Nat) (C:Nat) (gv nv v:Value):(tbC cl C gv nv).setIfInBounds 258 v=tbC cl C gv v:=tbC_put _ _ _ _ _ _ _ _ 2 (by decide) rfl
theorem tbC_build (C:Nat):zcTb.setIfInBounds 256 (.int .i64 (C:Int))=tbC (fun _=>0) C (.slice none 0 0) (.slice none 0 0):=tbC_set256 _ _ _ _ _
theorem tbC_congr {cl cl':Nat→Nat} (h:∀ b,b < 256→cl b=cl' b) (C:Nat) (gv nv:Value):tbC cl C gv nv=tbC cl' C gv nv:=by
 apply Array.ext_getElem?
 intro k
 by_cases h2:k < 256
 ·rw [tbC_cl _ _ _ _ h2,tbC_cl _ _ _ _ h2,h k h2]
 ·obtain ⟨j,rfl⟩:∃ j,k=256+j:=⟨k - 256,by omega⟩
  rw [tbC_tail,tbC_tail]
theorem tbC_257 (cl:Nat→Nat) (C:Nat) (gv nv:Value):(tbC cl C gv nv)[257]?=some gv:=tbC_tail cl C gv nv 1
theorem tbC_258 (cl:Nat→Nat) (C:Nat) (gv nv:Value):(tbC cl C gv nv)[258]?=some nv:=tbC_tail cl C gv nv 2
theorem BR.of {w:World} {B:Nat} {v:Value} {bs:List Bool} {y:Bool} (h:w.ownsRow B 4 1 v (bs.length+1) (bcs bs++[.bool y])):BR w B v (bs++[y]):=by
 unfold BR bcs;rw [List.length_append,List.map_append];exact h
theorem own_two {w:World} {B B' e e' z z' n n':Nat} {v v':Value} {xs xs':List Value} (h:w.ownsRow B e z v n xs) (h':w.ownsRow B' e' z' v' n' xs') (hne:e≠e'):∀ q,v.ownBlock=some q→v'.ownBlock≠some q:=fun q hq hq'=>by
 rcases h.2 with ⟨rfl,_⟩ | ⟨g,cap,cur,rfl,_,hg,_⟩
 ·simp [Value.ownBlock] at hq
 ·rcases h'.2 with ⟨rfl,_⟩ | ⟨g',cap',cur',rfl,_,hg',_⟩
  ·simp [Value.ownBlock] at hq'
  ·have e1:g=q:=by simpa [Value.ownBlock] using hq
   have e2:g'=q:=by simpa [Value.ownBlock] using hq'
   subst e1;subst e2
   rw [hg] at hg';simp at hg';exact hne hg'.2
structure PgI (B g:Nat) (w wr:World) (cl:Nat→Nat) (C:Nat) (gv nv:Value) (bs:List Bool) (ns:List Nat):Prop where
 below:Below B w wr
 hB:B≤g
 bT:wr.heap[g]?=some (.cells (tbC cl C gv nv) 47 (0,0))
 rg:BR wr B gv bs
 rn:NR wr B nv ns
section
variable {B g : Nat} {w wr w2 : World} {cl : Nat → Nat} {C : Nat} {gv nv : Value} {bs : List Bool} {ns : List Nat}
theorem PgI.lt (h:PgI B g w wr cl C gv nv bs ns):g < wr.heap.size:=(Array.getElem?_eq_some_iff.1 h.bT).1
theorem PgI.le (h:PgI B g w wr cl C gv nv bs ns):B≤wr.heap.size:=by have:=h.lt;have:=h.hB;omega
theorem PgI.drew (h:PgI B g w wr cl C gv nv bs ns):PgI B g w wr.drew cl C gv nv bs ns:=⟨h.below.drew,h.hB,h.bT,h.rg,h.rn⟩
theorem PgI.alloc (h:PgI B g w wr cl C gv nv bs ns) (o:Obj):PgI B g w (wr.alloc o) cl C gv nv bs ns :=
 ⟨h.below.alloc h.le _,h.hB,(Fr.ofAlloc wr o).at h.bT (by simp),(Fr.ofAlloc wr o).own h.rg (by simp),(Fr.ofAlloc wr o).own h.rn (by simp)⟩
theorem PgI.congr (h:PgI B g w wr cl C gv nv bs ns) {cl':Nat→Nat} (he:∀ b,b < 256→cl b=cl' b):PgI B g w wr cl' C gv nv bs ns:=⟨h.below,h.hB,by rw [←tbC_congr he];exact h.bT,h.rg,h.rn⟩
theorem PgI.cls (h:PgI B g w wr cl C gv nv bs ns) {b:Nat} (hb:b < 256) (x:Nat):PgI B g w (wr.setCell ⟨g,b,none⟩ (.int .i64 ((x:Nat):Int))) (fun c=>if c=b then x else cl c) C gv nv bs ns :=
 ⟨below_set h.below h.hB,h.hB,by rw [heap_setCell_same _ _ _ _ _ _ h.bT,tbC_set _ _ _ _ hb],(Fr.ofSet _ _ _ _).own h.rg (fun q hq=>by simpa using own_off h.rg h.bT (by decide) q hq),(Fr.ofSet _ _ _ _).own h.rn (fun q hq=>by simpa using own_off h.rn h.bT (by decide) q hq)⟩
theorem PgI.grant (h:PgI B g w wr cl C gv nv bs ns) {v':Value} {y:Bool} (hgrow:wr.grownBy w2 gv.ownBlock) (ho:w2.ownsRow B 4 1 v' (bs.length+1) (bcs bs++[.bool y])) :
  w2.cell? ⟨g,257,none⟩=some gv∧w2.frozen? ⟨g,257,none⟩=false∧PgI B g w (w2.setCell ⟨g,257,none⟩ v') cl C v' nv (bs++[y]) ns:=by
 have e2:=own_off h.rg h.bT (by decide)
 have g2:w2.heap[g]?=_:=(Fr.ofGrown hgrow).at h.bT (fun hm=>e2 _ (Option.mem_toList.1 hm) rfl)
 have hn2:NR w2 B nv ns:=(Fr.ofGrown hgrow).own h.rn (fun q hq hm=>own_two h.rn h.rg (by decide) q hq (Option.mem_toList.1 hm))
 refine ⟨by rw [cell_of_row _ _ _ _ _ _ g2,tbC_257],frozen_of_row _ _ _ _ _ g2,below_set (below_grown h.below hgrow h.le (fun q hq=>(h.rg.lt q hq).1)) h.hB,h.hB,by rw [heap_setCell_same _ _ _ _ _ _ g2,tbC_set257],?_,?_⟩
 ·exact (Fr.ofSet _ _ _ _).own (BR.of ho) (fun q hq=>by simpa using own_off ho g2 (by decide) q hq)
 ·exact (Fr.ofSet _ _ _ _).own hn2 (fun q hq=>by simpa using own_off hn2 g2 (by decide) q hq)
theorem PgI.edge (h:PgI B g w wr cl C gv nv bs ns) {v':Value} {y:Nat} (hgrow:wr.grownBy w2 nv.ownBlock) (ho:w2.ownsRow B 3 1 v' (ns.length+1) (ncs ns++[.int .i64 (y:Int)])) :
  w2.cell? ⟨g,258,none⟩=some nv∧w2.frozen? ⟨g,258,none⟩=false∧PgI B g w (w2.setCell ⟨g,258,none⟩ v') cl C gv v' bs (ns++[y]):=by
 have e2:=own_off h.rn h.bT (by decide)
 have g2:w2.heap[g]?=_:=(Fr.ofGrown hgrow).at h.bT (fun hm=>e2 _ (Option.mem_toList.1 hm) rfl)
 have hn2:BR w2 B gv bs:=(Fr.ofGrown hgrow).own h.rg (fun q hq hm=>own_two h.rg h.rn (by decide) q hq (Option.mem_toList.1 hm))
 refine ⟨by rw [cell_of_row _ _ _ _ _ _ g2,tbC_258],frozen_of_row _ _ _ _ _ g2,below_set (below_grown h.below hgrow h.le (fun q hq=>(h.rn.lt q hq).1)) h.hB,h.hB,by rw [heap_setCell_same _ _ _ _ _ _ g2,tbC_set258],?_,?_⟩
 ·exact (Fr.ofSet _ _ _ _).own hn2 (fun q hq=>by simpa using own_off hn2 g2 (by decide) q hq)
 ·exact (Fr.ofSet _ _ _ _).own (NR.of ho) (fun q hq=>by simpa using own_off ho g2 (by decide) q hq)
end
theorem appBs {ops:Array Oper} {o:Oper} {a:Act} {W:World} {K:Act→World→Prop} {Q:Exit→Act→World→Prop} {E:Prop} (hgd:o.guard=none) (s x:Operand)
  (ho:o.op=.call { callee:=.builtin .append,args:=#[s,x],argTypes:=#[45,45] }) (B:Nat) (v:Value) (xs:List Bool) (hs:a.eval s=v) (hown:BR W B v xs) (g0:Nat) (y:Bool)
  (hx:a.eval x=.slice (some ⟨g0,0,none⟩) 1 1) (hc:W.cell? ⟨g0,0,none⟩=some (.bool y)) (hlen:xs.length≤3000000) (hB:B≤W.heap.size) (H:Nat) (hH:W.heap.size=H)
  (h:∀ g cap w',w'.ownsRow B 4 1 (.slice (some ⟨g,0,none⟩) (xs.length+1) cap) (xs.length+1) (bcs xs++[.bool y])→W.grownBy w' v.ownBlock→(v.ownBlock=some g∨g=H)→g < w'.heap.size→K (a.put o.dst (.slice (some ⟨g,0,none⟩) (xs.length+1) cap)) w') :
  if Region.wanted o (yielded ops a.tmps)=true then Oper.wp Tryz.prog o a W K Q else E:=by
 obtain ⟨i,i0,i1,i2,i3⟩:=info_of infoB
 exact step_append_lies W hgd s x 45 ho B 4 i (.bool false) 1 1 Tryz.underlying45 i0 i1 i2 i3 rfl (by decide) v xs.length (bcs xs) hs hown ⟨g0,0,none⟩ 1 1 [.bool y] hx rfl (one_cells hc) (by intro u hu;simp at hu;subst hu;rfl) (by decide) (by unfold maxLen;omega) (by omega) hB H hH h
end Mc
end Go.Proofs.YtobfpgoepaeknaaGreat
namespace Go.Proofs.YtobfpgoepaeknaaGreat
namespace Mc
open Go.RowKit
theorem own_less {w:World} {B B' e z:Nat} {v:Value} {n:Nat} {xs:List Value} (h:w.ownsRow B e z v n xs) (hB:B'≤B):w.ownsRow B' e z v n xs:=by
 refine ⟨h.1,?_⟩
 rcases h.2 with h2 | ⟨g,cap,cur,hv,hg,r⟩
 ·exact Or.inl h2
 ·exact Or.inr ⟨g,cap,cur,hv,Nat.le_trans hB hg,r⟩
theorem map_snoc {α:Type} (f:Nat→α) (k:Nat):(List.range (k+1)).map f=(List.range k).map f++[f k]:=by rw [List.range_succ,List.map_append];rfl
theorem PgI.start (w:World) (o:Obj) (C:Nat):PgI (w.heap.size+1) (w.heap.size+1) (w.alloc o) ((w.alloc o).alloc (.cells (tbC (fun _=>0) C (.slice none 0 0) (.slice none 0 0)) 47)) (fun _=>0) C (.slice none 0 0) (.slice none 0 0) [] []:=by
 refine ⟨?_,Nat.le_refl _,heap_alloc2_new w _ _,World.ownsRow_nil _ _ _ _,World.ownsRow_nil _ _ _ _⟩
 have h:Below (w.alloc o).heap.size (w.alloc o) _:=(Below.refl _ _).alloc (Nat.le_refl _) (.cells (tbC (fun _=>0) C (.slice none 0 0) (.slice none 0 0)) 47)
 simpa using h
theorem Fr.belowOf {a w w':World} {g B:Nat} (h:Fr [g] w w') (hb:Below B a w) (hB:B≤w.heap.size) (hg:B≤g):Below B a w':=hb.trans ⟨h.os,h.tape,h.output,h.size,fun k hk=>h.block k (Nat.lt_of_lt_of_le hk hB) (by simp;omega)⟩
section
attribute [local go_sem ↓] Go.wp_at_zero Go.wp_at_succ zvTb
attribute [local go_sem] zcTb_size zcTb_ne aggcells
set_option maxRecDepth 20000 in
set_option maxHeartbeats 2000000 in
theorem parsed_any (w:World) (C:Nat) (cs gs ns:ByteArray) (hc:cs.size=256) (hg:gs.size≤1000) (hn:ns.size≤1000) :
  Calls Tryz.prog 130 #[.int .i64 (C:Int),.string cs,.string gs,.string ns] w fun e w'=>Below w.heap.size w w'∧∃ gv nv,e=.returned (.agg (tbC (bt cs) C gv nv))∧BR w' w.heap.size gv ((List.range gs.size).map fun q=>decide (bt gs q=1))∧NR w' w.heap.size nv ((List.range ns.size).map (bt ns)):=by
 have HR1:Hid ((w.alloc (.cells zcTb 47)).heap[w.heap.size]?=some (.cells zcTb 47 (0,0))):=heap_alloc_new _ _
 have HB1:Hid (Below w.heap.size w (w.alloc (.cells zcTb 47))):=(Below.refl _ _).alloc (Nat.le_refl _) _
 have HO0:=hide (PgI.start w (.cells zcTb 47) C)
 have hcI:(cs.size:Int)=256:=by omega
 have hgI:(gs.size:Int)≤1000:=by omega
 have hnI:(ns.size:Int)≤1000:=by omega
 have HG:=hide hg
 have HN:=hide hn
 have HCS:=hide hc
 clear hc hg hn
 go_enter Tryz.func130,Tryz.ntmps130
 go_wp2_with (refine store_row rfl 47 _ _ rfl rfl (w.heap.size+1) _ rfl rfl 47 _ (heap_alloc2_new w _ (Obj.cells zcTb 47)) (by rw [tbC_build,tbC_size];exact infoT) (by rw [tbC_build,tbC_size,zcTb_size]) (by rw [tbC_build];exact tbC_one _ _ _ _ _ _ _ _) ?_;rw [tbC_build,setRow_alloc2'])
 generalize (w.alloc (.cells zcTb 47)).alloc (.cells (tbC (fun _=>0) C (.slice none 0 0) (.slice none 0 0)) 47)=w2 at *
 generalize hw1:w.alloc (.cells zcTb 47)=w1 at *
 clear hw1
 generalize hH1:w.heap.size+1=H1 at *
 have HH1:=hide hH1
 clear hH1
 go_loopw [10] (fun bx wr=>∃ b:Nat,bx=.int .i64 (b:Int)∧Hid (b≤256∧PgI H1 H1 w1 wr (fun c=>if c < b then bt cs c else 0) C (.slice none 0 0) (.slice none 0 0) [] [])) (fun bx _=>lenLeft 256 bx)
 case atStart=>exact ⟨0,rfl,Nat.zero_le _,(unhide HO0).congr (fun b _=>by rw [if_neg (Nat.not_lt_zero _)])⟩
 case round =>
  clear HO0
  rename World=>wr
  obtain ⟨b,rfl,HH⟩:=hrel
  obtain ⟨hb256,hI⟩:=unhide HH
  clear HH
  by_cases hlt:b < 256
  ·have hbI:(b:Int) < 256:=by omega
   have hbS:(b:Int) < (cs.size:Int):=by omega
   have hbN:b < cs.size:=by omega
   have HLT:=hide hlt
   have hbt:=bt_at cs b
   have hbt2:((bt cs b:Nat):Int) < 256:=by have:=bt_le cs b;omega
   have h0:(0:Int)≤(b:Int):=by omega
   have h1:((b:Int)).toNat=b:=by omega
   have y0:wr.cell? ⟨H1,b,none⟩=some (.int .i64 ((0:Nat):Int)):=by rw [cell_of_row _ _ _ _ _ _ hI.bT,tbC_cl _ _ _ _ hlt,if_neg (Nat.lt_irrefl _)]
   have z0:wr.frozen? ⟨H1,b,none⟩=false:=frozen_of_row _ _ _ _ _ hI.bT
   have HN1:Hid (PgI H1 H1 w1 (wr.setCell ⟨H1,b,none⟩ (.int .i64 ((bt cs b:Nat):Int))) (fun c=>if c < b+1 then bt cs c else 0) C (.slice none 0 0) (.slice none 0 0) [] []):=(hI.cls hlt (bt cs b)).congr (fun c _=>by
    by_cases e:c=b
    ·subst e;rw [if_pos rfl,if_pos (by omega)]
    ·rw [if_neg e]
     by_cases e2:c < b
     ·rw [if_pos e2,if_pos (by omega)]
     ·rw [if_neg e2,if_neg (by omega)])
   clear hI hb256 hlt
   go_wp2_with fail
   go_roundw
   case rel=>exact ⟨b+1,by go_num,unhide HLT,unhide HN1⟩
   case measure=>have:=unhide HLT;simp [lenLeft,intOf];omega
  ·have hb2:¬(b:Int) < 256:=by omega
   have HI2:Hid (PgI H1 H1 w1 wr (bt cs) C (.slice none 0 0) (.slice none 0 0) [] []):=hI.congr (fun c hc=>by rw [if_pos (by omega)])
   clear hI hb256 hlt
   go_wp2_with fail
   go_loopw [11] (fun ix wq=>∃ (i:Nat) (ga:Option Addr) (gc:Nat) (bs:List Bool),ix=.int .i64 (i:Int)∧Hid (i≤gs.size∧bs=(List.range i).map (fun q=>decide (bt gs q=1))∧PgI H1 H1 w1 wq (bt cs) C (.slice ga bs.length gc) (.slice none 0 0) bs [])) (fun ix _=>lenLeft gs.size ix)
   case atStart=>exact ⟨0,none,0,[],rfl,Nat.zero_le _,rfl,unhide HI2⟩
   case round =>
    clear HI2
    rename World=>wq
    obtain ⟨i,ga,gc,bs,rfl,HH⟩:=hrel
    obtain ⟨hi,hbs,hI⟩:=unhide HH
    clear HH
    by_cases hlt:i < gs.size
    ·have hiI:(i:Int) < (gs.size:Int):=by omega
     have HLT:=hide hlt
     have hbt:=bt_at gs i
     have hbt2:((bt gs i:Nat):Int) < 256:=by have:=bt_le gs i;omega
     have h0:(0:Int)≤(i:Int):=by omega
     have h1:((i:Int)).toNat=i:=by omega
     have HSN:Hid (bs++[decide (bt gs i=1)]=(List.range (i+1)).map (fun q=>decide (bt gs q=1))):=by show _=_;rw [map_snoc,hbs]
     have c7:wq.cell? ⟨H1,257,none⟩=some (.slice ga bs.length gc):=by rw [cell_of_row _ _ _ _ _ _ hI.bT,tbC_257]
     have hlH:H1 < wq.heap.size:=hI.lt
     have HXA:=hide (fun y:Bool=>(hI.alloc (Obj.cells #[.bool y] 4)).drew)
     have HCE:Hid (∀ y:Bool,((wq.alloc (Obj.cells #[.bool y] 4)).drew).cell? ⟨wq.heap.size,0,none⟩=some (.bool y)):=fun y=>by rw [cell_drew];exact new_cell rfl
     have HLEN:Hid (bs.length≤3000000):=by show _≤_;rw [hbs];have:=unhide HG;simp;omega
     have hyd:(((bt gs i:Nat):Int) == 1)=decide (bt gs i=1):=by
      by_cases h:bt gs i=1
      ·rw [h];rfl
      ·rw [decide_eq_false h];exact beq_eq_false_iff_ne.2 (by omega)
     rw [←hyd] at HSN
     clear hI hi hbs hlt hyd
     go_upto_region 9 with fail
     go_region_law (refine appBs (by rfl) _ _ (by rfl) H1 _ bs (by rfl) (by exact (unhide HXA _).rg) wq.heap.size _ (by rfl) (by exact unhide HCE _) (unhide HLEN) (by simp;omega) (wq.heap.size+1) (by simp) ?_;intro g5 cap5 w8 ho hgrow hlies hlt5;obtain ⟨c9,f9,hP9⟩:=(unhide HXA _).grant hgrow ho;have HP9:=hide hP9;clear ho hgrow hlies hP9)
     all_goals
      go_wp2_with fail
      go_roundw
      case rel =>
       exact ⟨i+1,_,_,bs++[_],by go_num,unhide HLT,unhide HSN,by rw [List.length_append];exact unhide HP9⟩
      case measure=>have:=unhide HLT;simp [lenLeft,intOf];omega
    ·have hi2:i=gs.size:=by omega
     subst hi2
     have HI3:=hide hI
     have HBS:=hide hbs
     clear hI hi hbs hlt
     go_wp2_with fail
     go_loopw [12] (fun jx wy=>∃ (j:Nat) (na:Option Addr) (nc:Nat) (xs:List Nat),jx=.int .i64 (j:Int)∧Hid (j≤ns.size∧xs=(List.range j).map (bt ns)∧PgI H1 H1 w1 wy (bt cs) C (.slice ga bs.length gc) (.slice na xs.length nc) bs xs)) (fun jx _=>lenLeft ns.size jx)
     case atStart=>exact ⟨0,none,0,[],rfl,Nat.zero_le _,rfl,unhide HI3⟩
     case round =>
      clear HI3
      rename World=>wy
      obtain ⟨j,na,nc,xs,rfl,HH⟩:=hrel
      obtain ⟨hj,hxs,hI⟩:=unhide HH
      clear HH
      by_cases hlt:j < ns.size
      ·have hjI:(j:Int) < (ns.size:Int):=by omega
       have HLT:=hide hlt
       have hbt:=bt_at ns j
       have hbt2:((bt ns j:Nat):Int) < 256:=by have:=bt_le ns j;omega
       have h0:(0:Int)≤(j:Int):=by omega
       have h1:((j:Int)).toNat=j:=by omega
       have HSN:Hid (xs++[bt ns j]=(List.range (j+1)).map (bt ns)):=by show _=_;rw [map_snoc,hxs]
       have c8:wy.cell? ⟨H1,258,none⟩=some (.slice na xs.length nc):=by rw [cell_of_row _ _ _ _ _ _ hI.bT,tbC_258]
       have hlH:H1 < wy.heap.size:=hI.lt
       have hyw:IntKind.i64.wrap ((bt ns j:Nat):Int)=((bt ns j:Nat):Int):=wrap_i64 _ (by have:=bt_le ns j;omega)
       generalize bt ns j=y at *
       have HXA:=hide (hI.alloc (Obj.cells #[.int .i64 (y:Int)] 3)).drew
       have HCE:Hid (((wy.alloc (Obj.cells #[.int .i64 (y:Int)] 3)).drew).cell? ⟨wy.heap.size,0,none⟩=some (.int .i64 (y:Int))):=by show _=_;rw [cell_drew];exact new_cell rfl
       have HLEN:Hid (xs.length≤3000000):=by show _≤_;rw [hxs];have:=unhide HN;simp;omega
       clear hI hj hxs hlt
       go_upto_region 13 with fail
       go_region_law (refine app1s (by rfl) _ _ (by rfl) H1 _ xs (by rfl) (by exact (unhide HXA).rn) wy.heap.size y (by rfl) (by exact unhide HCE) (unhide HLEN) (by simp;omega) (wy.heap.size+1) (by simp) ?_;intro g5 cap5 w8 ho hgrow hlies hlt5;obtain ⟨c9,f9,hP9⟩:=(unhide HXA).edge hgrow ho;have HP9:=hide hP9;clear ho hgrow hlies hP9)
       all_goals
        go_wp2_with fail
        go_roundw
        case rel=>exact ⟨j+1,_,_,xs++[y],by go_num,unhide HLT,unhide HSN,by rw [List.length_append];exact unhide HP9⟩
        case measure=>have:=unhide HLT;simp [lenLeft,intOf];omega
      ·have hj2:j=ns.size:=by omega
       subst hj2
       have HI4:=hide hI
       have HXS:=hide hxs
       have HRQ:Hid (wy.heap[w.heap.size]?=some (.cells zcTb 47 (0,0))):=(hI.below.block _ (by have:=unhide HH1;omega)).trans (unhide HR1)
       have HBQ:Hid (Below w.heap.size w wy):=(unhide HB1).trans (hI.below.mono (by have:=unhide HH1;omega))
       clear hI hj hxs hlt
       go_wp2_with (first
        | refine wpList_load_row rfl 47 _ rfl H1 rfl 47 _ (0,0) _ (unhide HI4).bT Tryz.underlying47 rfl (by rw [tbC_size];exact infoT) ?_
        | refine store_row rfl 47 _ _ rfl rfl w.heap.size _ rfl rfl 47 _ (unhide HRQ) (by rw [tbC_size];exact infoT) (by rw [tbC_size,zcTb_size]) (tbC_one _ _ _ _ _ _ _ _) ?_)
       refine bodyPost_ret (results_cell_row (p:=8) (ty:=47) rfl _ _ w.heap.size 47 _ (0,0) _ rfl (setRow_heap _ _ _ _ _ _ (unhide HRQ)) Tryz.underlying47 rfl (by rw [tbC_size];exact infoT)) rfl ?_
       have hle:w.heap.size≤H1:=by have:=unhide HH1;omega
       refine ⟨((Fr.ofRow _ w.heap.size _).belowOf (unhide HBQ) (unhide HBQ).size (Nat.le_refl _)),_,_,rfl,?_,?_⟩
       ·rw [←unhide HBS];exact own_less ((Fr.ofRow _ _ _).own (unhide HI4).rg (fun q hq=>by simpa using own_off (unhide HI4).rg (unhide HRQ) (by decide) q hq)) hle
       ·rw [←unhide HXS];exact own_less ((Fr.ofRow _ _ _).own (unhide HI4).rn (fun q hq=>by simpa using own_off (unhide HI4).rn (unhide HRQ) (by decide) q hq)) hle
end
end Mc
end Go.Proofs.YtobfpgoepaeknaaGreat
