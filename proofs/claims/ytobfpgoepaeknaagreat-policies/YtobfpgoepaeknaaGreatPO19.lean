/-
  Texts that are too long for a pattern; a text that was read, with the weight of what the document reads.
  Lines of a text; what a table's text is to be.
  table.OfPattern: what it answers, by what is to be answered.
  Lines of a text: policies.splitLines.
-/
import Derived.Test.YtobfpgoepaeknaaGreatPO17
import Derived.Test.YtobfpgoepaeknaaGreatPO18
import Derived.Test.YtobfpgoepaeknaaGreatPO03
import Derived.BigQuiet
namespace Go.Proofs.YtobfpgoepaeknaaGreat
namespace Mc
open Go.RowKit
attribute [local go_sem ↓] Go.wp_at_zero Go.wp_at_succ
attribute [local go_sem ↓] zvT
attribute [local go_sem] zcT_size zcT_ne cells_agg
theorem rf_same {p:ByteArray} {n n':Nat} {r r':List Rn × Int} (h:rfF n 0 p 0 0 []=some r) (h':rfF n' 0 p 0 0 []=some r'):r=r':=by
 have a:=rfF_mono n (max n n') 0 p 0 0 [] r (Nat.le_max_left _ _) h
 have b:=rfF_mono n' (max n n') 0 p 0 0 [] r' (Nat.le_max_right _ _) h'
 rw [a] at b
 exact Option.some.inj b
theorem read_okV {p:ByteArray} {y:Go.Proofs.YtobfpgoepaeknaaGreat.St} {i:Int} (h60:p.size≤60) (hr:Rds p 0 0 x0 (y,i)) (h0:(readErr p y).1=0) :
  ∃ n rs k S,rfF n 0 p 0 0 []=some (rs,((k:Nat):Int))∧Dr rs S (k:Int)∧S.wt≤12:=by
 have hn:¬(y.s.bad=true∨y.s.k < p.size):=fun h=>by rw [readErr_bad h] at h0;cases h0
 have hb:y.s.bad=false:=by
  cases hbb:y.s.bad
  ·rfl
  ·exact absurd (Or.inl hbb) hn
 have hk:¬y.s.k < p.size:=fun h=>hn (Or.inr h)
 have hw:¬12 < lastW (weighAll y.ns):=fun h=>by rw [readErr_big hb hk h] at h0;cases h0
 obtain ⟨R,n,rs,k,S,d,rfl,e,f,g,hv⟩:=read_meets p y i h60 hr hn
 have h3:=rfF_wf n 0 p 0 0 [] (rs,k) f (fun k r h=>by simp at h) (fun h=>by omega)
 obtain ⟨k',rfl⟩:=Int.eq_ofNat_of_zero_le h3.2.1
 refine ⟨n,rs,k',S,f,g,?_⟩
 have e2:R.wt=S.wt:=congrArg Prod.snd hv
 rw [e] at hw
 unfold cl at hw
 split at hw<;>omega
set_option maxRecDepth 20000 in
set_option maxHeartbeats 2000000 in
theorem OfPattern_long (w:World) (p:ByteArray) (hp:60 < p.size) :
  Calls Tryz.prog 19 #[.string p] w fun e w'=>e=.returned (.tuple #[.agg zcT,.int .i64 1])∧Below w.heap.size w w':=by
 have hB0:Below w.heap.size w (w.alloc (.cells zcT 47)):=(Below.refl _ _).alloc (Nat.le_refl _) _
 have HR:=hide (Read_long (w.alloc (.cells zcT 47)) p hp)
 have HB0:=hide hB0
 clear hp hB0
 go_enter Tryz.func19,Tryz.ntmps19
 go_wp2_with fail
 refine (unhide HR).mono ?_
 rintro e w1 ⟨rfl,hw1⟩
 clear HR
 have hR1:w1.heap[w.heap.size]?=some (.cells zcT 47 (0,0)):=(hw1.block _ (by simp)).trans (heap_alloc_new w _)
 have hbw1:Below w.heap.size w w1:=(unhide HB0).trans (hw1.mono (by simp))
 have hsz1:w.heap.size < w1.heap.size:=(Array.getElem?_eq_some_iff.1 hR1).1
 have hb2:Below w1.heap.size w1 (w1.alloc (Obj.cells #[.slice none 0 0,.slice none 0 0] 86)):=(Below.refl _ _).alloc (Nat.le_refl _) _
 have HR2:=hide ((hb2.block _ hsz1).trans hR1)
 have HB2:=hide (below_then hbw1 (Obj.cells #[.slice none 0 0,.slice none 0 0] 86))
 clear hw1 hR1 hbw1 hb2
 go_wp2_with (refine wpList_store_row0 rfl 47 _ _ rfl rfl w.heap.size _ rfl rfl 47 _ (unhide HR2) (by rw [zcT_size];kernel_rfl) (by rw [zcT_size]) (tabA_one _ _ _ _ _ _ _ _) ?_)
 refine bodyPost_ret (v:=.tuple #[.agg zcT,.int .i64 1])
  (results_cell_row_tmp (p:=2) (u:=3) (ty:=47) rfl _ _ w.heap.size 47 _ (0,0) _ rfl (setRow_heap _ _ _ _ _ _ (unhide HR2)) Tryz.underlying47 rfl (by rw [zcT_size];kernel_rfl) _ rfl) rfl
  ⟨rfl,below_setRow (unhide HB2) (Nat.le_refl _) _⟩
end Mc
end Go.Proofs.YtobfpgoepaeknaaGreat
namespace Go.Proofs.YtobfpgoepaeknaaGreat
namespace Mc
open Go.RowKit
def cutS (p:ByteArray):Nat→List ByteArray × Nat
 | 0=>([],0)
 | i+1=>if bt p i=10 then ((cutS p i).1++[p.extract (cutS p i).2 i],i+1) else cutS p i
def cutL (p:ByteArray):List ByteArray:=(cutS p p.size).1
def cutR (p:ByteArray):ByteArray:=p.extract (cutS p p.size).2 p.size
theorem cutS_le (p:ByteArray):∀ i,(cutS p i).2≤i
 | 0=>Nat.le_refl _
 | i+1=>by
  have:=cutS_le p i
  unfold cutS
  split
  ·exact Nat.le_refl _
  ·omega
theorem cutS_len (p:ByteArray):∀ i,(cutS p i).1.length≤i
 | 0=>Nat.le_refl _
 | i+1=>by
  have:=cutS_len p i
  unfold cutS
  split
  ·simp;omega
  ·omega
theorem cutS_yes {p:ByteArray} {i:Nat} (h:bt p i=10):cutS p (i+1)=((cutS p i).1++[p.extract (cutS p i).2 i],i+1):=by show (if _ then _ else _)=_;rw [if_pos h]
theorem cutS_no {p:ByteArray} {i:Nat} (h:¬bt p i=10):cutS p (i+1)=cutS p i:=by show (if _ then _ else _)=_;rw [if_neg h]
theorem cutR_sz (p:ByteArray):(cutR p).size≤p.size:=by unfold cutR;rw [ByteArray.size_extract];omega
def PatA (p t:ByteArray) (er:Int):Prop :=
 (60 < p.size∧t=⟨#[]⟩∧er=1)∨(p.size≤60∧∃ y i,Rds p 0 0 x0 (y,i)∧(((readErr p y).1≠0∧t=⟨#[]⟩∧er=(readErr p y).1)∨((readErr p y).1=0∧∃ n rs k S x,rfF n 0 p 0 0 []=some (rs,((k:Nat):Int))∧Dr rs S (k:Int)∧S.wt≤12∧t=strN x∧TabAns S.L x er)))
end Mc
end Go.Proofs.YtobfpgoepaeknaaGreat
namespace Go.Proofs.YtobfpgoepaeknaaGreat
namespace Mc
open Go.RowKit
theorem OfPattern_P (w:World) (p:ByteArray) :
  Calls Tryz.prog 19 #[.string p] w fun e w'=>Below w.heap.size w w'∧((∃ er:Int,er≠0∧e=.returned (.tuple #[.agg zcT,.int .i64 er])∧PatA p ⟨#[]⟩ er)∨(∃ L S C nx gr cl nc gv nv,e=.returned (.tuple #[.agg (tabA cl C gv nv),.int .i64 0])∧BRow w' w.heap.size gv ((List.range S).map gr)∧NRow w' w.heap.size nv ((List.range S).flatMap (fun i=>(List.range C).map (nc i)))∧TabOf L S C nx gr cl nc∧PatA p (strN (layTab S C cl gr nc)) 0)):=by
 by_cases hp:p.size≤60
 ·refine (OfPattern_any w p hp).mono ?_
  rintro e w' ⟨hw',y,i,hr,hbad,hgood⟩
  refine ⟨hw',?_⟩
  by_cases h0:(readErr p y).1=0
  ·obtain ⟨R,n,rs,k,S,f1,f2,f3,f4,f5,hT⟩:=hgood h0
   obtain ⟨n',rs',k',S',g1,g2,g3⟩:=read_okV hp hr h0
   have hsame:=rf_same f3 g1
   simp only [Prod.mk.injEq] at hsame
   obtain ⟨rfl,rfl⟩:=hsame
   have e1:S=S':=Dr.same f4 g2
   subst e1
   rw [f5] at hT
   rcases hT with ⟨v,rfl,S',C,nx,gr,cl,nc,gv,nv,rfl,r1,r2,htab⟩ | ⟨rfl,hmany⟩
   ·exact .inr ⟨_,S',C,nx,gr,cl,nc,gv,nv,rfl,r1,r2,htab,.inr ⟨hp,y,i,hr,.inr ⟨h0,n',rs,k',S,_,g1,g2,g3,rfl,.inl ⟨rfl,_,_,_,_,_,_,htab,rfl⟩⟩⟩⟩
   ·exact .inl ⟨3,by decide,rfl,.inr ⟨hp,y,i,hr,.inr ⟨h0,n',rs,k',S,[],g1,g2,g3,rfl,.inr ⟨rfl,rfl,hmany⟩⟩⟩⟩
  ·exact .inl ⟨_,h0,hbad h0,.inr ⟨hp,y,i,hr,.inl ⟨h0,rfl,rfl⟩⟩⟩
 ·refine (OfPattern_long w p (by omega)).mono ?_
  rintro e w' ⟨rfl,hw'⟩
  exact ⟨hw',.inl ⟨1,by decide,rfl,.inl ⟨by omega,rfl,rfl⟩⟩⟩
end Mc
end Go.Proofs.YtobfpgoepaeknaaGreat
namespace Go.Proofs.YtobfpgoepaeknaaGreat
namespace Mc
open Go.RowKit
attribute [local go_sem ↓] Go.wp_at_zero Go.wp_at_succ
def txC (L:List ByteArray):List Value:=L.map Value.string
def TxR (w:World) (B:Nat) (v:Value) (L:List ByteArray):Prop:=w.ownsRow B 9 1 v L.length (txC L)
theorem TxR.nil (w:World) (B:Nat):TxR w B (.slice none 0 0) []:=World.ownsRow_nil _ _ _ _
theorem TxR.of {w:World} {B:Nat} {v:Value} {L:List ByteArray} {y:ByteArray} (h:w.ownsRow B 9 1 v (L.length+1) (txC L++[.string y])):TxR w B v (L++[y]):=by
 unfold TxR txC
 rw [List.length_append,List.map_append];exact h
theorem TxR.at {w:World} {B:Nat} {va:Option Addr} {vc:Nat} {L:List ByteArray} (h:TxR w B (.slice va L.length vc) L) {k:Nat} (hk:k < L.length):∃ g,va=some ⟨g,0,none⟩∧g < w.heap.size∧w.cell? ⟨g,k,none⟩=some (.string (L.getD k ByteArray.empty)):=by
 have h':w.ownsRow B 9 1 (.slice va L.length vc) L.length (txC L):=h
 obtain ⟨g,cap,he⟩:=own_form h' (by omega)
 simp only [Value.slice.injEq,true_and] at he
 obtain ⟨rfl,rfl⟩:=he
 have:=h'.cells (g:=g) rfl k (.string (L.getD k ByteArray.empty)) (by unfold txC;rw [List.getElem?_map,List.getElem?_eq_getElem hk,List.getD_eq_getElem?_getD,List.getElem?_eq_getElem hk];rfl)
 rw [add0] at this
 exact ⟨g,rfl,(h'.lt g rfl).2,this⟩
theorem TxR.below {w w':World} {B:Nat} {v:Value} {L:List ByteArray} (h:TxR w B v L) (hb:Below w.heap.size w w'):TxR w' B v L:=(Fr.ofBelow hb).own h (by simp)
theorem infoTx:(Tryz.prog.info? 9).map (fun i=>(i.zero,i.size,i.bytes))=some (some (.string ⟨#[]⟩),1,16):=by kernel_rfl
theorem appTx {ops:Array Oper} {rest:List Oper} {o:Oper} {a:Act} {W:World} {Q:Exit→Act→World→Prop} (hgd:o.guard=none) (s x:Operand)
  (ho:o.op=.call { callee:=.builtin .append,args:=#[s,x],argTypes:=#[60,60] }) (B:Nat) (v:Value) (xs:List ByteArray) (hs:a.eval s=v) (hown:TxR W B v xs) (g0:Nat) (y:ByteArray)
  (hx:a.eval x=.slice (some ⟨g0,0,none⟩) 1 1) (hc:W.cell? ⟨g0,0,none⟩=some (.string y)) (hlen:xs.length≤3000000) (hB:B≤W.heap.size) (H:Nat) (hH:W.heap.size=H)
  (h:∀ g cap w',w'.ownsRow B 9 1 (.slice (some ⟨g,0,none⟩) (xs.length+1) cap) (xs.length+1) (txC xs++[.string y])→W.grownBy w' v.ownBlock→(v.ownBlock=some g∨g=H)→g < w'.heap.size→wpList Tryz.prog ops Q rest (a.put o.dst (.slice (some ⟨g,0,none⟩) (xs.length+1) cap)) w'):wpList Tryz.prog ops Q (o ::rest) a W:=by
 obtain ⟨i,i0,i1,i2,i3⟩:=info_of infoTx
 exact wpList_append_lies W hgd s x 60 ho B 9 i (.string ⟨#[]⟩) 1 16 Tryz.underlying60 i0 i1 i2 i3 rfl (by decide) v xs.length (txC xs) hs hown ⟨g0,0,none⟩ 1 1 [.string y] hx rfl (one_cells hc) (by intro u hu;simp at hu;subst hu;rfl) (by decide) (by unfold maxLen;omega) (by omega) hB H hH h
structure CtI (w wr:World) (va:Option Addr) (vc:Nat) (L:List ByteArray):Prop where
 below:Below w.heap.size w wr
 row:TxR wr w.heap.size (.slice va L.length vc) L
theorem CtI.alloc {w wr:World} {va:Option Addr} {vc:Nat} {L:List ByteArray} (h:CtI w wr va vc L) (o:Obj):CtI w (wr.alloc o) va vc L:=⟨h.below.alloc h.below.size _,(Fr.ofAlloc wr o).own h.row (by simp)⟩
theorem CtI.push {w wr w2:World} {va:Option Addr} {vc:Nat} {L:List ByteArray} (h:CtI w wr va vc L) {g cap:Nat} {y:ByteArray} (hgrow:wr.grownBy w2 (.slice va L.length vc:Value).ownBlock) (ho:w2.ownsRow w.heap.size 9 1 (.slice (some ⟨g,0,none⟩) (L.length+1) cap) (L.length+1) (txC L++[.string y])):CtI w w2 (some ⟨g,0,none⟩) cap (L++[y]):=by
 refine ⟨h.below.grown hgrow h.below.size (fun q hq=>(World.ownsRow.lt h.row q hq).1),?_⟩
 rw [List.length_append]
 exact TxR.of ho
theorem CtI.empty (w:World):CtI w (w.alloc (.cells #[] 9)) (some ⟨w.heap.size,0,none⟩) 0 [] :=
 ⟨(Below.refl _ _).alloc (Nat.le_refl _) _,rfl,.inr ⟨_,0,_,rfl,Nat.le_refl _,heap_alloc_new _ _,Nat.le_refl _,by unfold maxLen;omega,rfl,rfl⟩⟩
theorem CtI.nil (w:World):CtI w w none 0 []:=⟨Below.refl _ _,TxR.nil _ _⟩
set_option maxRecDepth 20000 in
set_option maxHeartbeats 2000000 in
theorem splitLines_any (w:World) (p:ByteArray) (hp:p.size≤284) :
  Calls Tryz.prog 51 #[.string p] w fun e w'=>∃ va vc,e=.returned (.tuple #[.slice va (cutL p).length vc,.string (cutR p)])∧CtI w w' va vc (cutL p):=by
 have hpI:(p.size:Int)≤284:=by omega
 have HP:=hide hp
 have HC0:Hid (CtI w (w.alloc (.cells #[] 9)) (some ⟨w.heap.size,0,none⟩) 0 (cutS p 0).1):=CtI.empty w
 clear hp
 go_enter Tryz.func51,Tryz.ntmps51
 go_wp2_with fail
 go_loopw [4,5,6] (fun lx bx ix wr=>∃ (i:Nat) (va:Option Addr) (vc:Nat),lx=.slice va (cutS p i).1.length vc∧bx=.int .i64 ((cutS p i).2:Int)∧ix=.int .i64 (i:Int)∧Hid (i≤p.size∧CtI w wr va vc (cutS p i).1)) (fun _ _ ix _=>p.size - (intOf ix).toNat)
 case atStart=>exact ⟨0,_,_,rfl,rfl,rfl,Nat.zero_le _,unhide HC0⟩
 case round =>
  clear HC0
  rename World=>wr
  obtain ⟨i,va,vc,rfl,rfl,rfl,HH⟩:=hrel
  obtain ⟨hi,hI⟩:=unhide HH
  clear HH
  have hle:=cutS_le p i
  have hll:=cutS_len p i
  by_cases hlt:i < p.size
  ·have hiI:(i:Int) < (p.size:Int):=by omega
   have hi0:(0:Int)≤(i:Int):=by omega
   have hi1:((i:Int)).toNat=i:=by omega
   have haI:((cutS p i).2:Int)≤(i:Int):=by omega
   have ha0:(0:Int)≤((cutS p i).2:Int):=by omega
   have ha1:(((cutS p i).2:Int)).toNat=(cutS p i).2:=by omega
   have b0:=bt_at p i
   have HI:=hide hI
   have HLT:=hide hlt
   by_cases h10:bt p i=10
   ·have HN:=hide (cutS_yes h10)
    rw [h10] at b0
    generalize cutS p i=c at *
    obtain ⟨L,a⟩:=c
    have HLL:Hid (L.length≤i):=hll
    have HXA:=hide (hI.alloc (Obj.cells #[.string (p.extract a i)] 9))
    have HSZ:Hid (w.heap.size≤wr.heap.size):=hI.below.size
    clear hi hI hle hll h10
    go_wp2_with (at_builtin;refine appTx rfl (.tmp 18) (.tmp 23) rfl w.heap.size _ L rfl (unhide HXA).row wr.heap.size (p.extract a i) rfl (new_cell rfl) (by have:=unhide HLL;have:=unhide HLT;have:=unhide HP;omega) (by have:=unhide HSZ;simp;omega) (wr.heap.size+1) (by simp) ?_;intro g5 cap5 w8 ho hgrow hlies hlt5;have HP9:=hide ((unhide HXA).push hgrow ho);clear ho hgrow hlies)
    go_roundw
    case rel=>exact ⟨i+1,some ⟨g5,0,none⟩,cap5,by rw [unhide HN];simp,by rw [unhide HN];go_num,by go_num,unhide HLT,by rw [unhide HN];exact unhide HP9⟩
    case measure=>have:=unhide HLT;simp [intOf];omega
   ·have HN:=hide (cutS_no h10)
    have hbI:¬((bt p i:Nat):Int)=10:=by omega
    generalize bt p i=bb at *
    generalize cutS p i=c at *
    obtain ⟨L,a⟩:=c
    clear hi hI hle hll h10
    go_wp2_with fail
    go_roundw
    case rel=>exact ⟨i+1,va,vc,by rw [unhide HN],by rw [unhide HN],by go_num,unhide HLT,by rw [unhide HN];exact unhide HI⟩
    case measure=>have:=unhide HLT;simp [intOf];omega
  ·have hi2:i=p.size:=by omega
   subst hi2
   have HI:Hid (CtI w wr va vc (cutL p)):=hI
   have haI:((cutS p p.size).2:Int)≤(p.size:Int):=by omega
   have ha0:(0:Int)≤((cutS p p.size).2:Int):=by omega
   have ha1:(((cutS p p.size).2:Int)).toNat=(cutS p p.size).2:=by omega
   have HR:Hid (cutR p=p.extract (cutS p p.size).2 p.size∧cutL p=(cutS p p.size).1):=⟨rfl,rfl⟩
   clear hi hlt hI hle hll
   generalize cutS p p.size=c at *
   obtain ⟨L,a⟩:=c
   go_wp2_with fail
   go_quiet (fail)
   go_wp2_with fail
   go_ret2
   exact ⟨va,vc,by rw [(unhide HR).1,(unhide HR).2];rfl,below_drewN (unhide HI).below _,(unhide HI).row⟩
end Mc
end Go.Proofs.YtobfpgoepaeknaaGreat
