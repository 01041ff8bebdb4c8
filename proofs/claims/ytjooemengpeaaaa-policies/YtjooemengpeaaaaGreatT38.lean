/-
  The document's answer: does a test tell two sets apart?
  The document's answer: the finder of states in memory.
  The document's answer: the number of a state.
  The document's answer: the states one after the other: what is kept on the way.
-/
import Derived.Test.YtjooemengpeaaaaGreatT37
namespace Go.Proofs.YtjooemengpeaaaaGreat
namespace Mc
open Go.RowKit
attribute [local go_sem ↓] Go.wp_at_zero Go.wp_at_succ
theorem trk_base {rs0:List Rn} {b n:Nat} {wr w2:World} {rs1 rs2:List Rn} (h:TrK rs0 b (wr.drewN n) rs1 w2 rs2):TrK rs0 b wr rs1 w2 rs2:=⟨⟨⟨h.fy.below.os,h.fy.below.tape,h.fy.below.output,h.fy.below.size,h.fy.below.block⟩,h.fy.keep,h.fy.row⟩,h.rt,h.gr,h.ex⟩
def Tells (s:ByteArray) (A B:Lang):Prop:=¬(derS (bytesN s) A []↔derS (bytesN s) B [])
def TstA (rs0:List Rn) (b:Nat) (w:World) (rs:List Rn) (w':World) (T:List ByteArray) (A B:Lang) (e:Ending):Prop:=∃ (y:Bool) (rs':List Rn),e=.returned (.bool y)∧TrK rs0 b w rs w' rs'∧(y=true→∃ s∈T,Tells s A B)
theorem bool_tells {y1 y2:Bool} {p q:Prop} (h1:y1=true↔p) (h2:y2=true↔q) (h:y1≠y2):¬(p↔q):=fun e=>by
 apply h
 cases y1<;>cases y2<;>simp_all
set_option maxRecDepth 20000 in
set_option maxHeartbeats 2000000 in
theorem tested_any {rs0:List Rn} {U:List (List Nm)} (hT:TrC rs0 U) {b:Nat} (w:World) (rs:List Rn) (hb:RtS w b rs) (hg:GrowT rs0 rs) (gf:Nat) (bv sv:Value) (ta:Option Addr) (tc:Nat) (T:List ByteArray) (hf:w.heap[gf]?=some (.cells #[.pointer (some ⟨b,0,none⟩),bv,sv,.slice ta T.length tc] 114 (0,0))) (B0:Nat) (hR:SRow w B0 (.slice ta T.length tc) T) (hTz:∀ s∈T,s.size≤67108864) (hTl:T.length≤1000000)
  (B1 B2:Nat) (u v:Value) (X Y:List ByteArray) (hu:SRow w B1 u X) (hv:SRow w B2 v Y) (hX:VSet rs0 rs U X) (hY:VSet rs0 rs U Y) :
  Calls Tryz.prog 130 #[.pointer (some ⟨gf,0,none⟩),u,v] w fun e w'=>TstA rs0 b w rs w' T (stB rs X) (stB rs Y) e:=by
 obtain ⟨ua,uc,rfl⟩:=hu.form
 obtain ⟨xa,xc,rfl⟩:=hv.form
 have hTI:(T.length:Int)≤1000000:=by omega
 have HT:=hide hT
 have HRT:=hide hb
 have HG:=hide hg
 have HF:=hide hf
 have HR:=hide hR
 have HTZ:=hide hTz
 have HU:=hide hu
 have HV:=hide hv
 have HX:=hide hX
 have HY:=hide hY
 have HK0:=hide (TrK.refl hb hg)
 clear hT hb hg hf hR hTz hTl hu hv hX hY
 go_enter Tryz.func130,Tryz.ntmps130
 go_wp2_with fail
 go_loopw [7] (fun ix wr=>∃ (i:Nat) (rs1:List Rn),ix=.int .i64 (i:Int)∧Hid (i≤T.length∧TrK rs0 b w rs wr rs1)) (fun ix _=>T.length - (intOf ix).toNat)
 case atStart=>exact ⟨0,rs,rfl,Nat.zero_le _,unhide HK0⟩
 case round =>
  clear HK0
  rename World=>wr
  obtain ⟨i,rs1,rfl,HH⟩:=hrel
  obtain ⟨hi,hK⟩:=unhide HH
  clear HH
  have hf1:wr.heap[gf]?=_:=hK.fy.at (unhide HRT) (unhide HF) (by decide) (by decide)
  have f0:wr.cell? ⟨gf,0,none⟩=some (.pointer (some ⟨b,0,none⟩)):=by rw [cell_of_row _ _ _ _ _ _ hf1];rfl
  have f3:wr.cell? ⟨gf,3,none⟩=some (.slice ta T.length tc):=by rw [cell_of_row _ _ _ _ _ _ hf1];rfl
  have hgf:gf < wr.heap.size:=(Array.getElem?_eq_some_iff.1 hf1).1
  by_cases hlt:i < T.length
  ·have hiI:(i:Int) < (T.length:Int):=by omega
   have hi0:(0:Int)≤(i:Int):=by omega
   have hi1:((i:Int)).toNat=i:=by omega
   obtain ⟨g,cap,he,ct⟩:=((unhide HR).fy hK.fy (unhide HRT)).at hlt
   simp only [Value.slice.injEq,true_and] at he
   obtain ⟨rfl,rfl⟩:=he
   have hgt:g < wr.heap.size:=World.block_lt_of_cell? wr ⟨g,i,none⟩ ct
   have hmem:T.getD i ByteArray.empty∈T:=by rw [List.getD_eq_getElem?_getD,List.getElem?_eq_getElem hlt];exact List.getElem_mem _
   have hsz:=unhide HTZ _ hmem
   have hX1:=hK.set (unhide HG) (unhide HX)
   have HL1:=hide (fun n=>lets_any (b:=b) (unhide HT) (wr.drewN n) rs1 (RtS_below hK.rt (below_drewN (Below.refl _ _) n)) hK.gr B1 (.slice ua X.length uc) X (show SRow wr B1 (.slice ua X.length uc) X from (unhide HU).fy hK.fy (unhide HRT)) hX1.1 (T.getD i ByteArray.empty) (by omega))
   have HE1:=hide hX1.2
   have HK:=hide hK
   have HLT:=hide hlt
   have HMEM:=hide hmem
   have HSZ:=hide hsz
   clear hi hK hlt hf1 hmem hsz hX1
   generalize hsi:T.getD i ByteArray.empty=s at *
   have HSI:=hide hsi
   clear hsi
   go_upto_region 4 with fail
   go_cut [8] from 10 to 47 (fun yx wx=>∃ (y:Bool) (rs2:List Rn),yx=.bool y∧Hid ((y=true↔derS (bytesN s) (stB rs1 X) [])∧TrK rs0 b wr rs1 wx rs2))
   case first =>
    go_region_with (go_at_call 153;refine (unhide HL1 _).mono ?_;rintro e w3 ⟨y,rs2,rfl,hy,hk⟩;have HK3:=hide (And.intro hy (trk_base hk));clear hy hk)
    all_goals
     go_wp2_with fail
     go_meet
     exact ⟨y,rs2,rfl,unhide HK3⟩
   case rest =>
    rename World=>w3
    obtain ⟨y1,rs2,rfl,HC⟩:=hcut
    have hK3:=(unhide HK).trans (unhide HC).2
    have hf3:w3.heap[gf]?=_:=hK3.fy.at (unhide HRT) (unhide HF) (by decide) (by decide)
    have e0:w3.cell? ⟨gf,0,none⟩=some (.pointer (some ⟨b,0,none⟩)):=by rw [cell_of_row _ _ _ _ _ _ hf3];rfl
    have e3:w3.cell? ⟨gf,3,none⟩=some (.slice (some ⟨g,0,none⟩) T.length tc):=by rw [cell_of_row _ _ _ _ _ _ hf3];rfl
    have hgf3:gf < w3.heap.size:=(Array.getElem?_eq_some_iff.1 hf3).1
    obtain ⟨g',cap',he,ct3⟩:=((unhide HR).fy hK3.fy (unhide HRT)).at (unhide HLT)
    simp only [Value.slice.injEq,true_and,Option.some.injEq,Addr.mk.injEq,and_true] at he
    obtain ⟨rfl,rfl⟩:=he
    have hgt3:g < w3.heap.size:=World.block_lt_of_cell? w3 ⟨g,i,none⟩ ct3
    rw [unhide HSI] at ct3
    have hY1:=hK3.set (unhide HG) (unhide HY)
    have HL2:=hide (fun n=>lets_any (b:=b) (unhide HT) (w3.drewN n) rs2 (RtS_below hK3.rt (below_drewN (Below.refl _ _) n)) hK3.gr B2 (.slice xa Y.length xc) Y (show SRow w3 B2 (.slice xa Y.length xc) Y from (unhide HV).fy hK3.fy (unhide HRT)) hY1.1 s (by have:=unhide HSZ;omega))
    have HE2:=hide hY1.2
    have HK3:=hide hK3
    clear hK3 hf3 hY1 f0 f3 hgf ct hgt HL1
    go_upto_region 5 with fail
    go_cut [9] from 10 to 47 (fun yx wx=>∃ (y:Bool) (rs3:List Rn),yx=.bool y∧Hid ((y=true↔derS (bytesN s) (stB rs2 Y) [])∧TrK rs0 b w3 rs2 wx rs3))
    case first =>
     go_region_with (go_at_call 153;refine (unhide HL2 _).mono ?_;rintro e w4 ⟨y,rs3,rfl,hy,hk⟩;have HK4:=hide (And.intro hy (trk_base hk));clear hy hk)
     all_goals
      go_wp2_with fail
      go_meet
      exact ⟨y,rs3,rfl,unhide HK4⟩
    case rest =>
     rename World=>w4
     obtain ⟨y2,rs3,rfl,HD⟩:=hcut
     have HK4:=hide ((unhide HK3).trans (unhide HD).2)
     clear e0 e3 hgf3 ct3 hgt3 HL2
     by_cases hyy:y1=y2
     ·subst hyy
      go_wp2_with fail
      go_roundw
      case rel=>exact ⟨i+1,rs3,by go_num,unhide HLT,unhide HK4⟩
      case measure=>have:=unhide HLT;simp [intOf];omega
     ·have HTL:Hid (∃ s∈T,Tells s (stB rs X) (stB rs Y)):=⟨s,unhide HMEM,bool_tells (by have:=(unhide HC).1;rw [unhide HE1] at this;exact this) (by have:=(unhide HD).1;rw [unhide HE2] at this;exact this) hyy⟩
      cases y1<;>cases y2
      all_goals first
       | exact absurd rfl hyy
       | (clear hyy
          go_wp2_with fail
          go_ret
          exact ⟨true,rs3,rfl,unhide HK4,fun _=>unhide HTL⟩)
  ·have hi2:i=T.length:=by omega
   subst hi2
   have hiI:¬(T.length:Int) < (T.length:Int):=by omega
   have HK:=hide hK
   clear hi hK hlt hf1
   go_wp2_with fail
   go_ret
   exact ⟨false,rs1,rfl,unhide HK,fun h=>by cases h⟩
end Mc
end Go.Proofs.YtjooemengpeaaaaGreat
namespace Go.Proofs.YtjooemengpeaaaaGreat
namespace Mc
open Go.RowKit
structure Fv (b gf:Nat) (w w':World):Prop where
 os:w'.os=w.os
 tape:w'.tape=w.tape
 output:w'.output=w.output
 size:w.heap.size≤w'.heap.size
 keep:∀ k,k < w.heap.size→k≠b→k≠gf→¬RowAt w b k→w'.heap[k]?=w.heap[k]?
 row:∀ k,RowAt w' b k→RowAt w b k∨w.heap.size≤k
theorem Fv.refl (b gf:Nat) (w:World):Fv b gf w w:=⟨rfl,rfl,rfl,Nat.le_refl _,fun _ _ _ _ _=>rfl,fun _ h=>.inl h⟩
theorem Fv.fy {b gf:Nat} {w w1 w2:World} (h:Fv b gf w w1) (k:Fy b w1 w2):Fv b gf w w2:=by
 refine ⟨k.below.os.trans h.os,k.below.tape.trans h.tape,k.below.output.trans h.output,Nat.le_trans h.size k.below.size,fun i hi hb hg hr=>?_,fun i hi=>?_⟩
 ·rw [k.keep i (Nat.lt_of_lt_of_le hi h.size) hb (fun hr'=>?_)]
  ·exact h.keep i hi hb hg hr
  ·rcases h.row i hr' with g | g
   ·exact hr g
   ·omega
 ·rcases k.row i hi with g | g
  ·exact h.row i g
  ·exact .inr (Nat.le_trans h.size g)
theorem Fv.fr {b gf:Nat} {w w1 w2:World} (h:Fv b gf w w1) {S:List Nat} (f:Fr S w1 w2) (hS:∀ x∈S,x=gf∨w.heap.size≤x) (hb:b < w.heap.size) (hne:b≠gf):Fv b gf w w2:=by
 have hbk:∀ k,k < w.heap.size→k≠gf→w2.heap[k]?=w1.heap[k]?:=fun k hk hg=>f.block k (Nat.lt_of_lt_of_le hk h.size) (fun hm=>by rcases hS k hm with e | e<;>omega)
 refine ⟨f.os.trans h.os,f.tape.trans h.tape,f.output.trans h.output,Nat.le_trans h.size f.size,fun i hi hb' hg hr=>(hbk i hi hg).trans (h.keep i hi hb' hg hr),fun i hi=>?_⟩
 obtain ⟨v,fr,g1,g2⟩:=hi
 rw [hbk b hb hne] at g1
 exact h.row i ⟨v,fr,g1,g2⟩
theorem rts_fr {b:Nat} {w1 w2:World} {rs:List Rn} (h:RtS w1 b rs) {S:List Nat} (f:Fr S w1 w2) (hS:∀ q∈S,∀ cs ty fr,w1.heap[q]?=some (.cells cs ty fr)→ty≠197∧ty≠164):RtS w2 b rs:=by
 obtain ⟨v,h1,h2⟩:=h
 refine ⟨v,f.at h1 (fun hm=>(hS b hm _ _ _ h1).2 rfl),f.own h2 (fun q hq hm=>?_)⟩
 obtain ⟨cs,hc⟩:=own_tyT h2 hq
 exact (hS q hm _ _ _ hc).1 rfl
structure Sws (w:World) (us:List Value) (St:List (List ByteArray)):Prop where
 len:us.length=St.length
 row:∀ (k:Nat) u X,us[k]?=some u→St[k]?=some X→SRow w 0 u X
section
variable {w w' : World} {us : List Value} {St : List (List ByteArray)}
theorem Sws.nil:Sws w [] []:=⟨rfl,fun k u X h=>by simp at h⟩
theorem Sws.at (h:Sws w us St) {k:Nat} {X:List ByteArray} (hk:St[k]?=some X):∃ u,us[k]?=some u∧SRow w 0 u X:=by
 have hl:=get_lt hk
 have hu:=List.getElem?_eq_getElem (show k < us.length by rw [h.len];exact hl)
 exact ⟨_,hu,h.row k _ X hu hk⟩
theorem Sws.mem (h:Sws w us St) {u:Value} (hu:u∈us):∃ X,SRow w 0 u X:=by
 obtain ⟨k,hk⟩:=List.getElem?_of_mem hu
 have hl:=get_lt hk
 have hr:=List.getElem?_eq_getElem (show k < St.length by rw [←h.len];exact hl)
 exact ⟨_,h.row k u _ hk hr⟩
theorem Sws.fy (h:Sws w us St) {b:Nat} {rs:List Rn} (f:Fy b w w') (ht:RtS w b rs):Sws w' us St:=⟨h.len,fun k u X hu hX=>(h.row k u X hu hX).fy f ht⟩
theorem Sws.keep (h:Sws w us St) {S:List Nat} (f:Fr S w w') (hs:∀ u∈us,∀ q,u.ownBlock=some q→q∉S):Sws w' us St:=⟨h.len,fun k u X hu hX=>f.own (h.row k u X hu hX) (hs u (List.mem_of_getElem? hu))⟩
theorem Sws.snoc (h:Sws w us St) {u:Value} {X:List ByteArray} (hu:SRow w 0 u X):Sws w (us++[u]) (St++[X]):=by
 refine ⟨by simp [h.len],fun k u' X' hu' hX'=>?_⟩
 rcases get_snoc hu' with h1 | ⟨rfl,rfl⟩
 ·rcases get_snoc hX' with h2 | ⟨rfl,rfl⟩
  ·exact h.row k u' X' h1 h2
  ·have:=get_lt h1;have:=h.len;omega
 ·rcases get_snoc hX' with h2 | ⟨-,rfl⟩
  ·have:=get_lt h2;have:=h.len;omega
  ·exact hu
end
def SepS (v:Value) (us:List Value):Prop:=∀ u∈us,∀ q,u.ownBlock=some q→v.ownBlock≠some q
structure FnI (rs0:List Rn) (U:List (List Nm)) (b gf:Nat) (w:World) (rs:List Rn) (wr:World) (bv:Value) (sa:Option Addr) (sc:Nat) (St:List (List ByteArray)) (us:List Value) (ta:Option Addr) (tc:Nat) (T:List ByteArray) (rs1:List Rn):Prop where
 fv:Fv b gf w wr
 rt:RtS wr b rs1
 gr:GrowT rs0 rs1
 ex:∃ x,rs1=rs++x
 hb:b < w.heap.size
 hg:gf < w.heap.size
 im:wr.heap[gf]?=some (.cells #[.pointer (some ⟨b,0,none⟩),bv,.slice sa St.length sc,.slice ta T.length tc] 114 (0,0))
 so:wr.ownsRow w.heap.size 66 1 (.slice sa St.length sc) St.length us
 sr:Sws wr us St
 tr:SRow wr w.heap.size (.slice ta T.length tc) T
 sep:SepS (.slice ta T.length tc) us
 sets:∀ X∈St,VSet rs0 rs1 U X
 tz:∀ s∈T,s.size≤67108864∧bytesOk (bytesN s)
section
variable {rs0 : List Rn} {U : List (List Nm)} {b gf : Nat} {w : World} {rs : List Rn} {wr w2 : World} {bv : Value} {sa : Option Addr} {sc : Nat} {St : List (List ByteArray)} {us : List Value} {ta : Option Addr} {tc : Nat} {T : List ByteArray} {rs1 rs2 : List Rn}
theorem FnI.ne (h:FnI rs0 U b gf w rs wr bv sa sc St us ta tc T rs1):b≠gf:=fun e=>by
 obtain ⟨v,h1,-⟩:=h.rt
 have h2:=h.im
 rw [←e,h1] at h2
 simp at h2
theorem FnI.next (h:FnI rs0 U b gf w rs wr bv sa sc St us ta tc T rs1) (k:TrK rs0 b wr rs1 w2 rs2):FnI rs0 U b gf w rs w2 bv sa sc St us ta tc T rs2 :=
 ⟨h.fv.fy k.fy,k.rt,k.gr,grow_trans h.ex k.ex,h.hb,h.hg,k.fy.at h.rt h.im (by decide) (by decide),k.fy.own h.rt h.so (by decide) (by decide),h.sr.fy k.fy h.rt,h.tr.fy k.fy h.rt,h.sep,fun X hX=>(k.set h.gr (h.sets X hX)).1,h.tz⟩
theorem FnI.below (h:FnI rs0 U b gf w rs wr bv sa sc St us ta tc T rs1) (k:Below wr.heap.size wr w2):FnI rs0 U b gf w rs w2 bv sa sc St us ta tc T rs1:=h.next ((TrK.refl h.rt h.gr).below k)
theorem FnI.c0 (h:FnI rs0 U b gf w rs wr bv sa sc St us ta tc T rs1):wr.cell? ⟨gf,0,none⟩=some (.pointer (some ⟨b,0,none⟩)):=by rw [cell_of_row _ _ _ _ _ _ h.im];rfl
theorem FnI.c1 (h:FnI rs0 U b gf w rs wr bv sa sc St us ta tc T rs1):wr.cell? ⟨gf,1,none⟩=some bv:=by rw [cell_of_row _ _ _ _ _ _ h.im];rfl
theorem FnI.c2 (h:FnI rs0 U b gf w rs wr bv sa sc St us ta tc T rs1):wr.cell? ⟨gf,2,none⟩=some (.slice sa St.length sc):=by rw [cell_of_row _ _ _ _ _ _ h.im];rfl
theorem FnI.c3 (h:FnI rs0 U b gf w rs wr bv sa sc St us ta tc T rs1):wr.cell? ⟨gf,3,none⟩=some (.slice ta T.length tc):=by rw [cell_of_row _ _ _ _ _ _ h.im];rfl
theorem FnI.lt (h:FnI rs0 U b gf w rs wr bv sa sc St us ta tc T rs1):gf < wr.heap.size:=(Array.getElem?_eq_some_iff.1 h.im).1
theorem FnI.at (h:FnI rs0 U b gf w rs wr bv sa sc St us ta tc T rs1) {k:Nat} {X:List ByteArray} (hk:St[k]?=some X):∃ g u,sa=some ⟨g,0,none⟩∧g < wr.heap.size∧wr.cell? ⟨g,k,none⟩=some u∧SRow wr 0 u X:=by
 obtain ⟨u,hu,hr⟩:=h.sr.at hk
 have hl:=get_lt hk
 obtain ⟨g,cap,he⟩:=own_form h.so (by omega)
 simp only [Value.slice.injEq,true_and] at he
 obtain ⟨rfl,rfl⟩:=he
 have:=h.so.cells (g:=g) rfl k u hu
 rw [add0] at this
 exact ⟨g,u,rfl,(h.so.lt g rfl).2,this,hr⟩
theorem SepS.grow {v:Value} (h:Sws wr us St) (hs:SepS v us) {g n cap:Nat} (hl:v.ownBlock=some g∨g=wr.heap.size):SepS (.slice (some ⟨g,0,none⟩) n cap) us:=fun u hu q hq hq'=>by
 have e:g=q:=by simpa [Value.ownBlock] using hq'
 subst e
 rcases hl with hl | hl
 ·exact hs u hu g hq hl
 ·obtain ⟨X,hX⟩:=h.mem hu
  have:=(World.ownsRow.lt hX g hq).2
  omega
theorem noTree_own {B e z n:Nat} {v:Value} {xs:List Value} (h:wr.ownsRow B e z v n xs) (h1:e≠197) (h2:e≠164):∀ q∈v.ownBlock.toList,∀ cs ty fr,wr.heap[q]?=some (.cells cs ty fr)→ty≠197∧ty≠164:=fun q hq cs ty fr hc=>by
 obtain ⟨cs',hc'⟩:=own_tyT h (Option.mem_toList.1 hq)
 rw [hc] at hc'
 simp at hc'
 rw [hc'.2.1]
 exact ⟨h1,h2⟩
theorem noTree_one {g:Nat} {cs:Array Value} {t:TypeId} (h:wr.heap[g]?=some (.cells cs t (0,0))) (h1:t≠197) (h2:t≠164):∀ q∈[g],∀ cs ty fr,wr.heap[q]?=some (.cells cs ty fr)→ty≠197∧ty≠164:=fun q hq cs' ty fr hc=>by
 rw [List.mem_singleton.1 hq,h] at hc
 simp at hc
 rw [←hc.2.1]
 exact ⟨h1,h2⟩
theorem FnI.pushT (h:FnI rs0 U b gf w rs wr bv sa sc St us ta tc T rs1) {g cap:Nat} {s:ByteArray} (hz:s.size≤67108864∧bytesOk (bytesN s)) (hgrow:wr.grownBy w2 (.slice ta T.length tc:Value).ownBlock) (ho:w2.ownsRow w.heap.size 9 1 (.slice (some ⟨g,0,none⟩) (T.length+1) cap) (T.length+1) (strCells T++[.string s])) (hl:(Value.slice ta T.length tc).ownBlock=some g∨g=wr.heap.size) :
  w2.cell? ⟨gf,3,none⟩=some (.slice ta T.length tc)∧w2.frozen? ⟨gf,3,none⟩=false∧gf < w2.heap.size∧FnI rs0 U b gf w rs (w2.setCell ⟨gf,3,none⟩ (.slice (some ⟨g,0,none⟩) (T.length+1) cap)) bv sa sc St us (some ⟨g,0,none⟩) cap (T++[s]) rs1:=by
 have e2:=own_off h.tr h.im (by decide)
 have g2:w2.heap[gf]?=_:=(Fr.ofGrown hgrow).at h.im (fun hm=>e2 _ (Option.mem_toList.1 hm) rfl)
 have hlen:(T++[s]).length=T.length+1:=by simp
 have hso:w2.ownsRow w.heap.size 66 1 (.slice sa St.length sc) St.length us:=(Fr.ofGrown hgrow).own h.so (fun q hq hm=>by
  obtain ⟨cs,hc⟩:=own_tyT h.so hq
  obtain ⟨cs',hc'⟩:=own_tyT h.tr (Option.mem_toList.1 hm)
  rw [hc] at hc'
  simp at hc')
 have hto:SRow w2 w.heap.size (.slice (some ⟨g,0,none⟩) (T++[s]).length cap) (T++[s]):=by rw [hlen];exact SRow.of ho
 have hsr:Sws w2 us St:=h.sr.keep (Fr.ofGrown hgrow) (fun u hu q hq hm=>h.sep u hu q hq (Option.mem_toList.1 hm))
 have hrt:=rts_fr h.rt (Fr.ofGrown hgrow) (noTree_own h.tr (by decide) (by decide))
 refine ⟨by rw [cell_of_row _ _ _ _ _ _ g2];rfl,frozen_of_row _ _ _ _ _ g2,(Array.getElem?_eq_some_iff.1 g2).1,⟨?_,rts_fr hrt (Fr.ofSet _ _ _ _) (noTree_one g2 (by decide) (by decide)),h.gr,h.ex,h.hb,h.hg,?_,?_,?_,?_,?_,h.sets,?_⟩⟩
 ·exact (h.fv.fr (Fr.ofGrown hgrow) (fun x hx=>.inr (World.ownsRow.lt h.tr x (Option.mem_toList.1 hx)).1) h.hb h.ne).fr (Fr.ofSet _ _ _ _) (fun x hx=>.inl (List.mem_singleton.1 hx)) h.hb h.ne
 ·rw [heap_setCell_same _ _ _ _ _ _ g2,hlen];rfl
 ·exact (Fr.ofSet _ _ _ _).own hso (fun q hq=>by simpa using own_off hso g2 (by decide) q hq)
 ·exact hsr.keep (Fr.ofSet _ _ _ _) (fun u hu q hq hm=>by
   obtain ⟨X,hX⟩:=hsr.mem hu
   exact own_off hX g2 (by decide) q hq (List.mem_singleton.1 hm))
 ·exact (Fr.ofSet _ _ _ _).own hto (fun q hq=>by simpa using own_off hto g2 (by decide) q hq)
 ·rw [hlen];exact SepS.grow h.sr h.sep hl
 ·intro s' hs'
  rcases List.mem_append.1 hs' with hs' | hs'
  ·exact h.tz s' hs'
  ·rw [List.mem_singleton.1 hs'];exact hz
theorem FnI.pushS (h:FnI rs0 U b gf w rs wr bv sa sc St us ta tc T rs1) {g cap:Nat} {u:Value} {X:List ByteArray} (hu:SRow wr 0 u X) (hX:VSet rs0 rs1 U X) (hsu:∀ q,u.ownBlock=some q→(Value.slice ta T.length tc).ownBlock≠some q) (hgrow:wr.grownBy w2 (.slice sa St.length sc:Value).ownBlock) (ho:w2.ownsRow w.heap.size 66 1 (.slice (some ⟨g,0,none⟩) (St.length+1) cap) (St.length+1) (us++[u])) :
  w2.cell? ⟨gf,2,none⟩=some (.slice sa St.length sc)∧w2.frozen? ⟨gf,2,none⟩=false∧gf < w2.heap.size∧FnI rs0 U b gf w rs (w2.setCell ⟨gf,2,none⟩ (.slice (some ⟨g,0,none⟩) (St.length+1) cap)) bv (some ⟨g,0,none⟩) cap (St++[X]) (us++[u]) ta tc T rs1:=by
 have e2:=own_off h.so h.im (by decide)
 have g2:w2.heap[gf]?=_:=(Fr.ofGrown hgrow).at h.im (fun hm=>e2 _ (Option.mem_toList.1 hm) rfl)
 have hlen:(St++[X]).length=St.length+1:=by simp
 have hno:∀ {B:Nat} {v:Value} {Y:List ByteArray},SRow wr B v Y→∀ q,v.ownBlock=some q→q∉(Value.slice sa St.length sc).ownBlock.toList:=fun {B v Y} hv q hq hm=>by
  obtain ⟨cs,hc⟩:=own_tyT hv hq
  obtain ⟨cs',hc'⟩:=own_tyT h.so (Option.mem_toList.1 hm)
  rw [hc] at hc'
  simp at hc'
 have hto:SRow w2 w.heap.size (.slice ta T.length tc) T:=(Fr.ofGrown hgrow).own h.tr (hno h.tr)
 have hsr:Sws w2 (us++[u]) (St++[X]):=(h.sr.keep (Fr.ofGrown hgrow) (fun u' hu' q hq=>by
  obtain ⟨Y,hY⟩:=h.sr.mem hu'
  exact hno hY q hq)).snoc ((Fr.ofGrown hgrow).own hu (hno hu))
 have hrt:=rts_fr h.rt (Fr.ofGrown hgrow) (noTree_own h.so (by decide) (by decide))
 refine ⟨by rw [cell_of_row _ _ _ _ _ _ g2];rfl,frozen_of_row _ _ _ _ _ g2,(Array.getElem?_eq_some_iff.1 g2).1,⟨?_,rts_fr hrt (Fr.ofSet _ _ _ _) (noTree_one g2 (by decide) (by decide)),h.gr,h.ex,h.hb,h.hg,?_,?_,?_,?_,?_,?_,h.tz⟩⟩
 ·exact (h.fv.fr (Fr.ofGrown hgrow) (fun x hx=>.inr (h.so.lt x (Option.mem_toList.1 hx)).1) h.hb h.ne).fr (Fr.ofSet _ _ _ _) (fun x hx=>.inl (List.mem_singleton.1 hx)) h.hb h.ne
 ·rw [heap_setCell_same _ _ _ _ _ _ g2,hlen];rfl
 ·rw [hlen];exact (Fr.ofSet _ _ _ _).own ho (fun q hq=>by simpa using own_off ho g2 (by decide) q hq)
 ·exact hsr.keep (Fr.ofSet _ _ _ _) (fun u' hu' q hq hm=>by
   obtain ⟨Y,hY⟩:=hsr.mem hu'
   exact own_off hY g2 (by decide) q hq (List.mem_singleton.1 hm))
 ·exact (Fr.ofSet _ _ _ _).own hto (fun q hq=>by simpa using own_off hto g2 (by decide) q hq)
 ·intro u' hu' q hq
  rcases List.mem_append.1 hu' with hu' | hu'
  ·exact h.sep u' hu' q hq
  ·rw [List.mem_singleton.1 hu'] at hq;exact hsu q hq
 ·intro Y hY
  rcases List.mem_append.1 hY with hY | hY
  ·exact h.sets Y hY
  ·rw [List.mem_singleton.1 hY];exact hX
end
end Mc
end Go.Proofs.YtjooemengpeaaaaGreat
namespace Go.Proofs.YtjooemengpeaaaaGreat
namespace Mc
open Go.RowKit
attribute [local go_sem ↓] Go.wp_at_zero Go.wp_at_succ
theorem infoStG:(Tryz.prog.info? 9).map (fun i=>(i.zero,i.size,i.bytes))=some (some (.string ⟨#[]⟩),1,16):=by kernel_rfl
theorem infoSsG:(Tryz.prog.info? 66).map (fun i=>(i.zero,i.size,i.bytes))=some (some (.slice none 0 0),1,24):=by kernel_rfl
theorem appSt {ops:Array Oper} {rest:List Oper} {o:Oper} {a:Act} {W:World} {Q:Exit→Act→World→Prop} (hgd:o.guard=none) (s x:Operand)
  (ho:o.op=.call { callee:=.builtin .append,args:=#[s,x],argTypes:=#[66,66] }) (B:Nat) (v:Value) (xs:List ByteArray) (hs:a.eval s=v) (hown:SRow W B v xs) (g0:Nat) (y:ByteArray)
  (hx:a.eval x=.slice (some ⟨g0,0,none⟩) 1 1) (hc:W.cell? ⟨g0,0,none⟩=some (.string y)) (hlen:xs.length≤3000000) (hB:B≤W.heap.size) (H:Nat) (hH:W.heap.size=H)
  (h:∀ g cap w',w'.ownsRow B 9 1 (.slice (some ⟨g,0,none⟩) (xs.length+1) cap) (xs.length+1) (strCells xs++[.string y])→W.grownBy w' v.ownBlock→(v.ownBlock=some g∨g=H)→g < w'.heap.size→wpList Tryz.prog ops Q rest (a.put o.dst (.slice (some ⟨g,0,none⟩) (xs.length+1) cap)) w'):wpList Tryz.prog ops Q (o ::rest) a W:=by
 obtain ⟨i,i0,i1,i2,i3⟩:=info_of infoStG
 exact wpList_append_lies W hgd s x 66 ho B 9 i (.string ⟨#[]⟩) 1 16 Tryz.underlying66 i0 i1 i2 i3 rfl (by decide) v xs.length (strCells xs) hs hown ⟨g0,0,none⟩ 1 1 [.string y] hx rfl (one_cells hc) (by intro u hu;simp at hu;subst hu;rfl) (by decide) (by unfold maxLen;omega) (by omega) hB H hH h
theorem appSl {ops:Array Oper} {rest:List Oper} {o:Oper} {a:Act} {W:World} {Q:Exit→Act→World→Prop} (hgd:o.guard=none) (s x:Operand)
  (ho:o.op=.call { callee:=.builtin .append,args:=#[s,x],argTypes:=#[112,112] }) (B:Nat) (v:Value) (n:Nat) (us:List Value) (hs:a.eval s=v) (hown:W.ownsRow B 66 1 v n us) (g0:Nat) (y:Value) (hy:y.oneCell'=true)
  (hx:a.eval x=.slice (some ⟨g0,0,none⟩) 1 1) (hc:W.cell? ⟨g0,0,none⟩=some y) (hlen:n≤1000) (hB:B≤W.heap.size) (H:Nat) (hH:W.heap.size=H)
  (h:∀ g cap w',w'.ownsRow B 66 1 (.slice (some ⟨g,0,none⟩) (n+1) cap) (n+1) (us++[y])→W.grownBy w' v.ownBlock→(v.ownBlock=some g∨g=H)→g < w'.heap.size→wpList Tryz.prog ops Q rest (a.put o.dst (.slice (some ⟨g,0,none⟩) (n+1) cap)) w'):wpList Tryz.prog ops Q (o ::rest) a W:=by
 obtain ⟨i,i0,i1,i2,i3⟩:=info_of infoSsG
 exact wpList_append_lies W hgd s x 112 ho B 66 i (.slice none 0 0) 1 24 Tryz.underlying112 i0 i1 i2 i3 rfl (by decide) v n us hs hown ⟨g0,0,none⟩ 1 1 [y] hx rfl (one_cells hc) (by intro u hu;simp at hu;subst hu;exact hy) (by decide) (by unfold maxLen;omega) (by omega) hB H hH h
structure KpN (w w':World):Prop where
 size:w.heap.size≤w'.heap.size
 keep:∀ (q:Nat) (cs:Array Value) (ty:TypeId) (fr:Nat × Nat),w.heap[q]?=some (.cells cs ty fr)→(ty=3∨ty=33)→w'.heap[q]?=some (.cells cs ty fr)
section
variable {w w1 w2 : World}
theorem KpN.refl (w:World):KpN w w:=⟨Nat.le_refl _,fun _ _ _ _ h _=>h⟩
theorem KpN.trans (h:KpN w w1) (k:KpN w1 w2):KpN w w2:=⟨Nat.le_trans h.size k.size,fun q cs ty fr g e=>k.keep q cs ty fr (h.keep q cs ty fr g e) e⟩
theorem KpN.fy {b:Nat} {rs:List Rn} (k:Fy b w w1) (hb:RtS w b rs):KpN w w1:=⟨k.below.size,fun q cs ty fr g e=>k.at hb g (by rcases e with e | e<;>(rw [e];decide)) (by rcases e with e | e<;>(rw [e];decide))⟩
theorem KpN.fr {S:List Nat} (f:Fr S w w1) (hS:∀ q∈S,∀ cs ty fr,w.heap[q]?=some (.cells cs ty fr)→ty≠3∧ty≠33):KpN w w1:=⟨f.size,fun q cs ty fr g e=>f.at g (fun hm=>by
 have:=hS q hm cs ty fr g
 rcases e with e | e
 ·exact this.1 e
 ·exact this.2 e)⟩
theorem KpN.own (h:KpN w w1) {B e z n:Nat} {v:Value} {xs:List Value} (ho:w.ownsRow B e z v n xs) (he:e=3∨e=33):w1.ownsRow B e z v n xs:=by
 refine ⟨ho.1,?_⟩
 rcases ho.2 with hl | ⟨g,cap,cur,rfl,q1,hg,rest⟩
 ·exact .inl hl
 ·exact .inr ⟨g,cap,cur,rfl,q1,h.keep _ _ _ _ hg he,rest⟩
theorem KpN.nr (h:KpN w w1) {B:Nat} {v:Value} {xs:List Nat} (ho:NR w B v xs):NR w1 B v xs:=h.own ho (.inl rfl)
theorem noInt_own {B e z n:Nat} {v:Value} {xs:List Value} (h:w.ownsRow B e z v n xs) (h1:e≠3) (h2:e≠33):∀ q∈v.ownBlock.toList,∀ cs ty fr,w.heap[q]?=some (.cells cs ty fr)→ty≠3∧ty≠33:=fun q hq cs ty fr hc=>by
 obtain ⟨cs',hc'⟩:=own_tyT h (Option.mem_toList.1 hq)
 rw [hc] at hc'
 simp at hc'
 rw [hc'.2.1]
 exact ⟨h1,h2⟩
theorem noInt_one {g:Nat} {cs:Array Value} {t:TypeId} (h:w.heap[g]?=some (.cells cs t (0,0))) (h1:t≠3) (h2:t≠33):∀ q∈[g],∀ cs ty fr,w.heap[q]?=some (.cells cs ty fr)→ty≠3∧ty≠33:=fun q hq cs' ty fr hc=>by
 rw [List.mem_singleton.1 hq,h] at hc
 simp at hc
 rw [←hc.2.1]
 exact ⟨h1,h2⟩
end
structure StI (rs0:List Rn) (U:List (List Nm)) (b gf:Nat) (w:World) (rs:List Rn) (W:World) (bv:Value) (sa:Option Addr) (sc:Nat) (St:List (List ByteArray)) (us:List Value) (tn:Nat) (rs1:List Rn) (u:Value) (X:List ByteArray) (wr:World) (ta:Option Addr) (tc:Nat) (T:List ByteArray) (rs2:List Rn) (i:Nat):Prop where
 fn:FnI rs0 U b gf w rs wr bv sa sc St us ta tc T rs2
 ex:∃ x,rs2=rs1++x
 g1:GrowT rs0 rs1
 kp:KpN W wr
 ur:SRow wr 0 u X
 un:∀ q,u.ownBlock=some q→(Value.slice ta T.length tc).ownBlock≠some q
 vs:VSet rs0 rs1 U X
 v1:∀ Y∈St,VSet rs0 rs1 U Y
 tl:T.length≤tn+i
 no:∀ k,k < i→∀ Y,St[k]?=some Y→∃ s,Tells s (stB rs1 Y) (stB rs1 X)
section
variable {rs0 : List Rn} {U : List (List Nm)} {b gf : Nat} {w : World} {rs : List Rn} {W wr w2 : World} {bv : Value} {sa : Option Addr} {sc : Nat} {St : List (List ByteArray)} {us : List Value} {tn : Nat} {u : Value} {X : List ByteArray} {ta : Option Addr} {tc : Nat} {T : List ByteArray} {rs1 rs2 rs3 : List Rn} {i : Nat}
theorem StI.next (h:StI rs0 U b gf w rs W bv sa sc St us tn rs1 u X wr ta tc T rs2 i) (k:TrK rs0 b wr rs2 w2 rs3):StI rs0 U b gf w rs W bv sa sc St us tn rs1 u X w2 ta tc T rs3 i :=
 ⟨h.fn.next k,grow_trans h.ex k.ex,h.g1,h.kp.trans (KpN.fy k.fy h.fn.rt),h.ur.fy k.fy h.fn.rt,h.un,h.vs,h.v1,h.tl,h.no⟩
theorem StI.below (h:StI rs0 U b gf w rs W bv sa sc St us tn rs1 u X wr ta tc T rs2 i) (k:Below wr.heap.size wr w2):StI rs0 U b gf w rs W bv sa sc St us tn rs1 u X w2 ta tc T rs2 i:=h.next ((TrK.refl h.fn.rt h.fn.gr).below k)
theorem StI.vX (h:StI rs0 U b gf w rs W bv sa sc St us tn rs1 u X wr ta tc T rs2 i):VSet rs0 rs2 U X∧stB rs2 X=stB rs1 X:=by
 obtain ⟨x,hx⟩:=h.ex
 rw [hx]
 exact ⟨h.vs.grow x,stB_app h.g1 h.vs x⟩
theorem StI.vY (h:StI rs0 U b gf w rs W bv sa sc St us tn rs1 u X wr ta tc T rs2 i) {Y:List ByteArray} (hY:Y∈St):VSet rs0 rs2 U Y∧stB rs2 Y=stB rs1 Y:=by
 obtain ⟨x,hx⟩:=h.ex
 rw [hx]
 exact ⟨(h.v1 Y hY).grow x,stB_app h.g1 (h.v1 Y hY) x⟩
theorem StI.inc (h:StI rs0 U b gf w rs W bv sa sc St us tn rs1 u X wr ta tc T rs2 i) {Y:List ByteArray} (hY:St[i]?=some Y) (ht:∃ s,Tells s (stB rs1 Y) (stB rs1 X)):StI rs0 U b gf w rs W bv sa sc St us tn rs1 u X wr ta tc T rs2 (i+1) :=
 ⟨h.fn,h.ex,h.g1,h.kp,h.ur,h.un,h.vs,h.v1,by have:=h.tl;omega,fun k hk Y' hY'=>by
  by_cases e:k=i
  ·subst e;rw [hY] at hY';cases hY';exact ht
  ·exact h.no k (by omega) Y' hY'⟩
theorem StI.pushT (h:StI rs0 U b gf w rs W bv sa sc St us tn rs1 u X wr ta tc T rs2 i) {Y:List ByteArray} (hY:St[i]?=some Y) {g cap:Nat} {s:ByteArray} (ht:Tells s (stB rs1 Y) (stB rs1 X)) (hz:s.size≤67108864∧bytesOk (bytesN s)) (hgrow:wr.grownBy w2 (.slice ta T.length tc:Value).ownBlock) (ho:w2.ownsRow w.heap.size 9 1 (.slice (some ⟨g,0,none⟩) (T.length+1) cap) (T.length+1) (strCells T++[.string s])) (hl:(Value.slice ta T.length tc).ownBlock=some g∨g=wr.heap.size) :
  w2.cell? ⟨gf,3,none⟩=some (.slice ta T.length tc)∧w2.frozen? ⟨gf,3,none⟩=false∧gf < w2.heap.size∧StI rs0 U b gf w rs W bv sa sc St us tn rs1 u X (w2.setCell ⟨gf,3,none⟩ (.slice (some ⟨g,0,none⟩) (T.length+1) cap)) (some ⟨g,0,none⟩) cap (T++[s]) rs2 (i+1):=by
 obtain ⟨p1,p2,p3,p4⟩:=h.fn.pushT hz hgrow ho hl
 have hlen:(T++[s]).length=T.length+1:=by simp
 have e2:=own_off h.fn.tr h.fn.im (by decide)
 have g2:w2.heap[gf]?=_:=(Fr.ofGrown hgrow).at h.fn.im (fun hm=>e2 _ (Option.mem_toList.1 hm) rfl)
 have hu2:SRow w2 0 u X:=(Fr.ofGrown hgrow).own h.ur (fun q hq hm=>h.un q hq (Option.mem_toList.1 hm))
 refine ⟨p1,p2,p3,p4,h.ex,h.g1,(h.kp.trans (KpN.fr (Fr.ofGrown hgrow) (noInt_own h.fn.tr (by decide) (by decide)))).trans (KpN.fr (Fr.ofSet _ _ _ _) (noInt_one g2 (by decide) (by decide))),?_,?_,h.vs,h.v1,by rw [hlen];have:=h.tl;omega,fun k hk Y' hY'=>?_⟩
 ·exact (Fr.ofSet _ _ _ _).own hu2 (fun q hq=>by simpa using own_off hu2 g2 (by decide) q hq)
 ·intro q hq hq'
  have e:g=q:=by simpa [Value.ownBlock] using hq'
  subst e
  rcases hl with hl | hl
  ·exact h.un g hq hl
  ·have:=(World.ownsRow.lt h.ur g hq).2
   omega
 ·by_cases e:k=i
  ·subst e;rw [hY] at hY';cases hY';exact ⟨s,ht⟩
  ·exact h.no k (by omega) Y' hY'
end
theorem apart_u {rs0:List Rn} {U:List (List Nm)} (hT:TrC rs0 U) {b:Nat} (w:World) (rs:List Rn) (hb:RtS w b rs) (hg:GrowT rs0 rs) (B1 B2:Nat) (u v:Value) (A B:List ByteArray) (hu:SRow w B1 u A) (hv:SRow w B2 v B) (hA:VSet rs0 rs U A) (hB:VSet rs0 rs U B) (B3:Nat) (hv3:Value) (hbs:List Nat) (hn:NR w B3 hv3 hbs) (hb256:∀ x∈hbs,x < 256) (hbl:hbs.length≤256) :
  Calls Tryz.prog 131 #[.pointer (some ⟨b,0,none⟩),u,v,hv3] w fun e w'=>∃ (s:ByteArray) (o:Bool) (rs':List Rn),e=.returned (.tuple #[.string s,.bool o])∧TrK rs0 b w rs w' rs'∧(o=true→(s.size≤67108864∧bytesOk (bytesN s))∧Tells s (stB rs A) (stB rs B))∧(o=false→∀ x,(∀ c∈x,c∈hbs)→(stB rs A x↔stB rs B x)) :=
 (apart_any hT w rs hb hg B1 B2 u v A B hu hv hA hB B3 hv3 hbs hn hb256 hbl).mono fun e w' h=>by
  obtain ⟨rs',hk,⟨s,h1,h2,h3,h4⟩ | ⟨h1,h2⟩⟩:=h
  ·exact ⟨s,true,rs',h1,hk,fun _=>⟨⟨h2,h3⟩,h4⟩,(fun e=>by cases e)⟩
  ·exact ⟨_,false,rs',h1,hk,(fun e=>by cases e),fun _=>h2⟩
def StA (rs0:List Rn) (U:List (List Nm)) (b gf:Nat) (w:World) (rs:List Rn) (W:World) (bv:Value) (St:List (List ByteArray)) (us:List Value) (tn:Nat) (rs1:List Rn) (u:Value) (X:List ByteArray) (hbs:List Nat) (e:Ending) (w':World):Prop :=
 ∃ (k:Nat) (sa:Option Addr) (sc:Nat) (St':List (List ByteArray)) (us':List Value) (ta:Option Addr) (tc:Nat) (T:List ByteArray) (rs2:List Rn),e=.returned (.int .i64 (k:Int))∧FnI rs0 U b gf w rs w' bv sa sc St' us' ta tc T rs2∧(∃ x,rs2=rs1++x)∧KpN W w'∧T.length≤tn+St.length ∧
  ((St'=St∧us'=us∧∃ Y,St[k]?=some Y∧∀ x,(∀ c∈x,c∈hbs)→(stB rs1 Y x↔stB rs1 X x))∨(St'=St++[X]∧us'=us++[u]∧k=St.length∧∀ Y∈St,∃ s,Tells s (stB rs1 Y) (stB rs1 X)))
set_option maxRecDepth 20000 in
set_option maxHeartbeats 4000000 in
theorem state_any {rs0:List Rn} {U:List (List Nm)} (hT:TrC rs0 U) {b gf:Nat} (w:World) (rs:List Rn) (W:World) (bv:Value) (sa:Option Addr) (sc:Nat) (St:List (List ByteArray)) (us:List Value) (ta:Option Addr) (tc:Nat) (T:List ByteArray) (rs1:List Rn) (hI:FnI rs0 U b gf w rs W bv sa sc St us ta tc T rs1) (u:Value) (X:List ByteArray) (hu:SRow W 0 u X) (hun:∀ q,u.ownBlock=some q→(Value.slice ta T.length tc).ownBlock≠some q) (hX:VSet rs0 rs1 U X) (B3:Nat) (hbs:List Nat) (hn:NR W B3 bv hbs) (hb256:∀ x∈hbs,x < 256) (hbl:hbs.length≤256) (hSl:St.length≤100) (hTl:T.length≤900000) :
  Calls Tryz.prog 92 #[.pointer (some ⟨gf,0,none⟩),u] W fun e w'=>StA rs0 U b gf w rs W bv St us T.length rs1 u X hbs e w':=by
 obtain ⟨ua,uc,rfl⟩:=hu.form
 obtain ⟨ba,bc,rfl⟩:=hn.form
 have hSI:(St.length:Int)≤100:=by omega
 have HT:=hide hT
 have HN:=hide hn
 have H256:=hide hb256
 have HBL:=hide hbl
 have HSL:=hide hSl
 have HTLN:=hide hTl
 have HI0:Hid (StI rs0 U b gf w rs W (.slice ba hbs.length bc) sa sc St us T.length rs1 (.slice ua X.length uc) X W ta tc T rs1 0):=⟨hI,⟨[],by simp⟩,hI.gr,KpN.refl _,hu,hun,hX,hI.sets,by omega,fun k hk=>absurd hk (Nat.not_lt_zero _)⟩
 have HXL:Hid (X.length≤13):=by have h1:=hX.len hI.gr;have h2:=hT.l13;show _≤_;omega
 clear hT hI hu hun hX hn hb256 hbl hSl hTl
 go_enter Tryz.func92,Tryz.ntmps92
 go_wp2_with fail
 go_loopw [5] (fun ix wr=>∃ i:Nat,ix=.int .i64 (i:Int)∧Hid (i≤St.length∧StI rs0 U b gf w rs W (.slice ba hbs.length bc) sa sc St us T.length rs1 (.slice ua X.length uc) X wr ta tc T rs1 0)) (fun ix _=>St.length - (intOf ix).toNat)
 case atStart=>exact ⟨0,rfl,Nat.zero_le _,unhide HI0⟩
 case round =>
  clear HI0
  rename World=>wr
  obtain ⟨i,rfl,HH⟩:=hrel
  obtain ⟨hi,hI⟩:=unhide HH
  clear HH
  have f2:=hI.fn.c2
  have hgf:=hI.fn.lt
  by_cases hlt:i < St.length
  ·have hiI:(i:Int) < (St.length:Int):=by omega
   have hi0:(0:Int)≤(i:Int):=by omega
   have hi1:((i:Int)).toNat=i:=by omega
   obtain ⟨Y,hY⟩:∃ Y,St[i]?=some Y:=⟨_,List.getElem?_eq_getElem hlt⟩
   obtain ⟨g,y,rfl,hgl,hcy,hry⟩:=hI.fn.at hY
   have hyl:Y.length≤13:=by have h1:=(hI.v1 Y (List.mem_of_getElem? hY)).len hI.g1;have h2:=(unhide HT).l13;omega
   have HSM:=hide (sameTerms_any wr 0 0 _ _ Y X hry hI.ur (by omega) (by have:=unhide HXL;omega))
   obtain ⟨ya,yc,rfl⟩:=hry.form
   have HI:=hide hI
   have HY:=hide hY
   have HLT:=hide hlt
   clear hi hI hlt hY hry hyl
   go_wp2_with fail
   refine (unhide HSM).mono ?_
   rintro e w2 ⟨⟨y,rfl,hy⟩,hb2⟩
   have HY2:=hide hy
   have HI2:=hide ((unhide HI).below hb2)
   clear hy hb2 HSM HI f2 hgf hcy hgl
   cases y
   ·go_wp2_with fail
    go_roundw
    case rel=>exact ⟨i+1,by go_num,unhide HLT,unhide HI2⟩
    case measure=>have:=unhide HLT;simp [intOf];omega
   ·have HEQ:Hid (Y=X):=(unhide HY2).1 rfl
    clear HY2
    go_wp2_with fail
    go_ret
    exact ⟨i,_,_,St,us,_,_,T,rs1,rfl,(unhide HI2).fn,⟨[],by simp⟩,(unhide HI2).kp,Nat.le_add_right _ _,.inl ⟨rfl,rfl,Y,unhide HY,fun x _=>by rw [unhide HEQ]⟩⟩
  ·have hi2:i=St.length:=by omega
   subst hi2
   have hiI:¬(St.length:Int) < (St.length:Int):=by omega
   have HI:=hide hI
   clear hlt hi hI
   go_wp2_with fail
   clear f2 hgf hiI
   go_loopw [7] (fun ix wr=>∃ (i:Nat) (ta:Option Addr) (tc:Nat) (T':List ByteArray) (rs2:List Rn),ix=.int .i64 (i:Int)∧Hid (i≤St.length∧StI rs0 U b gf w rs W (.slice ba hbs.length bc) sa sc St us T.length rs1 (.slice ua X.length uc) X wr ta tc T' rs2 i)) (fun ix _=>St.length - (intOf ix).toNat)
   case atStart=>exact ⟨0,ta,tc,T,rs1,rfl,Nat.zero_le _,unhide HI⟩
   case round =>
    clear HI
    rename World=>wq
    obtain ⟨j,tb,td,T',rs2,rfl,HH⟩:=hrel
    obtain ⟨hj,hI⟩:=unhide HH
    clear HH
    have f2:=hI.fn.c2
    have hgf:=hI.fn.lt
    by_cases hlt:j < St.length
    ·have hiI:(j:Int) < (St.length:Int):=by omega
     have hi0:(0:Int)≤(j:Int):=by omega
     have hi1:((j:Int)).toNat=j:=by omega
     obtain ⟨Y,hY⟩:∃ Y,St[j]?=some Y:=⟨_,List.getElem?_eq_getElem hlt⟩
     obtain ⟨g,y,rfl,hgl,hcy,hry⟩:=hI.fn.at hY
     have hvY:=hI.vY (List.mem_of_getElem? hY)
     have HTE:=hide (tested_any (unhide HT) wq rs2 hI.fn.rt hI.fn.gr gf _ _ tb td T' hI.fn.im w.heap.size hI.fn.tr (fun s hs=>(hI.fn.tz s hs).1) (by have:=hI.tl;have:=unhide HTLN;have:=unhide HSL;omega) 0 0 _ _ Y X hry hI.ur hvY.1 hI.vX.1)
     have HEY:Hid (stB rs2 Y=stB rs1 Y):=hvY.2
     have HEX:Hid (stB rs2 X=stB rs1 X):=hI.vX.2
     obtain ⟨ya,yc,rfl⟩:=hry.form
     have HI:=hide hI
     have HY:=hide hY
     have HLT:=hide hlt
     clear hj hI hlt hY hry hvY
     go_wp2_with fail
     refine (unhide HTE).mono ?_
     rintro e w2 ⟨y,rs3,rfl,hk,hy⟩
     have HYT:=hide hy
     have HI2:=hide ((unhide HI).next hk)
     clear hy hk HTE HI f2 hgf hcy hgl
     cases y
     ·have hI2:=unhide HI2
      have e0:=hI2.fn.c0
      have e1:=hI2.fn.c1
      have e2:=hI2.fn.c2
      have hgf2:=hI2.fn.lt
      obtain ⟨g',y',he,hgl2,hcy2,hry2⟩:=hI2.fn.at (unhide HY)
      simp only [Option.some.injEq,Addr.mk.injEq,and_true] at he
      subst he
      obtain ⟨za,zc,rfl⟩:=hry2.form
      have hvY2:=hI2.vY (List.mem_of_getElem? (unhide HY))
      have HAP:=hide (fun n=>apart_u (unhide HT) (w2.drewN n) rs3 (RtS_below hI2.fn.rt (below_drewN (Below.refl _ _) n)) hI2.fn.gr 0 0 (.slice za Y.length zc) (.slice ua X.length uc) Y X (show SRow w2 0 (.slice za Y.length zc) Y from hry2) (show SRow w2 0 (.slice ua X.length uc) X from hI2.ur) hvY2.1 hI2.vX.1 B3 (.slice ba hbs.length bc) hbs (show NR w2 B3 (.slice ba hbs.length bc) hbs from hI2.kp.nr (unhide HN)) (unhide H256) (unhide HBL))
      have HEY2:Hid (stB rs3 Y=stB rs1 Y):=hvY2.2
      have HEX2:Hid (stB rs3 X=stB rs1 X):=hI2.vX.2
      clear HYT hI2 hry2 hvY2 HEY HEX
      go_upto_region 12 with fail
      go_cut [9,10] from 31 to 83 (fun sx ox wx=>∃ (s:ByteArray) (o:Bool) (rs4:List Rn),sx=.string s∧ox=.bool o∧Hid (TrK rs0 b w2 rs3 wx rs4∧(o=true→(s.size≤67108864∧bytesOk (bytesN s))∧Tells s (stB rs3 Y) (stB rs3 X))∧(o=false→∀ x,(∀ c∈x,c∈hbs)→(stB rs3 Y x↔stB rs3 X x))))
      case first =>
       go_region_with (go_at_call 131;refine (unhide HAP _).mono ?_;rintro e w3 ⟨s,o,rs4,rfl,hk,ho⟩;have HK3:=hide (And.intro (trk_base hk) ho);clear hk ho)
       all_goals
        go_wp2_with fail
        go_meet
        exact ⟨s,o,rs4,rfl,rfl,unhide HK3⟩
      case rest =>
       clear HAP e0 e1 e2 hgf2 hcy2 hgl2
       rename World=>w3
       obtain ⟨s,o,rs4,rfl,rfl,HC⟩:=hcut
       obtain ⟨hk,ho1,ho2⟩:=unhide HC
       have hI3:=(unhide HI2).next hk
       clear HI2 HC
       cases o
       ·have HSAME:Hid (∀ x,(∀ c∈x,c∈hbs)→(stB rs1 Y x↔stB rs1 X x)):=fun x hx=>by
         have:=ho2 rfl x hx
         rw [unhide HEY2,unhide HEX2] at this
         exact this
        have HI3:=hide hI3
        clear hk ho1 ho2 hI3
        go_wp2_with fail
        go_ret
        exact ⟨j,_,_,St,us,tb,td,T',rs4,rfl,(unhide HI3).fn,(unhide HI3).ex,(unhide HI3).kp,by have h1:=(unhide HI3).tl;have h2:=unhide HLT;omega,.inl ⟨rfl,rfl,Y,unhide HY,unhide HSAME⟩⟩
       ·have HTS:Hid (Tells s (stB rs1 Y) (stB rs1 X)):=by
         have:=(ho1 rfl).2
         rw [unhide HEY2,unhide HEX2] at this
         exact this
        have HSZ:=hide (ho1 rfl).1
        have HI3:=hide hI3
        have hXA:StI rs0 U b gf w rs W (.slice ba hbs.length bc) (some ⟨g,0,none⟩) sc St us T.length rs1 (.slice ua X.length uc) X (w3.alloc (Obj.cells #[.string s] 9)) tb td T' rs4 j:=hI3.below ((Below.refl _ _).alloc (Nat.le_refl _) _)
        have HXA:=hide hXA
        have e3:=hI3.fn.c3
        have hgf3:=hI3.fn.lt
        have HWS:Hid (w.heap.size≤w3.heap.size):=hI3.fn.fv.size
        have HTL2:Hid (T'.length≤3000000):=by have h1:=hI3.tl;have h2:=unhide HTLN;have h3:=unhide HSL;have h4:=unhide HLT;show _≤_;omega
        clear hk ho1 ho2 hI3 hXA
        go_wp2_with (at_builtin;refine appSt rfl (.tmp 78) (.tmp 80) rfl w.heap.size _ T' rfl (unhide HXA).fn.tr w3.heap.size _ rfl (new_cell rfl) (unhide HTL2) (by have:=unhide HWS;simp;omega) (w3.heap.size+1) (by simp) ?_;intro g5 cap5 w8 ho hgrow hlies hlt5;obtain ⟨y1,z1,hg8,hP⟩:=(unhide HXA).pushT (unhide HY) (unhide HTS) (unhide HSZ) hgrow ho (hlies.imp (fun e=>e) (fun e=>by rw [e];simp));have HP9:=hide hP;clear ho hgrow hlies hP)
        go_roundw
        case rel=>exact ⟨j+1,some ⟨g5,0,none⟩,cap5,T'++[s],rs4,by go_num,unhide HLT,unhide HP9⟩
        case measure=>have:=unhide HLT;simp [intOf];omega
     ·have HI3:=hide ((unhide HI2).inc (unhide HY) (by
       obtain ⟨s,-,hs⟩:=unhide HYT rfl
       rw [unhide HEY,unhide HEX] at hs
       exact ⟨s,hs⟩))
      clear HYT
      go_wp2_with fail
      go_roundw
      case rel=>exact ⟨j+1,tb,td,T',rs3,by go_num,unhide HLT,unhide HI3⟩
      case measure=>have:=unhide HLT;simp [intOf];omega
    ·have hj2:j=St.length:=by omega
     subst hj2
     have hjI:¬(St.length:Int) < (St.length:Int):=by omega
     have HNO:Hid (∀ Y∈St,∃ s,Tells s (stB rs1 Y) (stB rs1 X)):=fun Y hY=>by
      obtain ⟨k,hk⟩:=List.getElem?_of_mem hY
      exact hI.no k (get_lt hk) Y hk
     have hXA:StI rs0 U b gf w rs W (.slice ba hbs.length bc) sa sc St us T.length rs1 (.slice ua X.length uc) X (wq.alloc (Obj.cells #[.slice ua X.length uc] 66)) tb td T' rs2 St.length:=hI.below ((Below.refl _ _).alloc (Nat.le_refl _) _)
     have HXA:=hide hXA
     have HI:=hide hI
     have HWS:Hid (w.heap.size≤wq.heap.size):=hI.fn.fv.size
     have HEQ:Hid (((St++[X]).length:Int) - 1=(St.length:Int)):=by show _=_;rw [List.length_append];simp
     have HKG:Hid (∀ w8 x,(wq.alloc (Obj.cells #[.slice ua X.length uc] 66)).grownBy w8 (.slice sa St.length sc:Value).ownBlock→KpN W (w8.setCell ⟨gf,2,none⟩ x)):=fun w8 x hgrow=>by
      have e2:=own_off hXA.fn.so hXA.fn.im (by decide)
      have g2:w8.heap[gf]?=_:=(Fr.ofGrown hgrow).at hXA.fn.im (fun hm=>e2 _ (Option.mem_toList.1 hm) rfl)
      exact (hXA.kp.trans (KpN.fr (Fr.ofGrown hgrow) (noInt_own hXA.fn.so (by decide) (by decide)))).trans (KpN.fr (Fr.ofSet _ _ _ _) (noInt_one g2 (by decide) (by decide)))
     clear hj hlt hI hXA
     go_wp2_with (at_builtin;refine appSl rfl (.tmp 88) (.tmp 90) rfl w.heap.size _ St.length us rfl (unhide HXA).fn.so wq.heap.size _ rfl rfl (new_cell rfl) (by have:=unhide HSL;omega) (by have:=unhide HWS;simp;omega) (wq.heap.size+1) (by simp) ?_;intro g5 cap5 w8 ho hgrow hlies hlt5;obtain ⟨y1,z1,hg8,hP⟩:=(unhide HXA).fn.pushS (unhide HXA).ur (unhide HXA).vX.1 (unhide HXA).un hgrow ho;have HP9:=hide hP;have HK9:=hide (unhide HKG w8 (.slice (some ⟨g5,0,none⟩) (St.length+1) cap5) hgrow);have s1:=hP.c2;clear ho hgrow hlies hP)
     rw [List.length_append] at s1
     go_ret
     exact ⟨St.length,_,_,_,_,tb,td,T',rs2,rfl,unhide HP9,(unhide HI).ex,unhide HK9,(unhide HI).tl,.inr ⟨rfl,rfl,rfl,unhide HNO⟩⟩
end Mc
end Go.Proofs.YtjooemengpeaaaaGreat
namespace Go.Proofs.YtjooemengpeaaaaGreat
namespace Mc
open Go.RowKit
theorem infoIIG:(Tryz.prog.info? 33).map (fun i=>(i.zero,i.size,i.bytes))=some (some (.slice none 0 0),1,24):=by kernel_rfl
theorem appNn {ops:Array Oper} {rest:List Oper} {o:Oper} {a:Act} {W:World} {Q:Exit→Act→World→Prop} (hgd:o.guard=none) (s x:Operand)
  (ho:o.op=.call { callee:=.builtin .append,args:=#[s,x],argTypes:=#[115,115] }) (B:Nat) (v:Value) (n:Nat) (us:List Value) (hs:a.eval s=v) (hown:W.ownsRow B 33 1 v n us) (g0:Nat) (y:Value) (hy:y.oneCell'=true)
  (hx:a.eval x=.slice (some ⟨g0,0,none⟩) 1 1) (hc:W.cell? ⟨g0,0,none⟩=some y) (hlen:n≤1000) (hB:B≤W.heap.size) (H:Nat) (hH:W.heap.size=H)
  (h:∀ g cap w',w'.ownsRow B 33 1 (.slice (some ⟨g,0,none⟩) (n+1) cap) (n+1) (us++[y])→W.grownBy w' v.ownBlock→(v.ownBlock=some g∨g=H)→g < w'.heap.size→wpList Tryz.prog ops Q rest (a.put o.dst (.slice (some ⟨g,0,none⟩) (n+1) cap)) w'):wpList Tryz.prog ops Q (o ::rest) a W:=by
 obtain ⟨i,i0,i1,i2,i3⟩:=info_of infoIIG
 exact wpList_append_lies W hgd s x 115 ho B 33 i (.slice none 0 0) 1 24 Tryz.underlying115 i0 i1 i2 i3 rfl (by decide) v n us hs hown ⟨g0,0,none⟩ 1 1 [y] hx rfl (one_cells hc) (by intro u hu;simp at hu;subst hu;exact hy) (by decide) (by unfold maxLen;omega) (by omega) hB H hH h
theorem appSlR {ops:Array Oper} {o:Oper} {a:Act} {W:World} {K:Act→World→Prop} {Q:Exit→Act→World→Prop} {E:Prop} (hgd:o.guard=none) (s x:Operand)
  (ho:o.op=.call { callee:=.builtin .append,args:=#[s,x],argTypes:=#[112,112] }) (B:Nat) (v:Value) (n:Nat) (us:List Value) (hs:a.eval s=v) (hown:W.ownsRow B 66 1 v n us) (g0:Nat) (y:Value) (hy:y.oneCell'=true)
  (hx:a.eval x=.slice (some ⟨g0,0,none⟩) 1 1) (hc:W.cell? ⟨g0,0,none⟩=some y) (hlen:n≤1000) (hB:B≤W.heap.size) (H:Nat) (hH:W.heap.size=H)
  (h:∀ g cap w',w'.ownsRow B 66 1 (.slice (some ⟨g,0,none⟩) (n+1) cap) (n+1) (us++[y])→W.grownBy w' v.ownBlock→(v.ownBlock=some g∨g=H)→g < w'.heap.size→K (a.put o.dst (.slice (some ⟨g,0,none⟩) (n+1) cap)) w') :
  if Region.wanted o (yielded ops a.tmps)=true then Oper.wp Tryz.prog o a W K Q else E:=by
 obtain ⟨i,i0,i1,i2,i3⟩:=info_of infoSsG
 exact step_append_lies W hgd s x 112 ho B 66 i (.slice none 0 0) 1 24 Tryz.underlying112 i0 i1 i2 i3 rfl (by decide) v n us hs hown ⟨g0,0,none⟩ 1 1 [y] hx rfl (one_cells hc) (by intro u hu;simp at hu;subst hu;exact hy) (by decide) (by unfold maxLen;omega) (by omega) hB H hH h
structure Rwt (w:World) (B:Nat) (us:List Value) (F:List (List Nat)):Prop where
 len:us.length=F.length
 row:∀ (k:Nat) u r,us[k]?=some u→F[k]?=some r→NR w B u r
section
variable {w w' : World} {B : Nat} {us : List Value} {F : List (List Nat)}
theorem Rwt.nil:Rwt w B [] []:=⟨rfl,fun k u r h=>by simp at h⟩
theorem Rwt.at (h:Rwt w B us F) {k:Nat} {r:List Nat} (hk:F[k]?=some r):∃ u,us[k]?=some u∧NR w B u r:=by
 have hl:=get_lt hk
 have hu:=List.getElem?_eq_getElem (show k < us.length by rw [h.len];exact hl)
 exact ⟨_,hu,h.row k _ r hu hk⟩
theorem Rwt.mem (h:Rwt w B us F) {u:Value} (hu:u∈us):∃ r,NR w B u r:=by
 obtain ⟨k,hk⟩:=List.getElem?_of_mem hu
 have hl:=get_lt hk
 have hr:=List.getElem?_eq_getElem (show k < F.length by rw [←h.len];exact hl)
 exact ⟨_,h.row k u _ hk hr⟩
theorem Rwt.keep (h:Rwt w B us F) {S:List Nat} (f:Fr S w w') (hs:∀ u∈us,∀ q,u.ownBlock=some q→q∉S):Rwt w' B us F:=⟨h.len,fun k u r hu hr=>f.own (h.row k u r hu hr) (hs u (List.mem_of_getElem? hu))⟩
theorem Rwt.kp (h:Rwt w B us F) (k:KpN w w'):Rwt w' B us F:=⟨h.len,fun i u r hu hr=>k.nr (h.row i u r hu hr)⟩
theorem Rwt.snoc (h:Rwt w B us F) {u:Value} {r:List Nat} (hu:NR w B u r):Rwt w B (us++[u]) (F++[r]):=by
 refine ⟨by simp [h.len],fun k u' r' hu' hr'=>?_⟩
 rcases get_snoc hu' with h1 | ⟨rfl,rfl⟩
 ·rcases get_snoc hr' with h2 | ⟨rfl,rfl⟩
  ·exact h.row k u' r' h1 h2
  ·have:=get_lt h1;have:=h.len;omega
 ·rcases get_snoc hr' with h2 | ⟨-,rfl⟩
  ·have:=get_lt h2;have:=h.len;omega
  ·exact hu
theorem SepS.nil (us:List Value):SepS (.slice none 0 0) us:=fun u _ q _ h=>by simp [Value.ownBlock] at h
theorem SepS.growN {v:Value} (h:Rwt w B us F) (hs:SepS v us) {g n cap:Nat} (hl:v.ownBlock=some g∨g=w.heap.size):SepS (.slice (some ⟨g,0,none⟩) n cap) us:=fun u hu q hq hq'=>by
 have e:g=q:=by simpa [Value.ownBlock] using hq'
 subst e
 rcases hl with hl | hl
 ·exact hs u hu g hq hl
 ·obtain ⟨r,hr⟩:=h.mem hu
  have:=(World.ownsRow.lt hr g hq).2
  omega
end
theorem KpN.below {w w1:World} (h:Below w.heap.size w w1):KpN w w1:=⟨h.size,fun q cs ty fr g _=>by rw [h.block q (Array.getElem?_eq_some_iff.1 g).1];exact g⟩
structure RwI (w wr:World) (bv:Value) (hbs:List Nat) (na:Option Addr) (nc:Nat) (Nx:List (List Nat)) (ns:List Value) (va:Option Addr) (vc:Nat) (row:List Nat):Prop where
 no:wr.ownsRow w.heap.size 33 1 (.slice na Nx.length nc) Nx.length ns
 nr:Rwt wr w.heap.size ns Nx
 rm:NR wr w.heap.size (.slice va row.length vc) row
 sp:SepS (.slice va row.length vc) ns
 bn:NR wr 0 bv hbs
 bl:∀ q,bv.ownBlock=some q→q < w.heap.size
section
variable {w wr w2 : World} {bv : Value} {hbs : List Nat} {na : Option Addr} {nc : Nat} {Nx : List (List Nat)} {ns : List Value} {va : Option Addr} {vc : Nat} {row : List Nat}
theorem RwI.start {B:Nat} (h:NR w B bv hbs) (hk:KpN w wr):RwI w wr bv hbs none 0 [] [] none 0 [] :=
 ⟨World.ownsRow_nil _ _ _ _,Rwt.nil,NR.nil _ _,SepS.nil _,(hk.nr h).less (Nat.zero_le _),fun q hq=>(World.ownsRow.lt h q hq).2⟩
theorem RwI.kp (h:RwI w wr bv hbs na nc Nx ns va vc row) (k:KpN wr w2):RwI w w2 bv hbs na nc Nx ns va vc row:=⟨k.own h.no (.inr rfl),h.nr.kp k,k.nr h.rm,h.sp,k.nr h.bn,h.bl⟩
theorem RwI.pushR (h:RwI w wr bv hbs na nc Nx ns va vc row) {g cap y:Nat} (hgrow:wr.grownBy w2 (.slice va row.length vc:Value).ownBlock) (ho:w2.ownsRow w.heap.size 3 1 (.slice (some ⟨g,0,none⟩) (row.length+1) cap) (row.length+1) (ncs row++[.int .i64 (y:Int)])) (hl:(Value.slice va row.length vc).ownBlock=some g∨g=wr.heap.size):RwI w w2 bv hbs na nc Nx ns (some ⟨g,0,none⟩) cap (row++[y]):=by
 have hlen:(row++[y]).length=row.length+1:=by simp
 refine ⟨(Fr.ofGrown hgrow).own h.no (fun q hq hm=>?_),h.nr.keep (Fr.ofGrown hgrow) (fun u hu q hq hm=>h.sp u hu q hq (Option.mem_toList.1 hm)),by rw [hlen];exact NR.of ho,by rw [hlen];exact SepS.growN h.nr h.sp hl,(Fr.ofGrown hgrow).own h.bn (fun q hq hm=>?_),h.bl⟩
 ·obtain ⟨cs,hc⟩:=own_tyT h.no hq
  obtain ⟨cs',hc'⟩:=own_tyT h.rm (Option.mem_toList.1 hm)
  rw [hc] at hc'
  simp at hc'
 ·have h1:=h.bl q hq
  have h2:=(World.ownsRow.lt h.rm q (Option.mem_toList.1 hm)).1
  omega
theorem RwI.pushN (h:RwI w wr bv hbs na nc Nx ns va vc row) {g cap:Nat} (hgrow:wr.grownBy w2 (.slice na Nx.length nc:Value).ownBlock) (ho:w2.ownsRow w.heap.size 33 1 (.slice (some ⟨g,0,none⟩) (Nx.length+1) cap) (Nx.length+1) (ns++[.slice va row.length vc])):RwI w w2 bv hbs (some ⟨g,0,none⟩) cap (Nx++[row]) (ns++[.slice va row.length vc]) none 0 []:=by
 have hlen:(Nx++[row]).length=Nx.length+1:=by simp
 have hno:∀ {B:Nat} {v:Value} {r:List Nat},NR wr B v r→∀ q,v.ownBlock=some q→q∉(Value.slice na Nx.length nc).ownBlock.toList:=fun {B v r} hv q hq hm=>by
  obtain ⟨cs,hc⟩:=own_tyT hv hq
  obtain ⟨cs',hc'⟩:=own_tyT h.no (Option.mem_toList.1 hm)
  rw [hc] at hc'
  simp at hc'
 exact ⟨by rw [hlen];exact ho,(h.nr.keep (Fr.ofGrown hgrow) (fun u hu q hq=>by
  obtain ⟨r,hr⟩:=h.nr.mem hu
  exact hno hr q hq)).snoc ((Fr.ofGrown hgrow).own h.rm (hno h.rm)),NR.nil _ _,SepS.nil _,(Fr.ofGrown hgrow).own h.bn (hno h.bn),h.bl⟩
end
section
variable {rs0 : List Rn} {U : List (List Nm)} {b gf : Nat} {w : World} {rs : List Rn} {wr w2 : World} {bv : Value} {sa : Option Addr} {sc : Nat} {St : List (List ByteArray)} {us : List Value} {ta : Option Addr} {tc : Nat} {T : List ByteArray} {rs1 rs2 : List Rn}
theorem FnI.grown (h:FnI rs0 U b gf w rs wr bv sa sc St us ta tc T rs1) {e z n:Nat} {v:Value} {xs:List Value} (ho:wr.ownsRow w.heap.size e z v n xs) (h1:e≠197) (h2:e≠164) (h3:e≠114) (h4:e≠66) (h5:e≠9) (hgrow:wr.grownBy w2 v.ownBlock):FnI rs0 U b gf w rs w2 bv sa sc St us ta tc T rs1:=by
 have hd:∀ {B e' z' n':Nat} {v':Value} {xs':List Value},wr.ownsRow B e' z' v' n' xs'→e≠e'→∀ q,v'.ownBlock=some q→q∉v.ownBlock.toList:=fun {B e' z' n' v' xs'} hv hne q hq hm=>by
  obtain ⟨cs,hc⟩:=own_tyT hv hq
  obtain ⟨cs',hc'⟩:=own_tyT ho (Option.mem_toList.1 hm)
  rw [hc] at hc'
  simp at hc'
  exact hne hc'.2.symm
 have f:=Fr.ofGrown hgrow
 exact ⟨h.fv.fr f (fun x hx=>.inr (ho.lt x (Option.mem_toList.1 hx)).1) h.hb h.ne,rts_fr h.rt f (noTree_own ho h1 h2),h.gr,h.ex,h.hb,h.hg,f.at h.im (fun hm=>own_off ho h.im h3 _ (Option.mem_toList.1 hm) rfl),f.own h.so (hd h.so h4),h.sr.keep f (fun u hu q hq=>by
  obtain ⟨X,hX⟩:=h.sr.mem hu
  exact hd hX h5 q hq),f.own h.tr (hd h.tr h5),h.sep,h.sets,h.tz⟩
end
theorem map_grow {rs0 rs1:List Rn} {U:List (List Nm)} (hg:GrowT rs0 rs1) {St:List (List ByteArray)} (hS:∀ X∈St,VSet rs0 rs1 U X) (x:List Rn):St.map (stB (rs1++x))=St.map (stB rs1):=List.map_congr_left fun X hX=>stB_app hg (hS X hX) x
section
variable {rsA : List Rn} {hbs : List Nat} {kd : Nat → Nat} {L : Lang} {st : List Lang} {e : Nat} {nx : List Nat} {A X : Lang} {k : Nat}
theorem found_X (h:FoundI hbs.length hbs L st e nx) (he:st[e / hbs.length]?=some A) (hX:X=derL (hbs.getD (e % hbs.length) 0) A) (hc:hbs.getD (e % hbs.length) 0 < 256):∃ u,bytesOk u∧EqB X (derS u L):=by
 obtain ⟨u,u1,u2⟩:=h.reach _ A he
 exact ⟨u++[hbs.getD (e % hbs.length) 0],bytesOk_snoc u1 hc,by rw [derS_snoc,hX];exact u2.der hc⟩
theorem found_old (hs:Sorted 256 (alkB rsA) hbs kd) (hL:SameA rsA L) (h:FoundI hbs.length hbs L st e nx) (hM:0 < hbs.length) (he:st[e / hbs.length]?=some A) (hX:X=derL (hbs.getD (e % hbs.length) 0) A) {Y:Lang} (hY:st[k]?=some Y) (hYX:∀ x,(∀ c∈x,c∈hbs)→(Y x↔X x)):FoundI hbs.length hbs L st (e+1) (nx++[k]):=by
 have hc:=(hs.head (e % hbs.length) (Nat.mod_lt _ hM)).1
 obtain ⟨u,-,u2⟩:=found_X h he hX hc
 obtain ⟨v,-,v2⟩:=h.reach k Y hY
 refine h.old hM he hY ?_
 rw [←hX]
 exact eqb_reps hs hL v2 u2 hYX
theorem found_new (hs:Sorted 256 (alkB rsA) hbs kd) (h:FoundI hbs.length hbs L st e nx) (hM:0 < hbs.length) (he:st[e / hbs.length]?=some A) (hX:X=derL (hbs.getD (e % hbs.length) 0) A) (hno:∀ Y∈st,∃ s,Tells s Y X):FoundI hbs.length hbs L (st++[X]) (e+1) (nx++[st.length]):=by
 have hc:=(hs.head (e % hbs.length) (Nat.mod_lt _ hM)).1
 refine h.new hM he (by rw [hX];exact EqB.refl _) hc (fun i C hC hE=>?_)
 obtain ⟨s,hs'⟩:=hno C (List.mem_of_getElem? hC)
 exact hs' (hE (bytesN s++[]) (by rw [List.append_nil];exact bytesOk_bytesN s))
end
theorem div_at {M n r:Nat} (hr:r < M):(n * M+r) / M=n∧(n * M+r) % M=r:=by
 constructor
 ·rw [Nat.mul_comm,Nat.mul_add_div (by omega),Nat.div_eq_of_lt hr,Nat.add_zero]
 ·rw [Nat.mul_comm,Nat.mul_add_mod,Nat.mod_eq_of_lt hr]
end Mc
end Go.Proofs.YtjooemengpeaaaaGreat
