/-
  policies.truthReader: whether a formula is true.
  policies.truthReader.formula, isTrue, Image.Grants.
  judge.layer.verdicts.
  policies.Image.Table.
-/
import Derived.Test.YtobfpgoepaeknaaGreatM05
import Derived.Deep.MidRow
namespace Go.Proofs.YtobfpgoepaeknaaGreat
namespace Mc
open Go.RowKit
attribute [local go_sem ↓] Go.wp_at_zero Go.wp_at_succ
def bt (T:ByteArray) (k:Nat):Nat:=if h:k < T.size then (T[k]'h).toNat else 0
theorem bt_at (T:ByteArray) (k:Nat):∀ h:k < T.size,(T[k]'h).toNat=bt T k:=fun h=>by unfold bt;rw [dif_pos h]
theorem bt_end {T:ByteArray} {k:Nat} (h:¬k < T.size):bt T k=0:=by unfold bt;rw [dif_neg h]
theorem bt_le (T:ByteArray) (k:Nat):bt T k < 256:=by
 unfold bt;split
 ·exact UInt8.toNat_lt _
 ·decide
def tk (T:ByteArray) (k:Nat):Nat:=if k < T.size then k+1 else k
theorem tk_le {T:ByteArray} {k:Nat} (h:k≤T.size):k≤tk T k∧tk T k≤T.size:=by unfold tk;split<;>omega
def lp (T:ByteArray) (f:Nat→Bool × Nat):Nat→Nat→Nat→Nat × Nat
 | 0,k,c=>(c,k)
 | m+1,k,c=>if k < T.size∧bt T k≠41 then lp T f m (f k).2 (c+(f k).1.toNat) else (c,k)
def sev (T:ByteArray) (f:Nat→Bool × Nat) (k:Nat):Nat × Nat:=((lp T f T.size (tk T k) 0).1,tk T (lp T f T.size (tk T k) 0).2)
def frm (T:ByteArray) (tr:List Bool):Nat→Nat→Bool × Nat
 | 0,k=>(false,k)
 | n+1,k =>
  if bt T k=33 then (!(frm T tr n (tk T k)).1,(frm T tr n (tk T k)).2)
  else if 48≤bt T k∧bt T k≤57 then (decide (bt T k - 48≤(sev T (frm T tr n) (tk T k)).1),(sev T (frm T tr n) (tk T k)).2)
  else (if 97≤bt T k then tr.getD (bt T k - 97) false else false,tk T k)
def Adv (T:ByteArray) (f:Nat→Bool × Nat) (n:Nat):Prop:=∀ k,k≤T.size→T.size < n+k→k≤(f k).2∧(f k).2≤T.size∧(k < T.size→k < (f k).2)
theorem lp_le {T:ByteArray} {f:Nat→Bool × Nat} {n:Nat} (hf:Adv T f n):∀ (m k c:Nat),k≤T.size→T.size < n+k→k≤(lp T f m k c).2∧(lp T f m k c).2≤T.size
 | 0,k,c,h,_=>⟨Nat.le_refl _,h⟩
 | m+1,k,c,h,hn=>by
  rw [lp]
  split
  ·obtain ⟨h1,h2,h3⟩:=hf k h hn
   have:=lp_le hf m (f k).2 (c+(f k).1.toNat) h2 (by omega)
   omega
  ·exact ⟨Nat.le_refl _,h⟩
theorem sev_le {T:ByteArray} {f:Nat→Bool × Nat} {n:Nat} (hf:Adv T f n) {k:Nat} (h:k≤T.size) (hn:T.size < n+k):k≤(sev T f k).2∧(sev T f k).2≤T.size:=by
 have h1:=tk_le h
 have h2:=lp_le hf T.size (tk T k) 0 h1.2 (by omega)
 have h3:=tk_le h2.2
 unfold sev
 exact ⟨by omega,h3.2⟩
theorem frm_adv (T:ByteArray) (tr:List Bool):∀ n,Adv T (frm T tr n) n
 | 0=>fun k h hn=>by omega
 | n+1=>fun k h hn=>by
  have ih:=frm_adv T tr n
  by_cases hk:k < T.size
  ·have e:tk T k=k+1:=by unfold tk;rw [if_pos hk]
   rw [frm,e]
   split
   ·have:=ih (k+1) (by omega) (by omega)
    exact ⟨by simp only [];omega,this.2.1,fun _=>by simp only [];omega⟩
   ·split
    ·have:=sev_le ih (k:=k+1) (by omega) (by omega)
     exact ⟨by simp only [];omega,this.2,fun _=>by simp only [];omega⟩
    ·exact ⟨by simp,by simp only [];omega,fun _=>by simp⟩
  ·have e:tk T k=k:=by unfold tk;rw [if_neg hk]
   rw [frm,e,bt_end hk]
   simp
   omega
structure TR (w:World) (gr:Nat) (T:ByteArray) (k:Nat) (v:Value):Prop where
 heap:w.heap[gr]?=some (.cells #[.string T,.int .i64 (k:Int),v] 223 (0,0))
section
variable {w w' : World} {gr k : Nat} {T : ByteArray} {v : Value}
theorem TR.c0 (h:TR w gr T k v):w.cell? ⟨gr,0,none⟩=some (.string T):=by rw [cell_of_row _ _ _ _ _ _ h.heap];rfl
theorem TR.c1 (h:TR w gr T k v):w.cell? ⟨gr,1,none⟩=some (.int .i64 (k:Int)):=by rw [cell_of_row _ _ _ _ _ _ h.heap];rfl
theorem TR.c2 (h:TR w gr T k v):w.cell? ⟨gr,2,none⟩=some v:=by rw [cell_of_row _ _ _ _ _ _ h.heap];rfl
theorem TR.fz (h:TR w gr T k v) (o:Nat):w.frozen? ⟨gr,o,none⟩=false:=frozen_of_row _ _ _ _ _ h.heap
theorem TR.drewN (h:TR w gr T k v) (n:Nat):TR (w.drewN n) gr T k v:=⟨h.heap⟩
theorem TR.put (h:TR w gr T k v) (k':Nat):TR (w.setCell ⟨gr,1,none⟩ (.int .i64 (k':Int))) gr T k' v:=⟨by rw [heap_setCell_same _ _ _ _ _ _ h.heap];rfl⟩
theorem TR.row {B:Nat} {bs:List Bool} (h:TR w gr T k v) (hb:BR w B v bs) (hf:Fr [gr] w w'):BR w' B v bs:=hf.own hb (fun q hq=>by simpa using own_off hb h.heap (by decide) q hq)
end
theorem Fr.drewN {S:List Nat} {w w':World} (h:Fr S w w') (n:Nat):Fr S w (w'.drewN n):=⟨h.os,h.tape,h.output,h.size,h.block⟩
set_option maxRecDepth 20000 in
set_option maxHeartbeats 1000000 in
theorem take_any (w:World) (gr:Nat) (T:ByteArray) (k:Nat) (v:Value) (h:TR w gr T k v) (hT:T.size≤1000) (hk:k≤T.size) :
  Calls Tryz.prog 171 #[.pointer (some ⟨gr,0,none⟩)] w fun e w'=>e=.returned (.int .i64 ((bt T k:Nat):Int))∧Fr [gr] w w'∧TR w' gr T (tk T k) v:=by
 have c0:=h.c0
 have c1:=h.c1
 have f1:=h.fz 1
 have hTI:(T.size:Int)≤1000:=by omega
 by_cases hlt:k < T.size
 ·have hltI:(k:Int) < (T.size:Int):=by omega
  have hd:decide ((T.size:Int)≤(k:Int))=false:=by simpa using hltI
  have hb:=bt_at T k
  have e:tk T k=k+1:=by unfold tk;rw [if_pos hlt]
  have h0:(0:Int)≤(k:Int):=by omega
  have hbI:((bt T k:Nat):Int) < 256:=by have:=bt_le T k;omega
  have h1:((k:Int)).toNat=k:=by omega
  have hw:IntKind.i64.wrap ((k:Int)+1)=((k+1:Nat):Int):=wrap_i64 (k+1) (by omega)
  have HH:=hide h
  rw [e]
  clear h e
  go_enter Tryz.func171,Tryz.ntmps171
  go_wp2_with fail
  go_quiet (fail)
  go_wp2_with fail
  go_quiet (fail)
  go_wp2_with fail
  go_ret
  exact ⟨rfl,((Fr.refl [gr] w).drewN _).set (Or.inl (by simp)) _ _,((unhide HH).drewN _).put (k+1)⟩
 ·have e:tk T k=k:=by unfold tk;rw [if_neg hlt]
  have hge:(T.size:Int)≤(k:Int):=by omega
  have hge2:T.size≤k:=by omega
  rw [e,bt_end hlt]
  have HH:=hide h
  clear h e
  go_enter Tryz.func171,Tryz.ntmps171
  go_wp2_with fail
  go_quiet (fail)
  go_wp2_with fail
  go_ret
  exact ⟨rfl,(Fr.refl [gr] w).drewN _,(unhide HH).drewN _⟩
def DoesF (T:ByteArray) (bs:List Bool) (n:Nat):Prop:=∀ (w:World) (gr B k:Nat) (v:Value),TR w gr T k v→BR w B v bs→k≤T.size→T.size < n+k →
 Calls Tryz.prog 162 #[.pointer (some ⟨gr,0,none⟩)] w fun e w'=>e=.returned (.bool (frm T bs n k).1)∧Fr [gr] w w'∧TR w' gr T (frm T bs n k).2 v
theorem lp_stop {T:ByteArray} {f:Nat→Bool × Nat} {k c:Nat} (h:¬(k < T.size∧bt T k≠41)):∀ m,lp T f m k c=(c,k)
 | 0=>rfl
 | m+1=>by rw [lp,if_neg h]
set_option maxRecDepth 20000 in
set_option maxHeartbeats 1000000 in
theorem several_any (T:ByteArray) (bs:List Bool) (n:Nat) (hF:DoesF T bs n) (hT:T.size≤1000) (w:World) (gr B k0:Nat) (v:Value) (h:TR w gr T k0 v) (hb:BR w B v bs) (hk:k0≤T.size) (hn:T.size < n+k0) :
  Calls Tryz.prog 172 #[.pointer (some ⟨gr,0,none⟩)] w fun e w'=>e=.returned (.int .i64 (((sev T (frm T bs n) k0).1:Nat):Int))∧Fr [gr] w w'∧TR w' gr T (sev T (frm T bs n) k0).2 v:=by
 have HT0:=hide (take_any w gr T k0 v h hT hk)
 have HRW:=hide (fun w' (hf:Fr [gr] w w')=>h.row hb hf)
 have HF:=hide hF
 have HN:=hide hn
 have HK:=hide (tk_le hk)
 have hTI:(T.size:Int)≤1000:=by omega
 clear hF h hb hn hk
 go_enter Tryz.func172,Tryz.ntmps172
 go_wp2_with fail
 refine (unhide HT0).mono ?_
 rintro e w1 ⟨rfl,hf1,ht1⟩
 have HF1:=hide hf1
 have HT1:=hide ht1
 clear hf1 ht1 HT0
 go_wp2_with fail
 go_loopg [3] T.size (fun m cx wr=>∃ (k c:Nat),cx=.int .i64 (c:Int)∧Hid (T.size≤m+k∧k≤T.size∧k0≤k∧c≤k∧lp T (frm T bs n) m k c=lp T (frm T bs n) T.size (tk T k0) 0∧Fr [gr] w wr∧TR wr gr T k v))
 case atStart=>exact ⟨tk T k0,0,rfl,by omega,(unhide HK).2,(unhide HK).1,Nat.zero_le _,rfl,unhide HF1,unhide HT1⟩
 case round =>
  clear HF1 HT1
  rename World=>wr
  obtain ⟨k,c,rfl,HH⟩:=hrel
  obtain ⟨hm,hk,hk0,hc,he,hfr,htr⟩:=unhide HH
  clear HH
  have c0:=htr.c0
  have c1:=htr.c1
  have h0:(0:Int)≤(k:Int):=by omega
  have h1:((k:Int)).toNat=k:=by omega
  by_cases hlt:k < T.size
  ·have hltI:(k:Int) < (T.size:Int):=by omega
   have hb:=bt_at T k
   by_cases h41:bt T k=41
   ·rw [h41] at hb
    rw [lp_stop (by simp [h41])] at he
    have HS:Hid (sev T (frm T bs n) k0=(c,tk T k)):=by show _=_;unfold sev;rw [←he]
    have HTK:=hide (fun (q:Nat)=>take_any _ gr T k v (htr.drewN q) hT hk)
    have HFR:=hide hfr
    clear he hfr htr h41 hm hk0 hc
    go_wp2_with fail
    go_quiet (fail)
    go_wp2_with fail
    refine (unhide HTK _).mono ?_
    rintro e w2 ⟨rfl,hf2,ht2⟩
    have HF2:=hide hf2
    have HT2:=hide ht2
    clear hf2 ht2
    go_wp2_with fail
    go_ret
    rw [unhide HS]
    exact ⟨rfl,((unhide HFR).drewN _).and (unhide HF2) (fun x hx=>Or.inl hx),unhide HT2⟩
   ·have hgk:1≤gk:=by omega
    obtain ⟨g1,rfl⟩:∃ g1,gk=g1+1:=⟨gk - 1,by omega⟩
    rw [lp,if_pos ⟨hlt,h41⟩] at he
    have hnk:T.size < n+k:=by have:=unhide HN;omega
    have had:=frm_adv T bs n k hk hnk
    have HFM:=hide (fun (q:Nat)=>unhide HF (wr.drewN q) gr B k v (htr.drewN q) (unhide HRW _ (hfr.drewN q)) hk hnk)
    have h41I:¬((bt T k:Nat):Int)=41:=by omega
    have hcI:(c:Int)≤1000:=by omega
    have hbI:((bt T k:Nat):Int) < 256:=by have:=bt_le T k;omega
    have hwc:IntKind.i64.wrap ((c:Int)+1)=((c+1:Nat):Int):=wrap_i64 (c+1) (by omega)
    have HFR:=hide hfr
    generalize hp:frm T bs n k=p at *
    clear hp
    obtain ⟨pb,pk⟩:=p
    have HRL:Hid (T.size≤g1+pk∧pk≤T.size∧k0≤pk∧c+pb.toNat≤pk∧lp T (frm T bs n) g1 pk (c+pb.toNat)=lp T (frm T bs n) T.size (tk T k0) 0):=by
     have a1:=had.1
     have a2:=had.2.1
     have a3:=had.2.2 hlt
     have a4:pb.toNat≤1:=by cases pb<;>decide
     simp only [] at a1 a2 a3
     exact ⟨by omega,a2,by omega,by omega,he⟩
    clear hm hk0 hc he hfr htr hgk hnk had
    cases pb
    all_goals
     go_wp2_with fail
     go_quiet (fail)
     go_wp2_with fail
     refine (unhide HFM _).mono ?_
     rintro e w2 ⟨rfl,hf2,ht2⟩
     have HF2:=hide hf2
     have HT2:=hide ht2
     clear hf2 ht2
     go_wp2_with fail
     go_roundg g1
     case measure=>omega
     case rel =>
      obtain ⟨r1,r2,r3,r4,r5⟩:=unhide HRL
      exact ⟨pk,_,by first | rfl | (show Value.int _ _=Value.int _ _;simp),r1,r2,r3,r4,r5,((unhide HFR).drewN _).and (unhide HF2) (fun x hx=>Or.inl hx),unhide HT2⟩
  ·have hgeI:(T.size:Int)≤(k:Int):=by omega
   have hge:T.size≤k:=by omega
   rw [lp_stop (by omega)] at he
   have HS:Hid (sev T (frm T bs n) k0=(c,tk T k)):=by show _=_;unfold sev;rw [←he]
   have HTK:=hide (fun (q:Nat)=>take_any _ gr T k v (htr.drewN q) hT hk)
   have HFR:=hide hfr
   clear he hfr htr hm hk0 hc
   go_wp2_with fail
   go_quiet (fail)
   go_wp2_with fail
   refine (unhide HTK _).mono ?_
   rintro e w2 ⟨rfl,hf2,ht2⟩
   have HF2:=hide hf2
   have HT2:=hide ht2
   clear hf2 ht2
   go_wp2_with fail
   go_ret
   rw [unhide HS]
   exact ⟨rfl,((unhide HFR).drewN _).and (unhide HF2) (fun x hx=>Or.inl hx),unhide HT2⟩
end Mc
end Go.Proofs.YtobfpgoepaeknaaGreat
namespace Go.Proofs.YtobfpgoepaeknaaGreat
namespace Mc
open Go.RowKit
attribute [local go_sem ↓] Go.wp_at_zero Go.wp_at_succ
set_option maxRecDepth 20000 in
set_option maxHeartbeats 1000000 in
theorem formula_any (T:ByteArray) (bs:List Bool) (hT:T.size≤1000) (hbs:bs.length≤1000):∀ n,DoesF T bs n
 | 0=>fun w gr B k v h hb hk hn=>by omega
 | n+1=>fun w gr B k v h hb hk hn=>by
  have ih:=formula_any T bs hT hbs n
  have HT0:=hide (take_any w gr T k v h hT hk)
  have HB:=hide (fun w' (hf:Fr [gr] w w')=>h.row hb hf)
  have hb256:=bt_le T k
  have hbI:((bt T k:Nat):Int) < 256:=by omega
  have hb0:(0:Int)≤((bt T k:Nat):Int):=by omega
  have htk:=tk_le hk
  have hltk:bt T k≠0→T.size < n+tk T k:=fun h0=>by
   have:k < T.size:=by
    by_cases hlt:k < T.size
    ·exact hlt
    ·exact absurd (bt_end hlt) h0
   unfold tk;rw [if_pos this];omega
  obtain ⟨va,vc,hv⟩:=hb.form
  have HLK:=hide hltk
  rw [frm]
  by_cases h33:bt T k=33
  ·have HFM:=hide (fun w' (hf:Fr [gr] w w') (ht:TR w' gr T (tk T k) v)=>ih w' gr B (tk T k) v ht (unhide HB w' hf) htk.2 (hltk (by omega)))
   rw [if_pos h33]
   rw [h33] at HT0
   clear ih h hb hltk h33 hbI hb0 HLK hv hb256
   go_enter Tryz.func162,Tryz.ntmps162
   go_wp2_with fail
   refine (unhide HT0).mono ?_
   rintro e w1 ⟨rfl,hf1,ht1⟩
   have HC:=hide (unhide HFM w1 hf1 ht1)
   have HF1:=hide hf1
   clear hf1 ht1
   go_wp2_with fail
   refine (unhide HC).mono ?_
   rintro e w2 ⟨rfl,hf2,ht2⟩
   have HF2:=hide hf2
   have HT2:=hide ht2
   clear hf2 ht2
   go_wp2_with fail
   go_ret
   exact ⟨rfl,(unhide HF1).and (unhide HF2) (fun x hx=>Or.inl hx),unhide HT2⟩
  ·have h33I:¬((bt T k:Nat):Int)=33:=by omega
   rw [if_neg h33]
   by_cases hdg:48≤bt T k∧bt T k≤57
   ·rw [if_pos hdg]
    have HSV:=hide (fun w' (hf:Fr [gr] w w') (ht:TR w' gr T (tk T k) v)=>several_any T bs n ih hT w' gr B (tk T k) v ht (unhide HB w' hf) htk.2 (hltk (by omega)))
    have d1:(48:Int)≤((bt T k:Nat):Int):=by omega
    have d2:((bt T k:Nat):Int)≤57:=by omega
    have e1:((bt T k:Nat):Int) - 48=((bt T k - 48:Nat):Int):=by omega
    have ew:IntKind.i64.wrap ((bt T k - 48:Nat):Int)=((bt T k - 48:Nat):Int):=wrap_i64 (bt T k - 48) (by omega)
    clear ih h hb hltk HLK hv hb256 h33
    generalize sev T (frm T bs n) (tk T k)=p at *
    obtain ⟨pc,pk⟩:=p
    generalize bt T k - 48=x at *
    have hdg2:=hide hdg
    clear hdg
    generalize bt T k=b at *
    go_enter Tryz.func162,Tryz.ntmps162
    go_wp2_with fail
    refine (unhide HT0).mono ?_
    rintro e w1 ⟨rfl,hf1,ht1⟩
    have HC:=hide (unhide HSV w1 hf1 ht1)
    have HF1:=hide hf1
    clear hf1 ht1
    go_wp2_with fail
    refine (unhide HC).mono ?_
    rintro e w2 ⟨rfl,hf2,ht2⟩
    have HF2:=hide hf2
    have HT2:=hide ht2
    clear hf2 ht2
    go_wp2_with fail
    go_ret
    exact ⟨ret_bool (by simp),(unhide HF1).and (unhide HF2) (fun x hx=>Or.inl hx),unhide HT2⟩
   ·rw [if_neg hdg]
    by_cases h97:97≤bt T k
    ·rw [if_pos h97]
     have d1:(48:Int)≤((bt T k:Nat):Int):=by omega
     have d2:¬((bt T k:Nat):Int)≤57:=by omega
     have e1:((bt T k:Nat):Int) - 97=((bt T k - 97:Nat):Int):=by omega
     have ew:IntKind.i64.wrap ((bt T k - 97:Nat):Int)=((bt T k - 97:Nat):Int):=wrap_i64 (bt T k - 97) (by omega)
     have hx0:(0:Int)≤((bt T k - 97:Nat):Int):=by omega
     have hx1:(((bt T k - 97:Nat):Int)).toNat=bt T k - 97:=by omega
     by_cases hin:bt T k - 97 < bs.length
     ·have hinI:((bt T k - 97:Nat):Int) < (bs.length:Int):=by omega
      have HCE:=hide (fun w' (hf:Fr [gr] w w')=>(unhide HB w' hf).at hin)
      clear ih h hb hltk HLK hb256 h33 hdg h97 htk HB
      generalize bs.getD (bt T k - 97) false=y at *
      generalize bt T k - 97=x at *
      generalize bt T k=b at *
      go_enter Tryz.func162,Tryz.ntmps162
      go_wp2_with fail
      refine (unhide HT0).mono ?_
      rintro e w1 ⟨rfl,hf1,ht1⟩
      obtain ⟨g,cap,hv2,hcell⟩:=unhide HCE w1 hf1
      have c2:=ht1.c2
      rw [hv2] at c2
      have HT1:=hide ht1
      have HF1:=hide hf1
      clear hf1 ht1 HCE hv hv2 HT0
      cases y
      all_goals
       go_wp2_with fail
       go_ret
       exact ⟨rfl,unhide HF1,unhide HT1⟩
     ·have hinI:¬((bt T k - 97:Nat):Int) < (bs.length:Int):=by omega
      rw [show bs.getD (bt T k - 97) false=false from by rw [List.getD_eq_getElem?_getD,List.getElem?_eq_none (by omega)];rfl]
      clear ih h hb hltk HLK hb256 h33 hdg h97 htk HB
      generalize bt T k - 97=x at *
      generalize bt T k=b at *
      go_enter Tryz.func162,Tryz.ntmps162
      go_wp2_with fail
      refine (unhide HT0).mono ?_
      rintro e w1 ⟨rfl,hf1,ht1⟩
      have c2:=ht1.c2
      rw [hv] at c2
      have HT1:=hide ht1
      have HF1:=hide hf1
      clear hf1 ht1 hv HT0
      go_wp2_with fail
      go_ret
      exact ⟨rfl,unhide HF1,unhide HT1⟩
    ·rw [if_neg h97]
     have d1:((bt T k:Nat):Int) < 97:=by omega
     have dd:((bt T k:Nat):Int) < 48∨(48:Int)≤((bt T k:Nat):Int)∧¬((bt T k:Nat):Int)≤57:=by omega
     clear ih h hb hltk HLK hb256 h33 hdg h97 htk HB hv
     generalize bt T k=b at *
     rcases dd with d2 | ⟨d2,d3⟩
     all_goals
      go_enter Tryz.func162,Tryz.ntmps162
      go_wp2_with fail
      refine (unhide HT0).mono ?_
      rintro e w1 ⟨rfl,hf1,ht1⟩
      have HT1:=hide ht1
      have HF1:=hide hf1
      clear hf1 ht1 HT0
      go_wp2_with fail
      go_ret
      exact ⟨rfl,unhide HF1,unhide HT1⟩
def trueF (T:ByteArray) (bs:List Bool):Bool:=(frm T bs (T.size+1) 0).1
set_option maxRecDepth 20000 in
set_option maxHeartbeats 1000000 in
theorem isTrue_any (w:World) (B:Nat) (T:ByteArray) (bs:List Bool) (v:Value) (hb:BR w B v bs) (hT:T.size≤1000) (hbs:bs.length≤1000) :
  Calls Tryz.prog 153 #[.string T,v] w fun e w'=>e=.returned (.bool (trueF T bs))∧Below w.heap.size w w':=by
 obtain ⟨va,vc,hv⟩:=hb.form
 have HB:=hide hb
 have HF:=hide (formula_any T bs hT hbs (T.size+1))
 subst hv
 clear hb
 go_enter Tryz.func153,Tryz.ntmps153
 go_wp2_with fail
 refine (unhide HF _ w.heap.size B 0 _ ⟨heap_alloc_new _ _⟩ ((Fr.ofAlloc w _).own (unhide HB) (by simp)) (Nat.zero_le _) (by omega)).mono ?_
 rintro e w2 ⟨rfl,hf2,-⟩
 have HF2:=hide hf2
 clear hf2
 go_wp2_with fail
 go_ret
 exact ⟨rfl,((Fr.ofAlloc w _).and (unhide HF2) (fun x hx=>Or.inr (by simp at hx;omega))).below (fun x hx=>by cases hx)⟩
set_option maxRecDepth 20000 in
set_option maxHeartbeats 1000000 in
theorem Grants_any (w:World) (gi N m tc B:Nat) (f:ByteArray) (ta:Option Addr) (bs:List Bool) (v:Value) (h:ImB w gi N f ta m tc) (hb:BR w B v bs) (hT:f.size≤1000) (hbs:bs.length≤1000) :
  Calls Tryz.prog 133 #[.pointer (some ⟨gi,0,none⟩),v] w fun e w'=>e=.returned (.bool (trueF f bs))∧Below w.heap.size w w':=by
 have c1:w.cell? ⟨gi,1,none⟩=some (.string f):=by rw [cell_of_row _ _ _ _ _ _ h.heap];rfl
 have HC:=hide (isTrue_any w B f bs v hb hT hbs)
 obtain ⟨va,vc,hv⟩:=hb.form
 subst hv
 clear h hb
 go_enter Tryz.func133,Tryz.ntmps133
 go_wp2_with fail
 refine (unhide HC).mono ?_
 rintro e w2 ⟨rfl,hf2⟩
 have HF2:=hide hf2
 clear hf2
 go_wp2_with fail
 go_ret
 exact ⟨rfl,unhide HF2⟩
end Mc
end Go.Proofs.YtobfpgoepaeknaaGreat
namespace Go.Proofs.YtobfpgoepaeknaaGreat
namespace Mc
open Go.RowKit
attribute [local go_sem ↓] Go.wp_at_zero Go.wp_at_succ
theorem PresL.ofBelow {B:Nat} {w w':World} (h:Below w.heap.size w w') (hB:B≤w.heap.size):PresL B w w' :=
 ⟨⟨h.os,h.tape,h.output,h.size,fun k hk=>h.block k (by omega)⟩,fun k cs ty fr hk _ _=>(Fr.ofBelow h).at hk (by simp)⟩
theorem LBx.below {w w':World} {B gl:Nat} {v:Value} {ds:List Nat} (h:LBx w B gl v ds) (hb:Below w.heap.size w w'):LBx w' B gl v ds:=⟨h.hB,(Fr.ofBelow hb).at h.heap (by simp),(Fr.ofBelow hb).own h.row (by simp)⟩
theorem ImB.presL {w w':World} {B gi N m tc:Nat} {f:ByteArray} {ta:Option Addr} (h:ImB w gi N f ta m tc) (hp:PresL B w w'):ImB w' gi N f ta m tc:=⟨hp.keep _ _ _ _ h.heap (by decide) (by decide)⟩
def verdW (f:ByteArray) (m n:Nat):List Nat:=(List.range n).map fun s=>(trueF f (bitsM s m)).toNat
theorem verdW_succ (f:ByteArray) (m n:Nat):verdW f m (n+1)=verdW f m n++[(trueF f (bitsM n m)).toNat]:=by unfold verdW;rw [List.range_succ,List.map_append];rfl
theorem verdW_len (f:ByteArray) (m n:Nat):(verdW f m n).length=n:=by unfold verdW;simp
set_option maxRecDepth 20000 in
set_option maxHeartbeats 1000000 in
theorem verdicts_any (w:World) (B gl gi N m tc:Nat) (f:ByteArray) (ta:Option Addr) (ds:List Nat) (h:LB w B gl ds) (hi:ImB w gi N f ta m tc) (hm:m≤4) (hf:f.size≤1000) (hl:ds.length≤50000) :
  Calls Tryz.prog 88 #[.pointer (some ⟨gl,0,none⟩),.pointer (some ⟨gi,0,none⟩)] w fun e w'=>e=.returned (arV (32+ds.length) (32+ds.length+2 ^ m))∧PresL B w w'∧LB w' B gl (ds++verdW f m (2 ^ m)):=by
 obtain ⟨v,hx⟩:=h
 have HSZ:Hid (B≤w.heap.size):=by have:=hx.hB;have:=hx.lt;show _≤_;omega
 have HA0:=hide (address_any _ B gl ds ⟨v,hx.alloc (Obj.cells #[.int .i64 0,.int .i64 0] 168)⟩ (by omega))
 have HP0:Hid (PresL B w (w.alloc (Obj.cells #[.int .i64 0,.int .i64 0] 168))):=PresL.alloc B w _ (unhide HSZ)
 have HX0:Hid (LB (w.alloc (Obj.cells #[.int .i64 0,.int .i64 0] 168)) B gl (ds++verdW f m 0)):=by
  show LB _ _ _ _
  rw [show ds++verdW f m 0=ds by simp [verdW]]
  exact ⟨v,hx.alloc _⟩
 have HBX:Hid ((w.alloc (Obj.cells #[.int .i64 0,.int .i64 0] 168)).heap[w.heap.size]?=some (Obj.cells #[.int .i64 0,.int .i64 0] 168 (0,0))):=heap_alloc_new _ _
 have HI:=hide (fun w' (hp:PresL B w w')=>hi.presL hp)
 have HL:=hide hl
 have HM:=hide hm
 have HF:=hide hf
 have hlI:(ds.length:Int)≤50000:=by omega
 have hmI:(m:Int)≤4:=by omega
 clear hx hi hl hm hf
 go_enter Tryz.func88,Tryz.ntmps88
 go_wp2_with fail
 refine (unhide HA0).mono ?_
 rintro e w1 ⟨rfl,hww⟩
 rw [hww]
 clear hww
 go_wp2_with fail
 generalize hg4:w.heap.size=g4 at *
 have HG4:=hide hg4
 clear hg4
 generalize hwa:(w.alloc (Obj.cells #[.int .i64 0,.int .i64 0] 168))=wa at *
 clear hwa HA0
 go_loop [6,7] (fun sx ix=>∃ i:Nat,sx=.int .i64 ((2 ^ i:Nat):Int)∧ix=.int .i64 (i:Int)∧Hid (i≤m)) (fun _ ix=>lenLeft m ix)
 case atStart=>exact ⟨0,rfl,rfl,Nat.zero_le _⟩
 case round =>
  obtain ⟨i,rfl,rfl,HH⟩:=hrel
  have HR:=hide (Rules_any wa gi N m tc f ta (unhide HI wa (unhide HP0)))
  by_cases hlt:i < m
  ·have hltI:(i:Int) < (m:Int):=by omega
   have hp16:2 ^ i≤16:=by
    have:=unhide HM
    exact Nat.le_trans (Nat.pow_le_pow_right (by decide) (show i≤4 by omega)) (by decide)
   have e1:((2 ^ i:Nat):Int) * 2=((2 ^ (i+1):Nat):Int):=by rw [Nat.pow_succ,Int.natCast_mul];rfl
   have ew:IntKind.i64.wrap ((2 ^ (i+1):Nat):Int)=((2 ^ (i+1):Nat):Int):=wrap_i64 (2 ^ (i+1)) (by rw [Nat.pow_succ];omega)
   have HLT:=hide hlt
   clear hlt hp16
   generalize 2 ^ i=p at *
   generalize hp2:2 ^ (i+1)=p2 at *
   have HP2:=hide hp2
   clear hp2
   go_wp2_with fail
   refine (unhide HR).mono ?_
   rintro e w2 ⟨rfl,hww⟩
   rw [hww]
   clear hww
   go_wp2_with fail
   go_round
   case rel=>exact ⟨i+1,by rw [unhide HP2],by go_num,unhide HLT⟩
   case measure=>have:=unhide HLT;simp [lenLeft,intOf];omega
  ·have hi2:i=m:=by have:=unhide HH;omega
   subst hi2
   have hp16:2 ^ i≤16:=by
    have:=unhide HM
    exact Nat.le_trans (Nat.pow_le_pow_right (by decide) this) (by decide)
   clear hlt HH
   generalize hpe:2 ^ i=p at *
   have HPE:=hide hpe
   clear hpe
   have hpI:(p:Int)≤16:=by omega
   go_wp2_with fail
   refine (unhide HR).mono ?_
   rintro e w2 ⟨rfl,hww⟩
   rw [hww]
   clear hww
   go_wp2_with fail
   go_loopw [8] (fun ix wr=>∃ s:Nat,ix=.int .i64 (s:Int)∧Hid (s≤p∧PresL B w wr∧LB wr B gl (ds++verdW f i s)∧wr.heap[g4]?=some (Obj.cells #[.int .i64 0,.int .i64 0] 168 (0,0)))) (fun ix _=>lenLeft p ix)
   case atStart=>exact ⟨0,rfl,Nat.zero_le _,unhide HP0,unhide HX0,unhide HBX⟩
   case round =>
    clear HP0 HX0 HBX HR
    rename World=>wr
    obtain ⟨s,rfl,HH⟩:=hrel
    obtain ⟨hs,hP,⟨v,hx⟩,hbx⟩:=unhide HH
    have hdl:(ds++verdW f i s).length=ds.length+s:=by rw [List.length_append,verdW_len]
    by_cases hlt:s < p
    ·have hltI:(s:Int) < (p:Int):=by omega
     have HR:=hide (Rules_any wr gi N i tc f ta (unhide HI wr hP))
     have HMK:=hide (marked_any wr s i (by omega) (by have:=unhide HM;omega))
     have HLT:=hide hlt
     have HLEN:Hid ((ds++verdW f i s).length≤3000000):=by have:=unhide HL;rw [hdl];show _≤_;omega
     have HSN:Hid (ds++verdW f i (s+1)=ds++verdW f i s++[(trueF f (bitsM s i)).toNat]):=by show _=_;rw [verdW_succ,List.append_assoc]
     have HP:=hide hP
     have HX:=hide hx
     have HBX:=hide hbx
     clear HH hs hP hx hbx hlt hdl
     generalize ds++verdW f i s=xs at *
     go_wp2_with fail
     refine (unhide HR).mono ?_
     rintro e w3 ⟨rfl,hww⟩
     obtain rfl:wr=w3:=hww.symm
     clear hww HR
     go_wp2_with fail
     refine (unhide HMK).mono ?_
     rintro e w4 ⟨vb,rfl,hb4,hr4⟩
     have HX4:=hide ((unhide HX).below hb4)
     have HP4':=hide (PresL.ofBelow (B:=B) hb4 (by have:=(unhide HX).hB;have:=(unhide HX).lt;omega))
     have HP4:=hide ((unhide HP).trans (unhide HP4'))
     have HB4:=hide ((unhide HP4').keep _ _ _ _ (unhide HBX) (by decide) (by decide))
     have HGR:=hide (Grants_any w4 gi N i tc wr.heap.size f ta _ vb (unhide HI w4 (unhide HP4)) hr4 (unhide HF) (by rw [bitsM_len];have:=unhide HM;omega))
     obtain ⟨ba,bc,rfl⟩:=hr4.form
     clear hb4 hr4 HMK HP HX HBX HP4'
     go_wp2_with fail
     refine (unhide HGR).mono ?_
     rintro e w5 ⟨rfl,hb5⟩
     have hx5:=(unhide HX4).below hb5
     have HP5':=hide (PresL.ofBelow (B:=B) hb5 (by have:=(unhide HX4).hB;have:=(unhide HX4).lt;omega))
     have HP5:=hide ((unhide HP4).trans (unhide HP5'))
     have HB5:=hide ((unhide HP5').keep _ _ _ _ (unhide HB4) (by decide) (by decide))
     obtain ⟨va,vc,rfl⟩:=hx5.row.form
     have c0:=hx5.cell
     have hgl:=hx5.lt
     have HBS:Hid (B≤w5.heap.size):=by have:=hx5.hB;show _≤_;omega
     generalize trueF f (bitsM s i)=y at *
     have HXA:=hide (fun (z:Int)=>hx5.alloc (Obj.cells #[.int .i64 z] 3))
     have HPA:Hid (∀ z:Int,PresL B w (w5.alloc (Obj.cells #[.int .i64 z] 3))):=fun z=>(unhide HP5).trans (PresL.alloc B w5 _ (unhide HBS))
     have HBA:Hid (∀ z:Int,(w5.alloc (Obj.cells #[.int .i64 z] 3)).heap[g4]?=some (Obj.cells #[.int .i64 0,.int .i64 0] 168 (0,0))):=fun z=>(Fr.ofAlloc _ _).at (unhide HB5) (by simp)
     clear hb5 hx5 HGR HX4 HP4 HB4 HP5' HP5 HB5
     cases y
     all_goals
      go_wp2_with (at_builtin;refine app1 rfl (.tmp 37) (.tmp 39) rfl B _ _ rfl (unhide HXA _).row w5.heap.size _ rfl (new_cell rfl) (unhide HLEN) (by have:=unhide HBS;simp;omega) (w5.heap.size+1) (by simp) ?_;intro g5 cap5 w8 ho hgrow hlies hlt5;obtain ⟨c9,f9,hX9,hP9⟩:=(unhide HXA _).push hgrow ho (hlies.elim Or.inl (fun e=>Or.inr (by rw [e];simp)));have HX9:=hide hX9;have HP9:=hide ((unhide HPA _).trans hP9);have HB9:=hide (hP9.keep _ _ _ _ (unhide HBA _) (by decide) (by decide));clear ho hgrow hlies hX9 hP9)
      go_roundw
      case rel=>exact ⟨s+1,by go_num,unhide HLT,unhide HP9,⟨_,by rw [unhide HSN];exact unhide HX9⟩,unhide HB9⟩
      case measure=>have:=unhide HLT;simp [lenLeft,intOf];omega
    ·have hs2:s=p:=by omega
     subst hs2
     have hgx:=(Array.getElem?_eq_some_iff.1 hbx).1
     have HA:=hide (address_any wr B gl _ ⟨_,hx⟩ (by rw [hdl];have:=unhide HL;omega))
     rw [hdl] at HA
     obtain ⟨b0,b1⟩:=boxA hbx
     have f0:wr.frozen? ⟨g4,0,none⟩=false:=frozen_of_row _ _ _ _ _ hbx
     have f1:wr.frozen? ⟨g4,1,none⟩=false:=frozen_of_row _ _ _ _ _ hbx
     have HP:=hide hP
     have HX:=hide hx
     have HBX:=hide hbx
     clear HH hs hP hx hbx hlt hdl
     go_wp2_with fail
     refine (unhide HA).mono ?_
     rintro e w9 ⟨rfl,hww⟩
     obtain rfl:wr=w9:=hww.symm
     clear hww
     go_wp2_with fail
     have hend:((wr.setCell ⟨g4,0,none⟩ (.int .i64 (32+(ds.length:Int)))).setCell ⟨g4,1,none⟩ (.int .i64 (32+((ds.length:Int)+(s:Int))))).heap[g4]?=some (Obj.cells #[.int .i64 (32+(ds.length:Int)),.int .i64 (32+((ds.length:Int)+(s:Int)))] 168 (0,0)):=by
      rw [heap_setCell_same _ _ _ _ _ _ (heap_setCell_same _ _ _ _ _ _ (unhide HBX))];rfl
     refine bodyPost_ret (results_cell_row (p:=4) (ty:=168) rfl _ _ g4 168 _ (0,0) _ rfl hend Tryz.underlying168 rfl (by kernel_rfl)) rfl ?_
     rw [unhide HPE]
     refine ⟨?_,((unhide HP).res (Nat.le_of_eq (unhide HG4)) (unhide HSZ) _ _).res (Nat.le_of_eq (unhide HG4)) (unhide HSZ) _ _,_,((unhide HX).res (unhide HBX) _ _).res (heap_setCell_same _ _ _ _ _ _ (unhide HBX)) _ _⟩
     unfold arV
     push_cast
     rw [Int.add_assoc]
end Mc
end Go.Proofs.YtobfpgoepaeknaaGreat
namespace Go.Proofs.YtobfpgoepaeknaaGreat
namespace Mc
open Go.RowKit
def zcTb:Array Value:=tbC (fun _=>0) 0 (.slice none 0 0) (.slice none 0 0)
theorem tbC_size (cl:Nat→Nat) (C:Nat) (gv nv:Value):(tbC cl C gv nv).size=259:=by unfold tbC;simp [ncs]
theorem zcTb_size:zcTb.size=259:=tbC_size _ _ _ _
theorem zcTb_ne:zcTb≠#[]:=fun e=>by have:=zcTb_size;rw [e] at this;simp at this
theorem zvTb (w:World):(zeroValue 47).run Tryz.prog w=.ok (.agg zcTb) w:=by kernel_rfl
theorem aggcells (cs:Array Value):(Value.agg cs).cells=cs:=rfl
theorem tbC_one (a b:Option Addr) (n1 n2 c1 c2:Nat) (cl:Nat→Nat) (C:Nat):(tbC cl C (.slice a n1 c1) (.slice b n2 c2)).all (·.oneCell')=true:=by
 unfold tbC
 rw [List.all_toArray,List.all_append,Bool.and_eq_true]
 refine ⟨?_,rfl⟩
 unfold ncs
 rw [List.all_map,List.all_eq_true]
 intro x _
 rfl
theorem infoT:(Tryz.prog.info? 47).map (·.size)=some 259:=by kernel_rfl
theorem store_row {P:Program} {ops:Array Oper} {rest:List Oper} {o:Oper} {a:Act} {w:World} {Q:Exit→Act→World→Prop} (hgd:o.guard=none) (ty:TypeId) (x y:Operand) (ho:o.op=.store ty x y) (hd:o.dst=none)
  (g:Nat) (cells:Array Value) (hx:a.eval x=.pointer (some ⟨g,0,none⟩)) (hy:a.eval y=.agg cells)
  (t:TypeId) (old:Array Value) (hg:w.heap[g]?=some (.cells old t (0,0))) (hi:(P.info? ty).map (·.size)=some cells.size)
  (hold:old.size=cells.size) (h1:cells.all (·.oneCell')=true)
  (h:wpList P ops Q rest a (w.setRow g cells)):wpList P ops Q (o ::rest) a w :=
 wpList_store_row hgd ty x y ho g cells hx hy t old hg hi hold h1 (by rw [hd];exact h)
structure TRws (w:World) (B:Nat) (t:TabN) (gv nv:Value):Prop where
 ok:t.Ok
 ex:∃ bs ns,BR w 0 gv bs∧NR w 0 nv ns∧(∀ q,gv.ownBlock=some q→q < B)∧(∀ q,nv.ownBlock=some q→q < B)∧bs.length=t.S∧(∀ q,q < t.S→bs.getD q false=t.gr q)∧ns.length=t.S * t.C∧∀ q c,q < t.S→c < t.C→ns.getD (q * t.C+c) 0=t.nx q c
theorem TRws.form {w:World} {B:Nat} {t:TabN} {gv nv:Value} (h:TRws w B t gv nv):∃ a1 n1 c1 a2 n2 c2,gv=.slice a1 n1 c1∧nv=.slice a2 n2 c2:=by
 obtain ⟨bs,ns,h1,h2,-⟩:=h.ex
 obtain ⟨a,c,e⟩:=h1.form
 obtain ⟨a',c',e'⟩:=h2.form
 exact ⟨_,_,_,_,_,_,e,e'⟩
theorem TRws.below {w w':World} {B:Nat} {t:TabN} {gv nv:Value} (h:TRws w B t gv nv) (hb:Below B w w'):TRws w' B t gv nv:=by
 obtain ⟨bs,ns,h1,h2,q1,q2,r⟩:=h.ex
 exact ⟨h.ok,bs,ns,row_keep hb h1 q1,row_keep hb h2 q2,q1,q2,r⟩
theorem TRws.tab {w:World} {B gt:Nat} {t:TabN} {gv nv:Value} (h:TRws w B t gv nv) (hg:w.heap[gt]?=some (.cells (tbC t.cl t.C gv nv) 47 (0,0))):TbB w B gt t:=by
 obtain ⟨bs,ns,r⟩:=h.ex
 exact ⟨h.ok,gv,nv,bs,ns,hg,r⟩
structure Tbs (w:World) (B g m:Nat) (ts:Nat→TabN):Prop where
 at_:∀ i,i < m→∃ gv nv,w.rangeAt g (i * 259) (tbC (ts i).cl (ts i).C gv nv).toList∧TRws w B (ts i) gv nv
 lt:g < B
theorem Tbs.below {w w':World} {B g m:Nat} {ts:Nat→TabN} (h:Tbs w B g m ts) (hb:Below B w w'):Tbs w' B g m ts :=
 ⟨fun i hi=>by
  obtain ⟨gv,nv,h1,h2⟩:=h.at_ i hi
  exact ⟨gv,nv,fun j v hv=>(World.cell?_of_block (hb.block g h.lt)).trans (h1 j v hv),h2.below hb⟩,h.lt⟩
section
attribute [local go_sem ↓] Go.wp_at_zero Go.wp_at_succ zvTb
attribute [local go_sem] zcTb_size zcTb_ne aggcells
set_option maxRecDepth 20000 in
set_option maxHeartbeats 1000000 in
theorem Table_any (w:World) (B gi N m tc g:Nat) (f:ByteArray) (ts:Nat→TabN) (h:ImB w gi N f (some ⟨g,0,none⟩) m tc) (ht:Tbs w B g m ts) (hB:B≤w.heap.size) (i:Nat) (hi:i < m) (hm:m≤4) :
  Calls Tryz.prog 92 #[.pointer (some ⟨gi,0,none⟩),.int .i64 (i:Int)] w fun e w'=>Below w.heap.size w w'∧∃ gv nv,e=.returned (.agg (tbC (ts i).cl (ts i).C gv nv))∧TRws w' B (ts i) gv nv:=by
 obtain ⟨gv,nv,hr,hw⟩:=ht.at_ i hi
 have c2:w.cell? ⟨gi,2,none⟩=some (.slice (some ⟨g,0,none⟩) m tc):=by rw [cell_of_row _ _ _ _ _ _ h.heap];rfl
 have hgi:=(Array.getElem?_eq_some_iff.1 h.heap).1
 have hg:=ht.lt
 have hiI:(i:Int) < (m:Int):=by omega
 have hmI:(m:Int)≤4:=by omega
 have hi0:(0:Int)≤(i:Int):=by omega
 have hi1:((i:Int)).toNat=i:=by omega
 have HR:Hid ((w.alloc (.cells zcTb 47)).rangeAt g (i * 259) (tbC (ts i).cl (ts i).C gv nv).toList):=fun j v hv=>(Fr.ofAlloc w _).cell (hr j v hv) (by simp)
 obtain ⟨a1,n1,k1,a2,n2,k2,rfl,rfl⟩:=hw.form
 have HW:=hide hw
 have HB0:Hid (Below w.heap.size w (w.alloc (.cells zcTb 47))):=(Below.refl _ _).alloc (Nat.le_refl _) _
 have HN:Hid ((w.alloc (.cells zcTb 47)).heap[w.heap.size]?=some (.cells zcTb 47 (0,0))):=heap_alloc_new _ _
 have HBB:=hide hB
 have HSZ:=hide (tbC_size (ts i).cl (ts i).C (.slice a1 n1 k1) (.slice a2 n2 k2))
 have HON:=hide (tbC_one a1 a2 n1 n2 k1 k2 (ts i).cl (ts i).C)
 clear hr hw h ht hB hi hm
 generalize hcs:tbC (ts i).cl (ts i).C (.slice a1 n1 k1) (.slice a2 n2 k2)=cs at *
 have HCS:=hide hcs
 clear hcs
 go_enter Tryz.func92,Tryz.ntmps92
 go_wp2_with (first
  | refine wpList_load_mid rfl 47 _ rfl g (i * 259) rfl cs.toList _ (unhide HR) Tryz.underlying47 rfl (by rw [Array.length_toList,unhide HSZ];exact infoT) ?_
  | refine store_row rfl 47 _ _ rfl rfl w.heap.size cs rfl rfl 47 _ (unhide HN) (by rw [unhide HSZ];exact infoT) (by rw [zcTb_size];exact (unhide HSZ).symm) (unhide HON) ?_)
 refine bodyPost_ret (results_cell_row (p:=4) (ty:=47) rfl _ _ w.heap.size 47 _ (0,0) _ rfl (setRow_heap _ _ _ _ _ _ (unhide HN)) Tryz.underlying47 rfl (by rw [unhide HSZ];exact infoT)) rfl ?_
 have hb:Below w.heap.size w ((w.alloc (.cells zcTb 47)).setRow w.heap.size cs):=((Fr.ofBelow (unhide HB0)).row (Or.inr (Nat.le_refl _)) cs).below (fun x hx=>by cases hx)
 refine ⟨hb,_,_,by rw [←unhide HCS],(unhide HW).below (hb.mono (unhide HBB))⟩
end
end Mc
end Go.Proofs.YtobfpgoepaeknaaGreat
