/-
  The document's answer: the number of a state.
  The document's answer: the states one after the other: what is kept on the way.
  The document's answer: the states one after the other: the walk.
  The document's answer: the tree and the terms of a pattern; rows of rows of numbers; do two kinds of bytes lead alike?
-/
import Derived.Test.YtobfpgoepaeknaaGreatPO34
import Derived.Test.YtobfpgoepaeknaaGreatPO19
namespace Go.Proofs.YtobfpgoepaeknaaGreat
namespace Mc
open Go.RowKit
attribute [local go_sem ↓] Go.wp_at_zero Go.wp_at_succ
theorem infoStG:(Tryz.prog.info? 9).map (fun i=>(i.zero,i.size,i.bytes))=some (some (.string ⟨#[]⟩),1,16):=by kernel_rfl
theorem infoSsG:(Tryz.prog.info? 60).map (fun i=>(i.zero,i.size,i.bytes))=some (some (.slice none 0 0),1,24):=by kernel_rfl
theorem appSt {ops:Array Oper} {rest:List Oper} {o:Oper} {a:Act} {W:World} {Q:Exit→Act→World→Prop} (hgd:o.guard=none) (s x:Operand)
  (ho:o.op=.call { callee:=.builtin .append,args:=#[s,x],argTypes:=#[60,60] }) (B:Nat) (v:Value) (xs:List ByteArray) (hs:a.eval s=v) (hown:SRow W B v xs) (g0:Nat) (y:ByteArray)
  (hx:a.eval x=.slice (some ⟨g0,0,none⟩) 1 1) (hc:W.cell? ⟨g0,0,none⟩=some (.string y)) (hlen:xs.length≤3000000) (hB:B≤W.heap.size) (H:Nat) (hH:W.heap.size=H)
  (h:∀ g cap w',w'.ownsRow B 9 1 (.slice (some ⟨g,0,none⟩) (xs.length+1) cap) (xs.length+1) (strCells xs++[.string y])→W.grownBy w' v.ownBlock→(v.ownBlock=some g∨g=H)→g < w'.heap.size→wpList Tryz.prog ops Q rest (a.put o.dst (.slice (some ⟨g,0,none⟩) (xs.length+1) cap)) w'):wpList Tryz.prog ops Q (o ::rest) a W:=by
 obtain ⟨i,i0,i1,i2,i3⟩:=info_of infoStG
 exact wpList_append_lies W hgd s x 60 ho B 9 i (.string ⟨#[]⟩) 1 16 Tryz.underlying60 i0 i1 i2 i3 rfl (by decide) v xs.length (strCells xs) hs hown ⟨g0,0,none⟩ 1 1 [.string y] hx rfl (one_cells hc) (by intro u hu;simp at hu;subst hu;rfl) (by decide) (by unfold maxLen;omega) (by omega) hB H hH h
theorem appSl {ops:Array Oper} {rest:List Oper} {o:Oper} {a:Act} {W:World} {Q:Exit→Act→World→Prop} (hgd:o.guard=none) (s x:Operand)
  (ho:o.op=.call { callee:=.builtin .append,args:=#[s,x],argTypes:=#[59,59] }) (B:Nat) (v:Value) (n:Nat) (us:List Value) (hs:a.eval s=v) (hown:W.ownsRow B 60 1 v n us) (g0:Nat) (y:Value) (hy:y.oneCell'=true)
  (hx:a.eval x=.slice (some ⟨g0,0,none⟩) 1 1) (hc:W.cell? ⟨g0,0,none⟩=some y) (hlen:n≤1000) (hB:B≤W.heap.size) (H:Nat) (hH:W.heap.size=H)
  (h:∀ g cap w',w'.ownsRow B 60 1 (.slice (some ⟨g,0,none⟩) (n+1) cap) (n+1) (us++[y])→W.grownBy w' v.ownBlock→(v.ownBlock=some g∨g=H)→g < w'.heap.size→wpList Tryz.prog ops Q rest (a.put o.dst (.slice (some ⟨g,0,none⟩) (n+1) cap)) w'):wpList Tryz.prog ops Q (o ::rest) a W:=by
 obtain ⟨i,i0,i1,i2,i3⟩:=info_of infoSsG
 exact wpList_append_lies W hgd s x 59 ho B 60 i (.slice none 0 0) 1 24 Tryz.underlying59 i0 i1 i2 i3 rfl (by decide) v n us hs hown ⟨g0,0,none⟩ 1 1 [y] hx rfl (one_cells hc) (by intro u hu;simp at hu;subst hu;exact hy) (by decide) (by unfold maxLen;omega) (by omega) hB H hH h
structure KpN (w w':World):Prop where
 size:w.heap.size≤w'.heap.size
 keep:∀ (q:Nat) (cs:Array Value) (ty:TypeId) (fr:Nat × Nat),w.heap[q]?=some (.cells cs ty fr)→(ty=3∨ty=37)→w'.heap[q]?=some (.cells cs ty fr)
section
variable {w w1 w2 : World}
theorem KpN.refl (w:World):KpN w w:=⟨Nat.le_refl _,fun _ _ _ _ h _=>h⟩
theorem KpN.trans (h:KpN w w1) (k:KpN w1 w2):KpN w w2:=⟨Nat.le_trans h.size k.size,fun q cs ty fr g e=>k.keep q cs ty fr (h.keep q cs ty fr g e) e⟩
theorem KpN.fy {b:Nat} {rs:List Rn} (k:Fy b w w1) (hb:RtS w b rs):KpN w w1:=⟨k.below.size,fun q cs ty fr g e=>k.at hb g (by rcases e with e | e<;>(rw [e];decide)) (by rcases e with e | e<;>(rw [e];decide))⟩
theorem KpN.fr {S:List Nat} (f:Fr S w w1) (hS:∀ q∈S,∀ cs ty fr,w.heap[q]?=some (.cells cs ty fr)→ty≠3∧ty≠37):KpN w w1:=⟨f.size,fun q cs ty fr g e=>f.at g (fun hm=>by
 have:=hS q hm cs ty fr g
 rcases e with e | e
 ·exact this.1 e
 ·exact this.2 e)⟩
theorem KpN.own (h:KpN w w1) {B e z n:Nat} {v:Value} {xs:List Value} (ho:w.ownsRow B e z v n xs) (he:e=3∨e=37):w1.ownsRow B e z v n xs:=by
 refine ⟨ho.1,?_⟩
 rcases ho.2 with hl | ⟨g,cap,cur,rfl,q1,hg,rest⟩
 ·exact .inl hl
 ·exact .inr ⟨g,cap,cur,rfl,q1,h.keep _ _ _ _ hg he,rest⟩
theorem KpN.nr (h:KpN w w1) {B:Nat} {v:Value} {xs:List Nat} (ho:NR w B v xs):NR w1 B v xs:=h.own ho (.inl rfl)
theorem noInt_own {B e z n:Nat} {v:Value} {xs:List Value} (h:w.ownsRow B e z v n xs) (h1:e≠3) (h2:e≠37):∀ q∈v.ownBlock.toList,∀ cs ty fr,w.heap[q]?=some (.cells cs ty fr)→ty≠3∧ty≠37:=fun q hq cs ty fr hc=>by
 obtain ⟨cs',hc'⟩:=own_tyT h (Option.mem_toList.1 hq)
 rw [hc] at hc'
 simp at hc'
 rw [hc'.2.1]
 exact ⟨h1,h2⟩
theorem noInt_one {g:Nat} {cs:Array Value} {t:TypeId} (h:w.heap[g]?=some (.cells cs t (0,0))) (h1:t≠3) (h2:t≠37):∀ q∈[g],∀ cs ty fr,w.heap[q]?=some (.cells cs ty fr)→ty≠3∧ty≠37:=fun q hq cs' ty fr hc=>by
 rw [List.mem_singleton.1 hq,h] at hc
 simp at hc
 rw [←hc.2.1]
 exact ⟨h1,h2⟩
end
structure StI (rs0:List Rn) (U:List (List Nm)) (b gf:Nat) (w:World) (rs:List Rn) (W:World) (bv:Value) (sa:Option Addr) (sc:Nat) (St:List (List ByteArray)) (us:List Value) (tn:Nat) (rs1:List Rn) (u:Value) (X:List ByteArray) (wr:World) (ta:Option Addr) (tc:Nat) (T:List ByteArray) (rs2:List Rn) (i:Nat):Prop where
 fn:FnI rs0 U b gf w rs wr bv sa sc St us ta tc T rs2
 ex:∃ x,rs2=rs1++x
 g1:GrowT rs0 rs1
 kp:KpN W wr
 ur:SRow wr 0 u X
 un:∀ q,u.ownBlock=some q→(Value.slice ta T.length tc).ownBlock≠some q
 vs:VSet rs0 rs1 U X
 v1:∀ Y∈St,VSet rs0 rs1 U Y
 tl:T.length≤tn+i
 no:∀ k,k < i→∀ Y,St[k]?=some Y→∃ s,Tells s (stB rs1 Y) (stB rs1 X)
section
variable {rs0 : List Rn} {U : List (List Nm)} {b gf : Nat} {w : World} {rs : List Rn} {W wr w2 : World} {bv : Value} {sa : Option Addr} {sc : Nat} {St : List (List ByteArray)} {us : List Value} {tn : Nat} {u : Value} {X : List ByteArray} {ta : Option Addr} {tc : Nat} {T : List ByteArray} {rs1 rs2 rs3 : List Rn} {i : Nat}
theorem StI.next (h:StI rs0 U b gf w rs W bv sa sc St us tn rs1 u X wr ta tc T rs2 i) (k:TrK rs0 b wr rs2 w2 rs3):StI rs0 U b gf w rs W bv sa sc St us tn rs1 u X w2 ta tc T rs3 i :=
 ⟨h.fn.next k,grow_trans h.ex k.ex,h.g1,h.kp.trans (KpN.fy k.fy h.fn.rt),h.ur.fy k.fy h.fn.rt,h.un,h.vs,h.v1,h.tl,h.no⟩
theorem StI.below (h:StI rs0 U b gf w rs W bv sa sc St us tn rs1 u X wr ta tc T rs2 i) (k:Below wr.heap.size wr w2):StI rs0 U b gf w rs W bv sa sc St us tn rs1 u X w2 ta tc T rs2 i:=h.next ((TrK.refl h.fn.rt h.fn.gr).below k)
theorem StI.vX (h:StI rs0 U b gf w rs W bv sa sc St us tn rs1 u X wr ta tc T rs2 i):VSet rs0 rs2 U X∧stB rs2 X=stB rs1 X:=by
 obtain ⟨x,hx⟩:=h.ex
 rw [hx]
 exact ⟨h.vs.grow x,stB_app h.g1 h.vs x⟩
theorem StI.vY (h:StI rs0 U b gf w rs W bv sa sc St us tn rs1 u X wr ta tc T rs2 i) {Y:List ByteArray} (hY:Y∈St):VSet rs0 rs2 U Y∧stB rs2 Y=stB rs1 Y:=by
 obtain ⟨x,hx⟩:=h.ex
 rw [hx]
 exact ⟨(h.v1 Y hY).grow x,stB_app h.g1 (h.v1 Y hY) x⟩
theorem StI.inc (h:StI rs0 U b gf w rs W bv sa sc St us tn rs1 u X wr ta tc T rs2 i) {Y:List ByteArray} (hY:St[i]?=some Y) (ht:∃ s,Tells s (stB rs1 Y) (stB rs1 X)):StI rs0 U b gf w rs W bv sa sc St us tn rs1 u X wr ta tc T rs2 (i+1) :=
 ⟨h.fn,h.ex,h.g1,h.kp,h.ur,h.un,h.vs,h.v1,by have:=h.tl;omega,fun k hk Y' hY'=>by
  by_cases e:k=i
  ·subst e;rw [hY] at hY';cases hY';exact ht
  ·exact h.no k (by omega) Y' hY'⟩
theorem StI.pushT (h:StI rs0 U b gf w rs W bv sa sc St us tn rs1 u X wr ta tc T rs2 i) {Y:List ByteArray} (hY:St[i]?=some Y) {g cap:Nat} {s:ByteArray} (ht:Tells s (stB rs1 Y) (stB rs1 X)) (hz:s.size≤67108864∧bytesOk (bytesN s)) (hgrow:wr.grownBy w2 (.slice ta T.length tc:Value).ownBlock) (ho:w2.ownsRow w.heap.size 9 1 (.slice (some ⟨g,0,none⟩) (T.length+1) cap) (T.length+1) (strCells T++[.string s])) (hl:(Value.slice ta T.length tc).ownBlock=some g∨g=wr.heap.size) :
  w2.cell? ⟨gf,3,none⟩=some (.slice ta T.length tc)∧w2.frozen? ⟨gf,3,none⟩=false∧gf < w2.heap.size∧StI rs0 U b gf w rs W bv sa sc St us tn rs1 u X (w2.setCell ⟨gf,3,none⟩ (.slice (some ⟨g,0,none⟩) (T.length+1) cap)) (some ⟨g,0,none⟩) cap (T++[s]) rs2 (i+1):=by
 obtain ⟨p1,p2,p3,p4⟩:=h.fn.pushT hz hgrow ho hl
 have hlen:(T++[s]).length=T.length+1:=by simp
 have e2:=own_off h.fn.tr h.fn.im (by decide)
 have g2:w2.heap[gf]?=_:=(Fr.ofGrown hgrow).at h.fn.im (fun hm=>e2 _ (Option.mem_toList.1 hm) rfl)
 have hu2:SRow w2 0 u X:=(Fr.ofGrown hgrow).own h.ur (fun q hq hm=>h.un q hq (Option.mem_toList.1 hm))
 refine ⟨p1,p2,p3,p4,h.ex,h.g1,(h.kp.trans (KpN.fr (Fr.ofGrown hgrow) (noInt_own h.fn.tr (by decide) (by decide)))).trans (KpN.fr (Fr.ofSet _ _ _ _) (noInt_one g2 (by decide) (by decide))),?_,?_,h.vs,h.v1,by rw [hlen];have:=h.tl;omega,fun k hk Y' hY'=>?_⟩
 ·exact (Fr.ofSet _ _ _ _).own hu2 (fun q hq=>by simpa using own_off hu2 g2 (by decide) q hq)
 ·intro q hq hq'
  have e:g=q:=by simpa [Value.ownBlock] using hq'
  subst e
  rcases hl with hl | hl
  ·exact h.un g hq hl
  ·have:=(World.ownsRow.lt h.ur g hq).2
   omega
 ·by_cases e:k=i
  ·subst e;rw [hY] at hY';cases hY';exact ⟨s,ht⟩
  ·exact h.no k (by omega) Y' hY'
end
theorem apart_u {rs0:List Rn} {U:List (List Nm)} (hT:TrC rs0 U) {b:Nat} (w:World) (rs:List Rn) (hb:RtS w b rs) (hg:GrowT rs0 rs) (B1 B2:Nat) (u v:Value) (A B:List ByteArray) (hu:SRow w B1 u A) (hv:SRow w B2 v B) (hA:VSet rs0 rs U A) (hB:VSet rs0 rs U B) (B3:Nat) (hv3:Value) (hbs:List Nat) (hn:NR w B3 hv3 hbs) (hb256:∀ x∈hbs,x < 256) (hbl:hbs.length≤256) :
  Calls Tryz.prog 83 #[.pointer (some ⟨b,0,none⟩),u,v,hv3] w fun e w'=>∃ (s:ByteArray) (o:Bool) (rs':List Rn),e=.returned (.tuple #[.string s,.bool o])∧TrK rs0 b w rs w' rs'∧(o=true→(s.size≤67108864∧bytesOk (bytesN s))∧Tells s (stB rs A) (stB rs B))∧(o=false→∀ x,(∀ c∈x,c∈hbs)→(stB rs A x↔stB rs B x)) :=
 (apart_any hT w rs hb hg B1 B2 u v A B hu hv hA hB B3 hv3 hbs hn hb256 hbl).mono fun e w' h=>by
  obtain ⟨rs',hk,⟨s,h1,h2,h3,h4⟩ | ⟨h1,h2⟩⟩:=h
  ·exact ⟨s,true,rs',h1,hk,fun _=>⟨⟨h2,h3⟩,h4⟩,(fun e=>by cases e)⟩
  ·exact ⟨_,false,rs',h1,hk,(fun e=>by cases e),fun _=>h2⟩
def StA (rs0:List Rn) (U:List (List Nm)) (b gf:Nat) (w:World) (rs:List Rn) (W:World) (bv:Value) (St:List (List ByteArray)) (us:List Value) (tn:Nat) (rs1:List Rn) (u:Value) (X:List ByteArray) (hbs:List Nat) (e:Ending) (w':World):Prop :=
 ∃ (k:Nat) (sa:Option Addr) (sc:Nat) (St':List (List ByteArray)) (us':List Value) (ta:Option Addr) (tc:Nat) (T:List ByteArray) (rs2:List Rn),e=.returned (.int .i64 (k:Int))∧FnI rs0 U b gf w rs w' bv sa sc St' us' ta tc T rs2∧(∃ x,rs2=rs1++x)∧KpN W w'∧T.length≤tn+St.length ∧
  ((St'=St∧us'=us∧∃ Y,St[k]?=some Y∧∀ x,(∀ c∈x,c∈hbs)→(stB rs1 Y x↔stB rs1 X x))∨(St'=St++[X]∧us'=us++[u]∧k=St.length∧∀ Y∈St,∃ s,Tells s (stB rs1 Y) (stB rs1 X)))
set_option maxRecDepth 20000 in
set_option maxHeartbeats 4000000 in
theorem state_any {rs0:List Rn} {U:List (List Nm)} (hT:TrC rs0 U) {b gf:Nat} (w:World) (rs:List Rn) (W:World) (bv:Value) (sa:Option Addr) (sc:Nat) (St:List (List ByteArray)) (us:List Value) (ta:Option Addr) (tc:Nat) (T:List ByteArray) (rs1:List Rn) (hI:FnI rs0 U b gf w rs W bv sa sc St us ta tc T rs1) (u:Value) (X:List ByteArray) (hu:SRow W 0 u X) (hun:∀ q,u.ownBlock=some q→(Value.slice ta T.length tc).ownBlock≠some q) (hX:VSet rs0 rs1 U X) (B3:Nat) (hbs:List Nat) (hn:NR W B3 bv hbs) (hb256:∀ x∈hbs,x < 256) (hbl:hbs.length≤256) (hSl:St.length≤100) (hTl:T.length≤900000) :
  Calls Tryz.prog 45 #[.pointer (some ⟨gf,0,none⟩),u] W fun e w'=>StA rs0 U b gf w rs W bv St us T.length rs1 u X hbs e w':=by
 obtain ⟨ua,uc,rfl⟩:=hu.form
 obtain ⟨ba,bc,rfl⟩:=hn.form
 have hSI:(St.length:Int)≤100:=by omega
 have HT:=hide hT
 have HN:=hide hn
 have H256:=hide hb256
 have HBL:=hide hbl
 have HSL:=hide hSl
 have HTLN:=hide hTl
 have HI0:Hid (StI rs0 U b gf w rs W (.slice ba hbs.length bc) sa sc St us T.length rs1 (.slice ua X.length uc) X W ta tc T rs1 0):=⟨hI,⟨[],by simp⟩,hI.gr,KpN.refl _,hu,hun,hX,hI.sets,by omega,fun k hk=>absurd hk (Nat.not_lt_zero _)⟩
 have HXL:Hid (X.length≤13):=by have h1:=hX.len hI.gr;have h2:=hT.l13;show _≤_;omega
 clear hT hI hu hun hX hn hb256 hbl hSl hTl
 go_enter Tryz.func45,Tryz.ntmps45
 go_wp2_with fail
 go_loopw [5] (fun ix wr=>∃ i:Nat,ix=.int .i64 (i:Int)∧Hid (i≤St.length∧StI rs0 U b gf w rs W (.slice ba hbs.length bc) sa sc St us T.length rs1 (.slice ua X.length uc) X wr ta tc T rs1 0)) (fun ix _=>St.length - (intOf ix).toNat)
 case atStart=>exact ⟨0,rfl,Nat.zero_le _,unhide HI0⟩
 case round =>
  clear HI0
  rename World=>wr
  obtain ⟨i,rfl,HH⟩:=hrel
  obtain ⟨hi,hI⟩:=unhide HH
  clear HH
  have f2:=hI.fn.c2
  have hgf:=hI.fn.lt
  by_cases hlt:i < St.length
  ·have hiI:(i:Int) < (St.length:Int):=by omega
   have hi0:(0:Int)≤(i:Int):=by omega
   have hi1:((i:Int)).toNat=i:=by omega
   obtain ⟨Y,hY⟩:∃ Y,St[i]?=some Y:=⟨_,List.getElem?_eq_getElem hlt⟩
   obtain ⟨g,y,rfl,hgl,hcy,hry⟩:=hI.fn.at hY
   have hyl:Y.length≤13:=by have h1:=(hI.v1 Y (List.mem_of_getElem? hY)).len hI.g1;have h2:=(unhide HT).l13;omega
   have HSM:=hide (sameTerms_any wr 0 0 _ _ Y X hry hI.ur (by omega) (by have:=unhide HXL;omega))
   obtain ⟨ya,yc,rfl⟩:=hry.form
   have HI:=hide hI
   have HY:=hide hY
   have HLT:=hide hlt
   clear hi hI hlt hY hry hyl
   go_wp2_with fail
   refine (unhide HSM).mono ?_
   rintro e w2 ⟨⟨y,rfl,hy⟩,hb2⟩
   have HY2:=hide hy
   have HI2:=hide ((unhide HI).below hb2)
   clear hy hb2 HSM HI f2 hgf hcy hgl
   cases y
   ·go_wp2_with fail
    go_roundw
    case rel=>exact ⟨i+1,by go_num,unhide HLT,unhide HI2⟩
    case measure=>have:=unhide HLT;simp [intOf];omega
   ·have HEQ:Hid (Y=X):=(unhide HY2).1 rfl
    clear HY2
    go_wp2_with fail
    go_ret
    exact ⟨i,_,_,St,us,_,_,T,rs1,rfl,(unhide HI2).fn,⟨[],by simp⟩,(unhide HI2).kp,Nat.le_add_right _ _,.inl ⟨rfl,rfl,Y,unhide HY,fun x _=>by rw [unhide HEQ]⟩⟩
  ·have hi2:i=St.length:=by omega
   subst hi2
   have hiI:¬(St.length:Int) < (St.length:Int):=by omega
   have HI:=hide hI
   clear hlt hi hI
   go_wp2_with fail
   clear f2 hgf hiI
   go_loopw [7] (fun ix wr=>∃ (i:Nat) (ta:Option Addr) (tc:Nat) (T':List ByteArray) (rs2:List Rn),ix=.int .i64 (i:Int)∧Hid (i≤St.length∧StI rs0 U b gf w rs W (.slice ba hbs.length bc) sa sc St us T.length rs1 (.slice ua X.length uc) X wr ta tc T' rs2 i)) (fun ix _=>St.length - (intOf ix).toNat)
   case atStart=>exact ⟨0,ta,tc,T,rs1,rfl,Nat.zero_le _,unhide HI⟩
   case round =>
    clear HI
    rename World=>wq
    obtain ⟨j,tb,td,T',rs2,rfl,HH⟩:=hrel
    obtain ⟨hj,hI⟩:=unhide HH
    clear HH
    have f2:=hI.fn.c2
    have hgf:=hI.fn.lt
    by_cases hlt:j < St.length
    ·have hiI:(j:Int) < (St.length:Int):=by omega
     have hi0:(0:Int)≤(j:Int):=by omega
     have hi1:((j:Int)).toNat=j:=by omega
     obtain ⟨Y,hY⟩:∃ Y,St[j]?=some Y:=⟨_,List.getElem?_eq_getElem hlt⟩
     obtain ⟨g,y,rfl,hgl,hcy,hry⟩:=hI.fn.at hY
     have hvY:=hI.vY (List.mem_of_getElem? hY)
     have HTE:=hide (tested_any (unhide HT) wq rs2 hI.fn.rt hI.fn.gr gf _ _ tb td T' hI.fn.im w.heap.size hI.fn.tr (fun s hs=>(hI.fn.tz s hs).1) (by have:=hI.tl;have:=unhide HTLN;have:=unhide HSL;omega) 0 0 _ _ Y X hry hI.ur hvY.1 hI.vX.1)
     have HEY:Hid (stB rs2 Y=stB rs1 Y):=hvY.2
     have HEX:Hid (stB rs2 X=stB rs1 X):=hI.vX.2
     obtain ⟨ya,yc,rfl⟩:=hry.form
     have HI:=hide hI
     have HY:=hide hY
     have HLT:=hide hlt
     clear hj hI hlt hY hry hvY
     go_wp2_with fail
     refine (unhide HTE).mono ?_
     rintro e w2 ⟨y,rs3,rfl,hk,hy⟩
     have HYT:=hide hy
     have HI2:=hide ((unhide HI).next hk)
     clear hy hk HTE HI f2 hgf hcy hgl
     cases y
     ·have hI2:=unhide HI2
      have e0:=hI2.fn.c0
      have e1:=hI2.fn.c1
      have e2:=hI2.fn.c2
      have hgf2:=hI2.fn.lt
      obtain ⟨g',y',he,hgl2,hcy2,hry2⟩:=hI2.fn.at (unhide HY)
      simp only [Option.some.injEq,Addr.mk.injEq,and_true] at he
      subst he
      obtain ⟨za,zc,rfl⟩:=hry2.form
      have hvY2:=hI2.vY (List.mem_of_getElem? (unhide HY))
      have HAP:=hide (fun n=>apart_u (unhide HT) (w2.drewN n) rs3 (RtS_below hI2.fn.rt (below_drewN (Below.refl _ _) n)) hI2.fn.gr 0 0 (.slice za Y.length zc) (.slice ua X.length uc) Y X (show SRow w2 0 (.slice za Y.length zc) Y from hry2) (show SRow w2 0 (.slice ua X.length uc) X from hI2.ur) hvY2.1 hI2.vX.1 B3 (.slice ba hbs.length bc) hbs (show NR w2 B3 (.slice ba hbs.length bc) hbs from hI2.kp.nr (unhide HN)) (unhide H256) (unhide HBL))
      have HEY2:Hid (stB rs3 Y=stB rs1 Y):=hvY2.2
      have HEX2:Hid (stB rs3 X=stB rs1 X):=hI2.vX.2
      clear HYT hI2 hry2 hvY2 HEY HEX
      go_upto_region 12 with fail
      go_cut [9,10] from 31 to 83 (fun sx ox wx=>∃ (s:ByteArray) (o:Bool) (rs4:List Rn),sx=.string s∧ox=.bool o∧Hid (TrK rs0 b w2 rs3 wx rs4∧(o=true→(s.size≤67108864∧bytesOk (bytesN s))∧Tells s (stB rs3 Y) (stB rs3 X))∧(o=false→∀ x,(∀ c∈x,c∈hbs)→(stB rs3 Y x↔stB rs3 X x))))
      case first =>
       go_region_with (go_at_call 83;refine (unhide HAP _).mono ?_;rintro e w3 ⟨s,o,rs4,rfl,hk,ho⟩;have HK3:=hide (And.intro (trk_base hk) ho);clear hk ho)
       all_goals
        go_wp2_with fail
        go_meet
        exact ⟨s,o,rs4,rfl,rfl,unhide HK3⟩
      case rest =>
       clear HAP e0 e1 e2 hgf2 hcy2 hgl2
       rename World=>w3
       obtain ⟨s,o,rs4,rfl,rfl,HC⟩:=hcut
       obtain ⟨hk,ho1,ho2⟩:=unhide HC
       have hI3:=(unhide HI2).next hk
       clear HI2 HC
       cases o
       ·have HSAME:Hid (∀ x,(∀ c∈x,c∈hbs)→(stB rs1 Y x↔stB rs1 X x)):=fun x hx=>by
         have:=ho2 rfl x hx
         rw [unhide HEY2,unhide HEX2] at this
         exact this
        have HI3:=hide hI3
        clear hk ho1 ho2 hI3
        go_wp2_with fail
        go_ret
        exact ⟨j,_,_,St,us,tb,td,T',rs4,rfl,(unhide HI3).fn,(unhide HI3).ex,(unhide HI3).kp,by have h1:=(unhide HI3).tl;have h2:=unhide HLT;omega,.inl ⟨rfl,rfl,Y,unhide HY,unhide HSAME⟩⟩
       ·have HTS:Hid (Tells s (stB rs1 Y) (stB rs1 X)):=by
         have:=(ho1 rfl).2
         rw [unhide HEY2,unhide HEX2] at this
         exact this
        have HSZ:=hide (ho1 rfl).1
        have HI3:=hide hI3
        have hXA:StI rs0 U b gf w rs W (.slice ba hbs.length bc) (some ⟨g,0,none⟩) sc St us T.length rs1 (.slice ua X.length uc) X (w3.alloc (Obj.cells #[.string s] 9)) tb td T' rs4 j:=hI3.below ((Below.refl _ _).alloc (Nat.le_refl _) _)
        have HXA:=hide hXA
        have e3:=hI3.fn.c3
        have hgf3:=hI3.fn.lt
        have HWS:Hid (w.heap.size≤w3.heap.size):=hI3.fn.fv.size
        have HTL2:Hid (T'.length≤3000000):=by have h1:=hI3.tl;have h2:=unhide HTLN;have h3:=unhide HSL;have h4:=unhide HLT;show _≤_;omega
        clear hk ho1 ho2 hI3 hXA
        go_wp2_with (at_builtin;refine appSt rfl (.tmp 78) (.tmp 80) rfl w.heap.size _ T' rfl (unhide HXA).fn.tr w3.heap.size _ rfl (new_cell rfl) (unhide HTL2) (by have:=unhide HWS;simp;omega) (w3.heap.size+1) (by simp) ?_;intro g5 cap5 w8 ho hgrow hlies hlt5;obtain ⟨y1,z1,hg8,hP⟩:=(unhide HXA).pushT (unhide HY) (unhide HTS) (unhide HSZ) hgrow ho (hlies.elim Or.inl (fun e=>Or.inr (by rw [e];simp)));have HP9:=hide hP;clear ho hgrow hlies hP)
        go_roundw
        case rel=>exact ⟨j+1,some ⟨g5,0,none⟩,cap5,T'++[s],rs4,by go_num,unhide HLT,unhide HP9⟩
        case measure=>have:=unhide HLT;simp [intOf];omega
     ·have HI3:=hide ((unhide HI2).inc (unhide HY) (by
       obtain ⟨s,-,hs⟩:=unhide HYT rfl
       rw [unhide HEY,unhide HEX] at hs
       exact ⟨s,hs⟩))
      clear HYT
      go_wp2_with fail
      go_roundw
      case rel=>exact ⟨j+1,tb,td,T',rs3,by go_num,unhide HLT,unhide HI3⟩
      case measure=>have:=unhide HLT;simp [intOf];omega
    ·have hj2:j=St.length:=by omega
     subst hj2
     have hjI:¬(St.length:Int) < (St.length:Int):=by omega
     have HNO:Hid (∀ Y∈St,∃ s,Tells s (stB rs1 Y) (stB rs1 X)):=fun Y hY=>by
      obtain ⟨k,hk⟩:=List.getElem?_of_mem hY
      exact hI.no k (get_lt hk) Y hk
     have hXA:StI rs0 U b gf w rs W (.slice ba hbs.length bc) sa sc St us T.length rs1 (.slice ua X.length uc) X (wq.alloc (Obj.cells #[.slice ua X.length uc] 60)) tb td T' rs2 St.length:=hI.below ((Below.refl _ _).alloc (Nat.le_refl _) _)
     have HXA:=hide hXA
     have HI:=hide hI
     have HWS:Hid (w.heap.size≤wq.heap.size):=hI.fn.fv.size
     have HEQ:Hid (((St++[X]).length:Int) - 1=(St.length:Int)):=by show _=_;rw [List.length_append];simp
     have HKG:Hid (∀ w8 x,(wq.alloc (Obj.cells #[.slice ua X.length uc] 60)).grownBy w8 (.slice sa St.length sc:Value).ownBlock→KpN W (w8.setCell ⟨gf,2,none⟩ x)):=fun w8 x hgrow=>by
      have e2:=own_off hXA.fn.so hXA.fn.im (by decide)
      have g2:w8.heap[gf]?=_:=(Fr.ofGrown hgrow).at hXA.fn.im (fun hm=>e2 _ (Option.mem_toList.1 hm) rfl)
      exact (hXA.kp.trans (KpN.fr (Fr.ofGrown hgrow) (noInt_own hXA.fn.so (by decide) (by decide)))).trans (KpN.fr (Fr.ofSet _ _ _ _) (noInt_one g2 (by decide) (by decide)))
     clear hj hlt hI hXA
     go_wp2_with (at_builtin;refine appSl rfl (.tmp 88) (.tmp 90) rfl w.heap.size _ St.length us rfl (unhide HXA).fn.so wq.heap.size _ rfl rfl (new_cell rfl) (by have:=unhide HSL;omega) (by have:=unhide HWS;simp;omega) (wq.heap.size+1) (by simp) ?_;intro g5 cap5 w8 ho hgrow hlies hlt5;obtain ⟨y1,z1,hg8,hP⟩:=(unhide HXA).fn.pushS (unhide HXA).ur (unhide HXA).vX.1 (unhide HXA).un hgrow ho;have HP9:=hide hP;have HK9:=hide (unhide HKG w8 (.slice (some ⟨g5,0,none⟩) (St.length+1) cap5) hgrow);have s1:=hP.c2;clear ho hgrow hlies hP)
     rw [List.length_append] at s1
     go_ret
     exact ⟨St.length,_,_,_,_,tb,td,T',rs2,rfl,unhide HP9,(unhide HI).ex,unhide HK9,(unhide HI).tl,.inr ⟨rfl,rfl,rfl,unhide HNO⟩⟩
end Mc
end Go.Proofs.YtobfpgoepaeknaaGreat
namespace Go.Proofs.YtobfpgoepaeknaaGreat
namespace Mc
open Go.RowKit
theorem infoIIG:(Tryz.prog.info? 37).map (fun i=>(i.zero,i.size,i.bytes))=some (some (.slice none 0 0),1,24):=by kernel_rfl
theorem appNn {ops:Array Oper} {rest:List Oper} {o:Oper} {a:Act} {W:World} {Q:Exit→Act→World→Prop} (hgd:o.guard=none) (s x:Operand)
  (ho:o.op=.call { callee:=.builtin .append,args:=#[s,x],argTypes:=#[63,63] }) (B:Nat) (v:Value) (n:Nat) (us:List Value) (hs:a.eval s=v) (hown:W.ownsRow B 37 1 v n us) (g0:Nat) (y:Value) (hy:y.oneCell'=true)
  (hx:a.eval x=.slice (some ⟨g0,0,none⟩) 1 1) (hc:W.cell? ⟨g0,0,none⟩=some y) (hlen:n≤1000) (hB:B≤W.heap.size) (H:Nat) (hH:W.heap.size=H)
  (h:∀ g cap w',w'.ownsRow B 37 1 (.slice (some ⟨g,0,none⟩) (n+1) cap) (n+1) (us++[y])→W.grownBy w' v.ownBlock→(v.ownBlock=some g∨g=H)→g < w'.heap.size→wpList Tryz.prog ops Q rest (a.put o.dst (.slice (some ⟨g,0,none⟩) (n+1) cap)) w'):wpList Tryz.prog ops Q (o ::rest) a W:=by
 obtain ⟨i,i0,i1,i2,i3⟩:=info_of infoIIG
 exact wpList_append_lies W hgd s x 63 ho B 37 i (.slice none 0 0) 1 24 Tryz.underlying63 i0 i1 i2 i3 rfl (by decide) v n us hs hown ⟨g0,0,none⟩ 1 1 [y] hx rfl (one_cells hc) (by intro u hu;simp at hu;subst hu;exact hy) (by decide) (by unfold maxLen;omega) (by omega) hB H hH h
theorem appSlR {ops:Array Oper} {o:Oper} {a:Act} {W:World} {K:Act→World→Prop} {Q:Exit→Act→World→Prop} {E:Prop} (hgd:o.guard=none) (s x:Operand)
  (ho:o.op=.call { callee:=.builtin .append,args:=#[s,x],argTypes:=#[59,59] }) (B:Nat) (v:Value) (n:Nat) (us:List Value) (hs:a.eval s=v) (hown:W.ownsRow B 60 1 v n us) (g0:Nat) (y:Value) (hy:y.oneCell'=true)
  (hx:a.eval x=.slice (some ⟨g0,0,none⟩) 1 1) (hc:W.cell? ⟨g0,0,none⟩=some y) (hlen:n≤1000) (hB:B≤W.heap.size) (H:Nat) (hH:W.heap.size=H)
  (h:∀ g cap w',w'.ownsRow B 60 1 (.slice (some ⟨g,0,none⟩) (n+1) cap) (n+1) (us++[y])→W.grownBy w' v.ownBlock→(v.ownBlock=some g∨g=H)→g < w'.heap.size→K (a.put o.dst (.slice (some ⟨g,0,none⟩) (n+1) cap)) w') :
  if Region.wanted o (yielded ops a.tmps)=true then Oper.wp Tryz.prog o a W K Q else E:=by
 obtain ⟨i,i0,i1,i2,i3⟩:=info_of infoSsG
 exact step_append_lies W hgd s x 59 ho B 60 i (.slice none 0 0) 1 24 Tryz.underlying59 i0 i1 i2 i3 rfl (by decide) v n us hs hown ⟨g0,0,none⟩ 1 1 [y] hx rfl (one_cells hc) (by intro u hu;simp at hu;subst hu;exact hy) (by decide) (by unfold maxLen;omega) (by omega) hB H hH h
structure Rwt (w:World) (B:Nat) (us:List Value) (F:List (List Nat)):Prop where
 len:us.length=F.length
 row:∀ (k:Nat) u r,us[k]?=some u→F[k]?=some r→NR w B u r
section
variable {w w' : World} {B : Nat} {us : List Value} {F : List (List Nat)}
theorem Rwt.nil:Rwt w B [] []:=⟨rfl,fun k u r h=>by simp at h⟩
theorem Rwt.at (h:Rwt w B us F) {k:Nat} {r:List Nat} (hk:F[k]?=some r):∃ u,us[k]?=some u∧NR w B u r:=by
 have hl:=get_lt hk
 have hu:=List.getElem?_eq_getElem (show k < us.length by rw [h.len];exact hl)
 exact ⟨_,hu,h.row k _ r hu hk⟩
theorem Rwt.mem (h:Rwt w B us F) {u:Value} (hu:u∈us):∃ r,NR w B u r:=by
 obtain ⟨k,hk⟩:=List.getElem?_of_mem hu
 have hl:=get_lt hk
 have hr:=List.getElem?_eq_getElem (show k < F.length by rw [←h.len];exact hl)
 exact ⟨_,h.row k u _ hk hr⟩
theorem Rwt.keep (h:Rwt w B us F) {S:List Nat} (f:Fr S w w') (hs:∀ u∈us,∀ q,u.ownBlock=some q→q∉S):Rwt w' B us F:=⟨h.len,fun k u r hu hr=>f.own (h.row k u r hu hr) (hs u (List.mem_of_getElem? hu))⟩
theorem Rwt.kp (h:Rwt w B us F) (k:KpN w w'):Rwt w' B us F:=⟨h.len,fun i u r hu hr=>k.nr (h.row i u r hu hr)⟩
theorem Rwt.snoc (h:Rwt w B us F) {u:Value} {r:List Nat} (hu:NR w B u r):Rwt w B (us++[u]) (F++[r]):=by
 refine ⟨by simp [h.len],fun k u' r' hu' hr'=>?_⟩
 rcases get_snoc hu' with h1 | ⟨rfl,rfl⟩
 ·rcases get_snoc hr' with h2 | ⟨rfl,rfl⟩
  ·exact h.row k u' r' h1 h2
  ·have:=get_lt h1;have:=h.len;omega
 ·rcases get_snoc hr' with h2 | ⟨-,rfl⟩
  ·have:=get_lt h2;have:=h.len;omega
  ·exact hu
theorem SepS.nil (us:List Value):SepS (.slice none 0 0) us:=fun u _ q _ h=>by simp [Value.ownBlock] at h
theorem SepS.growN {v:Value} (h:Rwt w B us F) (hs:SepS v us) {g n cap:Nat} (hl:v.ownBlock=some g∨g=w.heap.size):SepS (.slice (some ⟨g,0,none⟩) n cap) us:=fun u hu q hq hq'=>by
 have e:g=q:=by simpa [Value.ownBlock] using hq'
 subst e
 rcases hl with hl | hl
 ·exact hs u hu g hq hl
 ·obtain ⟨r,hr⟩:=h.mem hu
  have:=(World.ownsRow.lt hr g hq).2
  omega
end
theorem KpN.below {w w1:World} (h:Below w.heap.size w w1):KpN w w1:=⟨h.size,fun q cs ty fr g _=>by rw [h.block q (Array.getElem?_eq_some_iff.1 g).1];exact g⟩
structure RwI (w wr:World) (bv:Value) (hbs:List Nat) (na:Option Addr) (nc:Nat) (Nx:List (List Nat)) (ns:List Value) (va:Option Addr) (vc:Nat) (row:List Nat):Prop where
 no:wr.ownsRow w.heap.size 37 1 (.slice na Nx.length nc) Nx.length ns
 nr:Rwt wr w.heap.size ns Nx
 rm:NR wr w.heap.size (.slice va row.length vc) row
 sp:SepS (.slice va row.length vc) ns
 bn:NR wr 0 bv hbs
 bl:∀ q,bv.ownBlock=some q→q < w.heap.size
section
variable {w wr w2 : World} {bv : Value} {hbs : List Nat} {na : Option Addr} {nc : Nat} {Nx : List (List Nat)} {ns : List Value} {va : Option Addr} {vc : Nat} {row : List Nat}
theorem RwI.start {B:Nat} (h:NR w B bv hbs) (hk:KpN w wr):RwI w wr bv hbs none 0 [] [] none 0 [] :=
 ⟨World.ownsRow_nil _ _ _ _,Rwt.nil,NR.nil _ _,SepS.nil _,(hk.nr h).less (Nat.zero_le _),fun q hq=>(World.ownsRow.lt h q hq).2⟩
theorem RwI.kp (h:RwI w wr bv hbs na nc Nx ns va vc row) (k:KpN wr w2):RwI w w2 bv hbs na nc Nx ns va vc row:=⟨k.own h.no (.inr rfl),h.nr.kp k,k.nr h.rm,h.sp,k.nr h.bn,h.bl⟩
theorem RwI.pushR (h:RwI w wr bv hbs na nc Nx ns va vc row) {g cap y:Nat} (hgrow:wr.grownBy w2 (.slice va row.length vc:Value).ownBlock) (ho:w2.ownsRow w.heap.size 3 1 (.slice (some ⟨g,0,none⟩) (row.length+1) cap) (row.length+1) (ncs row++[.int .i64 (y:Int)])) (hl:(Value.slice va row.length vc).ownBlock=some g∨g=wr.heap.size):RwI w w2 bv hbs na nc Nx ns (some ⟨g,0,none⟩) cap (row++[y]):=by
 have hlen:(row++[y]).length=row.length+1:=by simp
 refine ⟨(Fr.ofGrown hgrow).own h.no (fun q hq hm=>?_),h.nr.keep (Fr.ofGrown hgrow) (fun u hu q hq hm=>h.sp u hu q hq (Option.mem_toList.1 hm)),by rw [hlen];exact NR.of ho,by rw [hlen];exact SepS.growN h.nr h.sp hl,(Fr.ofGrown hgrow).own h.bn (fun q hq hm=>?_),h.bl⟩
 ·obtain ⟨cs,hc⟩:=own_tyT h.no hq
  obtain ⟨cs',hc'⟩:=own_tyT h.rm (Option.mem_toList.1 hm)
  rw [hc] at hc'
  simp at hc'
 ·have h1:=h.bl q hq
  have h2:=(World.ownsRow.lt h.rm q (Option.mem_toList.1 hm)).1
  omega
theorem RwI.pushN (h:RwI w wr bv hbs na nc Nx ns va vc row) {g cap:Nat} (hgrow:wr.grownBy w2 (.slice na Nx.length nc:Value).ownBlock) (ho:w2.ownsRow w.heap.size 37 1 (.slice (some ⟨g,0,none⟩) (Nx.length+1) cap) (Nx.length+1) (ns++[.slice va row.length vc])):RwI w w2 bv hbs (some ⟨g,0,none⟩) cap (Nx++[row]) (ns++[.slice va row.length vc]) none 0 []:=by
 have hlen:(Nx++[row]).length=Nx.length+1:=by simp
 have hno:∀ {B:Nat} {v:Value} {r:List Nat},NR wr B v r→∀ q,v.ownBlock=some q→q∉(Value.slice na Nx.length nc).ownBlock.toList:=fun {B v r} hv q hq hm=>by
  obtain ⟨cs,hc⟩:=own_tyT hv hq
  obtain ⟨cs',hc'⟩:=own_tyT h.no (Option.mem_toList.1 hm)
  rw [hc] at hc'
  simp at hc'
 exact ⟨by rw [hlen];exact ho,(h.nr.keep (Fr.ofGrown hgrow) (fun u hu q hq=>by
  obtain ⟨r,hr⟩:=h.nr.mem hu
  exact hno hr q hq)).snoc ((Fr.ofGrown hgrow).own h.rm (hno h.rm)),NR.nil _ _,SepS.nil _,(Fr.ofGrown hgrow).own h.bn (hno h.bn),h.bl⟩
end
section
variable {rs0 : List Rn} {U : List (List Nm)} {b gf : Nat} {w : World} {rs : List Rn} {wr w2 : World} {bv : Value} {sa : Option Addr} {sc : Nat} {St : List (List ByteArray)} {us : List Value} {ta : Option Addr} {tc : Nat} {T : List ByteArray} {rs1 rs2 : List Rn}
theorem FnI.grown (h:FnI rs0 U b gf w rs wr bv sa sc St us ta tc T rs1) {e z n:Nat} {v:Value} {xs:List Value} (ho:wr.ownsRow w.heap.size e z v n xs) (h1:e≠151) (h2:e≠102) (h3:e≠62) (h4:e≠60) (h5:e≠9) (hgrow:wr.grownBy w2 v.ownBlock):FnI rs0 U b gf w rs w2 bv sa sc St us ta tc T rs1:=by
 have hd:∀ {B e' z' n':Nat} {v':Value} {xs':List Value},wr.ownsRow B e' z' v' n' xs'→e≠e'→∀ q,v'.ownBlock=some q→q∉v.ownBlock.toList:=fun {B e' z' n' v' xs'} hv hne q hq hm=>by
  obtain ⟨cs,hc⟩:=own_tyT hv hq
  obtain ⟨cs',hc'⟩:=own_tyT ho (Option.mem_toList.1 hm)
  rw [hc] at hc'
  simp at hc'
  exact hne hc'.2.symm
 have f:=Fr.ofGrown hgrow
 exact ⟨h.fv.fr f (fun x hx=>.inr (ho.lt x (Option.mem_toList.1 hx)).1) h.hb h.ne,rts_fr h.rt f (noTree_own ho h1 h2),h.gr,h.ex,h.hb,h.hg,f.at h.im (fun hm=>own_off ho h.im h3 _ (Option.mem_toList.1 hm) rfl),f.own h.so (hd h.so h4),h.sr.keep f (fun u hu q hq=>by
  obtain ⟨X,hX⟩:=h.sr.mem hu
  exact hd hX h5 q hq),f.own h.tr (hd h.tr h5),h.sep,h.sets,h.tz⟩
end
theorem map_grow {rs0 rs1:List Rn} {U:List (List Nm)} (hg:GrowT rs0 rs1) {St:List (List ByteArray)} (hS:∀ X∈St,VSet rs0 rs1 U X) (x:List Rn):St.map (stB (rs1++x))=St.map (stB rs1):=List.map_congr_left fun X hX=>stB_app hg (hS X hX) x
section
variable {rsA : List Rn} {hbs : List Nat} {kd : Nat → Nat} {L : Lang} {st : List Lang} {e : Nat} {nx : List Nat} {A X : Lang} {k : Nat}
theorem found_X (h:FoundI hbs.length hbs L st e nx) (he:st[e / hbs.length]?=some A) (hX:X=derL (hbs.getD (e % hbs.length) 0) A) (hc:hbs.getD (e % hbs.length) 0 < 256):∃ u,bytesOk u∧EqB X (derS u L):=by
 obtain ⟨u,u1,u2⟩:=h.reach _ A he
 exact ⟨u++[hbs.getD (e % hbs.length) 0],bytesOk_snoc u1 hc,by rw [derS_snoc,hX];exact u2.der hc⟩
theorem found_old (hs:Sorted 256 (alkB rsA) hbs kd) (hL:SameA rsA L) (h:FoundI hbs.length hbs L st e nx) (hM:0 < hbs.length) (he:st[e / hbs.length]?=some A) (hX:X=derL (hbs.getD (e % hbs.length) 0) A) {Y:Lang} (hY:st[k]?=some Y) (hYX:∀ x,(∀ c∈x,c∈hbs)→(Y x↔X x)):FoundI hbs.length hbs L st (e+1) (nx++[k]):=by
 have hc:=(hs.head (e % hbs.length) (Nat.mod_lt _ hM)).1
 obtain ⟨u,-,u2⟩:=found_X h he hX hc
 obtain ⟨v,-,v2⟩:=h.reach k Y hY
 refine h.old hM he hY ?_
 rw [←hX]
 exact eqb_reps hs hL v2 u2 hYX
theorem found_new (hs:Sorted 256 (alkB rsA) hbs kd) (h:FoundI hbs.length hbs L st e nx) (hM:0 < hbs.length) (he:st[e / hbs.length]?=some A) (hX:X=derL (hbs.getD (e % hbs.length) 0) A) (hno:∀ Y∈st,∃ s,Tells s Y X):FoundI hbs.length hbs L (st++[X]) (e+1) (nx++[st.length]):=by
 have hc:=(hs.head (e % hbs.length) (Nat.mod_lt _ hM)).1
 refine h.new hM he (by rw [hX];exact EqB.refl _) hc (fun i C hC hE=>?_)
 obtain ⟨s,hs'⟩:=hno C (List.mem_of_getElem? hC)
 exact hs' (hE (bytesN s++[]) (by rw [List.append_nil];exact bytesOk_bytesN s))
end
theorem div_at {M n r:Nat} (hr:r < M):(n * M+r) / M=n∧(n * M+r) % M=r:=by
 constructor
 ·rw [Nat.mul_comm,Nat.mul_add_div (by omega),Nat.div_eq_of_lt hr,Nat.add_zero]
 ·rw [Nat.mul_comm,Nat.mul_add_mod,Nat.mod_eq_of_lt hr]
end Mc
end Go.Proofs.YtobfpgoepaeknaaGreat
namespace Go.Proofs.YtobfpgoepaeknaaGreat
namespace Mc
open Go.RowKit
attribute [local go_sem ↓] Go.wp_at_zero Go.wp_at_succ
structure SsI (rs0:List Rn) (U:List (List Nm)) (b gf:Nat) (w:World) (rs:List Rn) (L:Lang) (hbs:List Nat) (bv:Value) (wr:World) (sa:Option Addr) (sc:Nat) (St:List (List ByteArray)) (us:List Value) (ta:Option Addr) (tc:Nat) (T:List ByteArray) (rs1:List Rn) (na:Option Addr) (nc:Nat) (Nx:List (List Nat)) (ns:List Value) (va:Option Addr) (vc:Nat) (row:List Nat):Prop where
 fn:FnI rs0 U b gf w rs wr bv sa sc St us ta tc T rs1
 rx:RwI w wr bv hbs na nc Nx ns va vc row
 fd:FoundI hbs.length hbs L (St.map (stB rs1)) (Nx.length * hbs.length+row.length) (Nx.flatten++row)
 len:∀ r∈Nx,r.length=hbs.length
 few:St.length≤24
 tl:T.length≤24 * (Nx.length * hbs.length+row.length)
section
variable {rs0 : List Rn} {U : List (List Nm)} {b gf : Nat} {w : World} {rs : List Rn} {L : Lang} {hbs : List Nat} {bv : Value} {wr w2 : World} {sa : Option Addr} {sc : Nat} {St : List (List ByteArray)} {us : List Value} {ta : Option Addr} {tc : Nat} {T : List ByteArray} {rs1 rs2 : List Rn} {na : Option Addr} {nc : Nat} {Nx : List (List Nat)} {ns : List Value} {va : Option Addr} {vc : Nat} {row : List Nat}
theorem SsI.next (h:SsI rs0 U b gf w rs L hbs bv wr sa sc St us ta tc T rs1 na nc Nx ns va vc row) (k:TrK rs0 b wr rs1 w2 rs2):SsI rs0 U b gf w rs L hbs bv w2 sa sc St us ta tc T rs2 na nc Nx ns va vc row:=by
 refine ⟨h.fn.next k,h.rx.kp (KpN.fy k.fy h.fn.rt),?_,h.len,h.few,h.tl⟩
 obtain ⟨x,hx⟩:=k.ex
 rw [hx,map_grow h.fn.gr h.fn.sets x]
 exact h.fd
theorem SsI.below (h:SsI rs0 U b gf w rs L hbs bv wr sa sc St us ta tc T rs1 na nc Nx ns va vc row) (k:Below wr.heap.size wr w2):SsI rs0 U b gf w rs L hbs bv w2 sa sc St us ta tc T rs1 na nc Nx ns va vc row:=h.next ((TrK.refl h.fn.rt h.fn.gr).below k)
theorem SsI.nl (h:SsI rs0 U b gf w rs L hbs bv wr sa sc St us ta tc T rs1 na nc Nx ns va vc row) (hM:0 < hbs.length):Nx.length≤St.length:=by
 have h1:=h.fd.rows
 rw [List.length_map] at h1
 have:Nx.length≤(Nx.length * hbs.length+row.length) / hbs.length:=by
  rw [Nat.le_div_iff_mul_le hM];omega
 omega
theorem SsI.tn (h:SsI rs0 U b gf w rs L hbs bv wr sa sc St us ta tc T rs1 na nc Nx ns va vc row) (hM:0 < hbs.length) (hl:hbs.length≤256) (hr:row.length≤hbs.length):T.length≤900000:=by
 have h1:=h.nl hM
 have h2:=h.few
 have h3:=h.tl
 have h4:Nx.length * hbs.length≤24 * 256:=Nat.mul_le_mul (by omega) hl
 omega
theorem SsI.found {rsA:List Rn} {kd:Nat→Nat} (hs:Sorted 256 (alkB rsA) hbs kd) (hL:SameA rsA L) (h:SsI rs0 U b gf w rs L hbs bv wr sa sc St us ta tc T rs1 na nc Nx ns va vc row) (hr:row.length < hbs.length) {Y:List ByteArray} (hY:St[Nx.length]?=some Y) {u:Value} {X:List ByteArray} (hX:stB rs1 X=derL (hbs.getD row.length 0) (stB rs1 Y)) (hvX:VSet rs0 rs1 U X) {e:Ending} (hS:StA rs0 U b gf w rs wr bv St us T.length rs1 u X hbs e w2) :
  ∃ (k:Nat) (sa':Option Addr) (sc':Nat) (St':List (List ByteArray)) (us':List Value) (ta':Option Addr) (tc':Nat) (T':List ByteArray) (rs2:List Rn),e=.returned (.int .i64 (k:Int))∧FnI rs0 U b gf w rs w2 bv sa' sc' St' us' ta' tc' T' rs2∧RwI w w2 bv hbs na nc Nx ns va vc row∧FoundI hbs.length hbs L (St'.map (stB rs2)) (Nx.length * hbs.length+row.length+1) (Nx.flatten++row++[k])∧St'.length≤25∧Nx.length < St'.length∧T'.length≤24 * (Nx.length * hbs.length+row.length+1):=by
 obtain ⟨k,sa',sc',St',us',ta',tc',T',rs2,he,hfn,⟨x,hx⟩,hkp,htl,hc⟩:=hS
 have hM:0 < hbs.length:=by omega
 obtain ⟨d1,d2⟩:=div_at (n:=Nx.length) hr
 have hst:(St.map (stB rs1))[(Nx.length * hbs.length+row.length) / hbs.length]?=some (stB rs1 Y):=by rw [d1,List.getElem?_map,hY];rfl
 have hX':stB rs1 X=derL (hbs.getD ((Nx.length * hbs.length+row.length) % hbs.length) 0) (stB rs1 Y):=by rw [d2];exact hX
 have hTl:T'.length≤24 * (Nx.length * hbs.length+row.length+1):=by have:=h.tl;have:=h.few;omega
 have hnl:=get_lt hY
 have hfew:=h.few
 rcases hc with ⟨rfl,rfl,Y',hY',hsame⟩ | ⟨rfl,rfl,rfl,hno⟩
 ·refine ⟨k,sa',sc',St',us',ta',tc',T',rs2,he,hfn,h.rx.kp hkp,?_,by omega,hnl,hTl⟩
  rw [hx,map_grow h.fn.gr h.fn.sets x]
  exact found_old hs hL h.fd hM hst hX' (Y:=stB rs1 Y') (by rw [List.getElem?_map,hY'];rfl) hsame
 ·refine ⟨St.length,sa',sc',St++[X],us++[u],ta',tc',T',rs2,he,hfn,h.rx.kp hkp,?_,by simp;omega,by simp;omega,hTl⟩
  rw [hx,map_grow h.fn.gr (fun Z hZ=>by
   rcases List.mem_append.1 hZ with hZ | hZ
   ·exact h.fn.sets Z hZ
   ·rw [List.mem_singleton.1 hZ];exact hvX) x,List.map_append]
  have:=found_new hs h.fd hM hst hX' (fun Z hZ=>by
   obtain ⟨Z',hZ',rfl⟩:=List.mem_map.1 hZ
   exact hno Z' hZ')
  rw [List.length_map] at this
  exact this
theorem onj_base {v:Value} {Y:List ByteArray} {Ln:Lang} {n:Nat} (h:OnJ rs0 U b (wr.drewN n) rs1 w2 v Y rs2 Ln):OnJ rs0 U b wr rs1 w2 v Y rs2 Ln:=⟨on_base h.toOnI,h.new⟩
theorem SsI.pushR {k:Nat} (hfn:FnI rs0 U b gf w rs wr bv sa sc St us ta tc T rs1) (hrx:RwI w wr bv hbs na nc Nx ns va vc row) (hfd:FoundI hbs.length hbs L (St.map (stB rs1)) (Nx.length * hbs.length+row.length+1) (Nx.flatten++row++[k])) (hl:∀ r∈Nx,r.length=hbs.length) (hf:St.length≤24) (ht:T.length≤24 * (Nx.length * hbs.length+row.length+1)) {g cap:Nat} (hgrow:wr.grownBy w2 (.slice va row.length vc:Value).ownBlock) (ho:w2.ownsRow w.heap.size 3 1 (.slice (some ⟨g,0,none⟩) (row.length+1) cap) (row.length+1) (ncs row++[.int .i64 (k:Int)])) (hlies:(Value.slice va row.length vc).ownBlock=some g∨g=wr.heap.size) :
  SsI rs0 U b gf w rs L hbs bv w2 sa sc St us ta tc T rs1 na nc Nx ns (some ⟨g,0,none⟩) cap (row++[k]):=by
 have hlen:(row++[k]).length=row.length+1:=by simp
 refine ⟨hfn.grown hrx.rm (by decide) (by decide) (by decide) (by decide) (by decide) hgrow,hrx.pushR hgrow ho hlies,?_,hl,hf,by rw [hlen];omega⟩
 rw [hlen,←Nat.add_assoc,←List.append_assoc]
 exact hfd
theorem SsI.pushN (h:SsI rs0 U b gf w rs L hbs bv wr sa sc St us ta tc T rs1 na nc Nx ns va vc row) (hr:row.length=hbs.length) {g cap:Nat} (hgrow:wr.grownBy w2 (.slice na Nx.length nc:Value).ownBlock) (ho:w2.ownsRow w.heap.size 37 1 (.slice (some ⟨g,0,none⟩) (Nx.length+1) cap) (Nx.length+1) (ns++[.slice va row.length vc])) :
  SsI rs0 U b gf w rs L hbs bv w2 sa sc St us ta tc T rs1 (some ⟨g,0,none⟩) cap (Nx++[row]) (ns++[.slice va row.length vc]) none 0 []:=by
 have hlen:(Nx++[row]).length=Nx.length+1:=by simp
 have hm:(Nx.length+1) * hbs.length=Nx.length * hbs.length+row.length:=by rw [Nat.add_mul,hr];omega
 refine ⟨h.fn.grown h.rx.no (by decide) (by decide) (by decide) (by decide) (by decide) hgrow,h.rx.pushN hgrow ho,?_,fun r hr'=>?_,h.few,?_⟩
 ·rw [hlen,hm,List.flatten_append]
  simp only [List.length_nil,Nat.add_zero,List.append_nil,List.flatten_cons,List.flatten_nil]
  exact h.fd
 ·rcases List.mem_append.1 hr' with hr' | hr'
  ·exact h.len r hr'
  ·rw [List.mem_singleton.1 hr'];exact hr
 ·rw [hlen,hm];have:=h.tl;simpa using this
end
def SsA (rs0:List Rn) (U:List (List Nm)) (b gf:Nat) (w:World) (rs:List Rn) (L:Lang) (hbs:List Nat) (bv:Value) (e:Ending) (w':World):Prop :=
 (Fv b gf w w'∧ManyStates L∧e=.returned (.tuple #[.slice none 0 0,.bool false]))∨∃ (sa:Option Addr) (sc:Nat) (St:List (List ByteArray)) (us:List Value) (ta:Option Addr) (tc:Nat) (T:List ByteArray) (rs1:List Rn) (na:Option Addr) (nc:Nat) (Nx:List (List Nat)) (ns:List Value),e=.returned (.tuple #[.slice na Nx.length nc,.bool true])∧Nx.length=St.length∧SsI rs0 U b gf w rs L hbs bv w' sa sc St us ta tc T rs1 na nc Nx ns none 0 []
set_option maxRecDepth 20000 in
set_option maxHeartbeats 8000000 in
theorem states_any {rs0:List Rn} {U:List (List Nm)} (hT:TrC rs0 U) {b gf:Nat} (w:World) (rs:List Rn) (bv:Value) (hI:FnI rs0 U b gf w rs w bv none 0 [] [] none 0 [] rs) (hbs:List Nat) (B3:Nat) (hn:NR w B3 bv hbs) {rsA:List Rn} {kd:Nat→Nat} (hs:Sorted 256 (alkB rsA) hbs kd) (hbl:hbs.length≤256) {L:Lang} (hL:SameA rsA L) (root:Nat) (hr:root < 256) (hX0:VSet rs0 rs U [oneB root]) (hL0:EqB (stB rs [oneB root]) L) :
  Calls Tryz.prog 24 #[.pointer (some ⟨gf,0,none⟩),.int .i64 (root:Int)] w fun e w'=>SsA rs0 U b gf w rs L hbs bv e w':=by
 obtain ⟨ba,bc,rfl⟩:=hn.form
 have hMI:(hbs.length:Int)≤256:=by omega
 have HT:=hide hT
 have HN:=hide hn
 have HS:=hide hs
 have HBL:=hide hbl
 have HL:=hide hL
 have H256:Hid (∀ x∈hbs,x < 256):=fun x hx=>by
  obtain ⟨k,hk,rfl⟩:=List.getElem_of_mem hx
  have:=(hs.head k hk).1
  rwa [List.getD_eq_getElem?_getD,List.getElem?_eq_getElem hk] at this
 have HM:Hid (0 < hbs.length):=(hs.zero (by omega)).1
 have c2:w.cell? ⟨gf,2,none⟩=some (.slice none 0 0):=hI.c2
 have hgf:=hI.lt
 have hBX:Below w.heap.size w (((w.alloc (.cells #[.int .u8 (root:Int)] 5)).alloc (.cells #[.string (oneB root)] 9)).alloc (.cells #[.slice (some ⟨w.heap.size+1,0,none⟩) 1 1] 60)).drew:=((((Below.refl _ _).alloc (Nat.le_refl _) _).alloc (by simp) _).alloc (by simp;omega) _).drew
 have hXN:(((w.alloc (.cells #[.int .u8 (root:Int)] 5)).alloc (.cells #[.string (oneB root)] 9)).alloc (.cells #[.slice (some ⟨w.heap.size+1,0,none⟩) 1 1] 60)).drew.heap[w.heap.size+1]?=some (.cells #[.string (oneB root)] 9 (0,0)):=by
  show ((((w.alloc (.cells #[.int .u8 (root:Int)] 5)).alloc (.cells #[.string (oneB root)] 9)).alloc (.cells #[.slice (some ⟨w.heap.size+1,0,none⟩) 1 1] 60))).heap[w.heap.size+1]?=_
  rw [Below.heap_alloc _ _ _ (by simp)]
  have:=heap_alloc_new (w.alloc (.cells #[.int .u8 (root:Int)] 5)) (.cells #[.string (oneB root)] 9)
  simpa using this
 have hXU:SRow (((w.alloc (.cells #[.int .u8 (root:Int)] 5)).alloc (.cells #[.string (oneB root)] 9)).alloc (.cells #[.slice (some ⟨w.heap.size+1,0,none⟩) 1 1] 60)).drew 0 (.slice (some ⟨w.heap.size+1,0,none⟩) 1 1) [oneB root]:=⟨rfl,.inr ⟨_,1,_,rfl,Nat.zero_le _,hXN,Nat.le_refl _,by unfold maxLen;omega,rfl,rfl⟩⟩
 have HXU:=hide hXU
 have d1:(w.alloc (.cells #[.int .u8 (root:Int)] 5)).cell? ⟨gf,2,none⟩=some (.slice none 0 0):=(hI.below ((Below.refl _ _).alloc (Nat.le_refl _) _)).c2
 have d2:((w.alloc (.cells #[.int .u8 (root:Int)] 5)).alloc (.cells #[.string (oneB root)] 9)).cell? ⟨gf,2,none⟩=some (.slice none 0 0):=(hI.below (((Below.refl _ _).alloc (Nat.le_refl _) _).alloc (by simp) _)).c2
 have d3:(((w.alloc (.cells #[.int .u8 (root:Int)] 5)).alloc (.cells #[.string (oneB root)] 9)).alloc (.cells #[.slice (some ⟨w.heap.size+1,0,none⟩) 1 1] 60)).cell? ⟨gf,2,none⟩=some (.slice none 0 0):=(hI.below ((((Below.refl _ _).alloc (Nat.le_refl _) _).alloc (by simp) _).alloc (by simp;omega) _)).c2
 have HXI:=hide (hI.below hBX)
 have HFD:Hid (FoundI hbs.length hbs L ([[oneB root]].map (stB rs)) (([]:List (List Nat)).length * hbs.length+([]:List Nat).length) (([]:List (List Nat)).flatten++[])):=by
  show FoundI _ _ _ _ (0 * hbs.length+0) _
  rw [Nat.zero_mul]
  exact FoundI.start _ hL0
 have HX0:=hide hX0
 have hcv:=conv_cell (w.alloc (.cells #[.int .u8 (root:Int)] 5)) w.heap.size root hr (new_cell rfl)
 have hcv':=conv_cell (w.alloc (.cells #[.int .u8 (root:Int)] 5)).drew w.heap.size root hr (new_cell rfl)
 have hwr:IntKind.u8.wrap (root:Int)=(root:Int):=by unfold IntKind.wrap;simp [IntKind.bits,IntKind.signed];omega
 have hrI:(root:Int) < 256:=by omega
 have HRW:Hid (∀ w8 x,((((w.alloc (.cells #[.int .u8 (root:Int)] 5)).alloc (.cells #[.string (oneB root)] 9)).alloc (.cells #[.slice (some ⟨w.heap.size+1,0,none⟩) 1 1] 60)).drew).grownBy w8 (.slice none 0 0:Value).ownBlock→RwI w (w8.setCell ⟨gf,2,none⟩ x) (.slice ba hbs.length bc) hbs none 0 [] [] none 0 []):=fun w8 x hgrow=>by
  have g2:w8.heap[gf]?=_:=(Fr.ofGrown hgrow).at (hI.below hBX).im (by simp [Value.ownBlock])
  exact RwI.start hn (((KpN.below hBX).trans (KpN.fr (Fr.ofGrown hgrow) (fun q hq=>by simp [Value.ownBlock] at hq))).trans (KpN.fr (Fr.ofSet _ _ _ _) (noInt_one g2 (by decide) (by decide))))
 clear hT hI hn hs hbl hL hX0 hL0 hBX hXN hXU
 go_enter Tryz.func24,Tryz.ntmps24
 go_wp2_with fail
 go_cut [] (fun wx=>∃ (sa:Option Addr) (sc:Nat) (us:List Value),Hid (SsI rs0 U b gf w rs L hbs (.slice ba hbs.length bc) wx sa sc [[oneB root]] us none 0 [] rs none 0 [] [] none 0 []))
 case first =>
  have HOB:Hid ((oneB root).size=1):=rfl
  generalize hob:oneB root=ob at *
  go_region_law (refine appSlR (by rfl) _ _ (by rfl) w.heap.size _ 0 [] (by rfl) (by exact (unhide HXI).so) (w.heap.size+2) (.slice (some ⟨w.heap.size+1,0,none⟩) 1 1) rfl (by rfl) (by exact new_cell (by simp)) (by omega) (by simp;omega) (w.heap.size+3) (by simp) ?_;intro g5 cap5 w8 ho hgrow hlies hlt5;obtain ⟨y1,z1,hg8,hP⟩:=(unhide HXI).pushS (unhide HXU) (unhide HX0) (by intro q hq;simp [Value.ownBlock]) hgrow ho;have HP9:=hide hP;have HR9:=hide (unhide HRW w8 (.slice (some ⟨g5,0,none⟩) 1 cap5) hgrow);clear ho hgrow hlies hP)
  all_goals
   go_wp2_with fail
   go_meet
   exact ⟨_,_,_,unhide HP9,unhide HR9,unhide HFD,(fun r hr=>by cases hr),by simp,by simp⟩
 case rest =>
  rename World=>w1
  obtain ⟨sa1,sc1,us1,H1⟩:=hcut
  clear HXU HXI HFD HX0 hcv hcv' hwr hrI HRW c2 hgf d1 d2 d3
  go_wp2_with fail
  go_loopw [6,7] (fun vx ix wr=>∃ (sa:Option Addr) (sc:Nat) (St:List (List ByteArray)) (us:List Value) (ta:Option Addr) (tc:Nat) (T:List ByteArray) (rs1:List Rn) (na:Option Addr) (nc:Nat) (Nx:List (List Nat)) (ns:List Value),vx=.slice na Nx.length nc∧ix=.int .i64 (Nx.length:Int)∧Hid (SsI rs0 U b gf w rs L hbs (.slice ba hbs.length bc) wr sa sc St us ta tc T rs1 na nc Nx ns none 0 [])) (fun _ ix _=>24 - (intOf ix).toNat)
  case atStart=>exact ⟨sa1,sc1,_,us1,none,0,[],rs,none,0,[],[],rfl,rfl,unhide H1⟩
  case round =>
   clear H1
   rename World=>wr
   obtain ⟨sa,sc,St,us,ta,tc,T,rs1,na,nc,Nx,ns,rfl,rfl,HH⟩:=hrel
   have hI:=unhide HH
   clear HH
   have f2:=hI.fn.c2
   have hgf:=hI.fn.lt
   have hSI:(St.length:Int)≤24:=by have:=hI.few;omega
   have hnl:=hI.nl (unhide HM)
   by_cases hlt:Nx.length < St.length
   ·have hiI:(Nx.length:Int) < (St.length:Int):=by omega
    have HI:=hide hI
    have HLT:=hide hlt
    clear hI hlt hnl
    go_wp2_with fail
    go_loopw [8,9] (fun vx jx wr=>∃ (sa:Option Addr) (sc:Nat) (St:List (List ByteArray)) (us:List Value) (ta:Option Addr) (tc:Nat) (T:List ByteArray) (rs1:List Rn) (va:Option Addr) (vc:Nat) (row:List Nat),vx=.slice va row.length vc∧jx=.int .i64 (row.length:Int)∧Hid (row.length≤hbs.length∧Nx.length < St.length∧SsI rs0 U b gf w rs L hbs (.slice ba hbs.length bc) wr sa sc St us ta tc T rs1 na nc Nx ns va vc row)) (fun _ jx _=>hbs.length - (intOf jx).toNat)
    case atStart=>exact ⟨sa,sc,St,us,ta,tc,T,rs1,none,0,[],rfl,rfl,Nat.zero_le _,unhide HLT,unhide HI⟩
    case round =>
     clear HI HLT f2 hgf hSI hiI
     rename World=>wy
     obtain ⟨sa,sc,St,us,ta,tc,T,rs1,va,vc,row,rfl,rfl,HH⟩:=hrel
     obtain ⟨hrl,hnl,hI⟩:=unhide HH
     clear HH
     have f0:=hI.fn.c0
     have f1:=hI.fn.c1
     have f2:=hI.fn.c2
     have hgf:=hI.fn.lt
     have hSI:(St.length:Int)≤24:=by have:=hI.few;omega
     by_cases hlt:row.length < hbs.length
     ·have hjI:(row.length:Int) < (hbs.length:Int):=by omega
      have hiI:(Nx.length:Int) < (St.length:Int):=by omega
      have hi0:(0:Int)≤(Nx.length:Int):=by omega
      have hi1:((Nx.length:Int)).toNat=Nx.length:=by omega
      have hj0:(0:Int)≤(row.length:Int):=by omega
      have hj1:((row.length:Int)).toNat=row.length:=by omega
      obtain ⟨Y,hY⟩:∃ Y,St[Nx.length]?=some Y:=⟨_,List.getElem?_eq_getElem hnl⟩
      obtain ⟨g,y,rfl,hgl,hcy,hry⟩:=hI.fn.at hY
      obtain ⟨gn,cn,he,ch⟩:=hI.rx.bn.at hlt
      simp only [Value.slice.injEq,true_and] at he
      obtain ⟨rfl,rfl⟩:=he
      have hgn:gn < wy.heap.size:=World.block_lt_of_cell? wy ⟨gn,row.length,none⟩ ch
      have hc256:hbs.getD row.length 0 < 256:=((unhide HS).head _ hlt).1
      have hvY:=hI.fn.sets Y (List.mem_of_getElem? hY)
      have HON:=hide (fun n=>on_j (b:=b) (unhide HT) hc256 (wy.drewN n) rs1 (RtS_below hI.fn.rt (below_drewN (Below.refl _ _) n)) hI.fn.gr 0 y Y (show SRow wy 0 y Y from hry) hvY)
      obtain ⟨ya,yc,rfl⟩:=hry.form
      have HI:=hide hI
      have HY:=hide hY
      have HLT:=hide hlt
      have HVY:=hide hvY
      clear hI hlt hnl hrl hY hry hvY
      generalize hcc:hbs.getD row.length 0=c at *
      have HCC:=hide hcc
      clear hcc hc256
      go_upto_region 10 with fail
      go_cut [10] from 35 to 75 (fun cx wx=>∃ (ca:Option Addr) (cn cc:Nat) (C:List ByteArray) (rs2:List Rn),cx=.slice ca cn cc∧Hid (OnJ rs0 U b wy rs1 wx (.slice ca cn cc) C rs2 (derL c (stB rs1 Y))))
      case first =>
       go_region_with (go_at_call 44;refine (unhide HON _).mono ?_;rintro e w3 ⟨v3,C,rs2,rfl,h3⟩;have h4:=onj_base h3;obtain ⟨ca,cc,rfl⟩:=h4.row.form;have HC4:=hide h4;clear h3 h4)
       all_goals
        go_wp2_with fail
        go_meet
        exact ⟨ca,_,cc,C,rs2,rfl,unhide HC4⟩
      case rest =>
       rename World=>w3
       obtain ⟨ca,cn,cc,C,rs2,rfl,HC3⟩:=hcut
       have hC:=unhide HC3
       have hI3:=(unhide HI).next hC.trk
       have HSA:=hide (state_any (unhide HT) w rs w3 _ _ _ _ _ _ _ _ _ hI3.fn (.slice ca cn cc) C hC.row (fun q hq=>fun e=>by
        have h1:=hC.new q hq
        have h2:=(World.ownsRow.lt (unhide HI).fn.tr q e).2
        omega) hC.vs 0 hbs hI3.rx.bn (unhide H256) (unhide HBL) (by have:=hI3.few;omega) (hI3.tn (unhide HM) (unhide HBL) (Nat.le_of_lt (unhide HLT))))
       have HEX:Hid (stB rs2 C=derL (hbs.getD row.length 0) (stB rs2 Y)):=by
        show _=_
        rw [hC.eq,unhide HCC,(hC.trk.set (unhide HI).fn.gr (unhide HVY)).2]
       have HI3:=hide hI3
       have HVC:=hide hC.vs
       clear HC3 hC hI3 HI HON f0 f1 f2 hgf hSI hiI hcy hgl ch hgn
       go_wp2_with fail
       refine (unhide HSA).mono ?_
       rintro e w4 hsa
       obtain ⟨k,sa',sc',St',us',ta',tc',T',rs3,rfl,hfn,hrx,hfd,h25,hnl4,htl⟩:=(unhide HI3).found (unhide HS) (unhide HL) (unhide HLT) (unhide HY) (unhide HEX) (unhide HVC) hsa
       have e2:=hfn.c2
       have hgf4:=hfn.lt
       have HLEN:=hide (unhide HI3).len
       clear hsa HSA HI3 HEX HVC
       by_cases h24:St'.length≤24
       ·have hSI:(St'.length:Int)≤24:=by omega
        have HFN:=hide (hfn.below ((Below.refl _ _).alloc (Nat.le_refl _) (.cells #[.int .i64 (k:Int)] 3)))
        have HRX:=hide (hrx.kp (KpN.below ((Below.refl _ _).alloc (Nat.le_refl _) (.cells #[.int .i64 (k:Int)] 3))))
        have HFD:=hide hfd
        have H24:=hide h24
        have HTL:=hide htl
        have HNL4:=hide hnl4
        have HWS:Hid (w.heap.size≤w4.heap.size):=hfn.fv.size
        clear hfn hrx hfd h24 h25 htl hnl4
        go_wp2_with (at_builtin;refine app1 rfl (.tmp 72) (.tmp 74) rfl w.heap.size _ row rfl (unhide HRX).rm w4.heap.size k rfl (new_cell rfl) (by have:=unhide HLT;have:=unhide HBL;omega) (by have:=unhide HWS;simp;omega) (w4.heap.size+1) (by simp) ?_;intro g5 cap5 w8 ho hgrow hlies hlt5;have HP9:=hide (SsI.pushR (unhide HFN) (unhide HRX) (unhide HFD) (unhide HLEN) (unhide H24) (unhide HTL) hgrow ho (hlies.elim Or.inl (fun e=>Or.inr (by rw [e];simp))));clear ho hgrow hlies)
        go_roundw
        case rel=>exact ⟨sa',sc',St',us',ta',tc',T',rs3,some ⟨g5,0,none⟩,cap5,row++[k],by simp,by first | (simp;done) | go_num,by rw [List.length_append];exact unhide HLT,unhide HNL4,unhide HP9⟩
        case measure=>have:=unhide HLT;simp [intOf];omega
       ·have hSI:¬(St'.length:Int)≤24:=by omega
        have hSJ:(24:Int) < (St'.length:Int):=by omega
        have HFV:=hide hfn.fv
        have HMY:Hid (ManyStates L):=hfd.many (by rw [List.length_map];omega)
        clear hfn hrx hfd h24 h25 htl hnl4
        go_wp2_with fail
        refine bodyPost_ret (v:=.tuple #[.slice none 0 0,.bool false]) (by simp [results,Tryz.results24,go_sem]) rfl ?_
        exact .inl ⟨unhide HFV,unhide HMY,rfl⟩
     ·have hj2:row.length=hbs.length:=by omega
      have hjI:¬(row.length:Int) < (hbs.length:Int):=by omega
      have HJ2:=hide hj2
      have HI:=hide hI
      have HXA:=hide (hI.below ((Below.refl _ _).alloc (Nat.le_refl _) (.cells #[.slice va row.length vc] 37)))
      have HWS:Hid (w.heap.size≤wy.heap.size):=hI.fn.fv.size
      have HN24:Hid (Nx.length < 24):=by have:=hI.few;show _ < _;omega
      have hN24:(Nx.length:Int) < 24:=by have:=hI.few;omega
      clear hI hlt hnl hrl hj2
      go_wp2_with (at_builtin;refine appNn rfl (.tmp 76) (.tmp 78) rfl w.heap.size _ Nx.length ns rfl (unhide HXA).rx.no wy.heap.size _ rfl rfl (new_cell rfl) (by have:=unhide HN24;omega) (by have:=unhide HWS;simp;omega) (wy.heap.size+1) (by simp) ?_;intro g5 cap5 w8 ho hgrow hlies hlt5;have HP9:=hide ((unhide HXA).pushN (unhide HJ2) hgrow ho);clear ho hgrow hlies)
      go_roundw
      case rel=>exact ⟨sa,sc,St,us,ta,tc,T,rs1,some ⟨g5,0,none⟩,cap5,Nx++[row],_,by simp,by first | (simp;done) | go_num,unhide HP9⟩
      case measure=>have:=unhide HN24;simp [intOf];omega
   ·have hi2:Nx.length=St.length:=by omega
    have hiI:¬(Nx.length:Int) < (St.length:Int):=by omega
    have HI:=hide hI
    have HI2:=hide hi2
    clear hI hlt hnl hi2
    go_wp2_with fail
    refine bodyPost_ret (v:=.tuple #[.slice na Nx.length nc,.bool true]) (by simp [results,Tryz.results24,go_sem]) rfl ?_
    exact .inr ⟨sa,sc,St,us,ta,tc,T,rs1,na,nc,Nx,ns,rfl,unhide HI2,unhide HI⟩
end Mc
end Go.Proofs.YtobfpgoepaeknaaGreat
namespace Go.Proofs.YtobfpgoepaeknaaGreat
namespace Mc
open Go.RowKit
attribute [local go_sem ↓] Go.wp_at_zero Go.wp_at_succ
section
variable {n : Nat} {p : ByteArray} {rs0 : List Rn} {k : Nat} {R : Re}
theorem root_lt (h:rfF n 0 p 0 0 []=some (rs0,(k:Int))) (hp:p.size≤60):k < rs0.length∧rs0.length≤121∧WfT rs0:=by
 have h3:=rfF_wf n 0 p 0 0 [] (rs0,(k:Int)) h (fun k r h=>by simp at h) (fun h=>by omega)
 have h4:=tree_small h hp
 have h5:=ctsT_len rs0
 have h6:(k:Int) < (rs0.length:Int):=h3.2.2
 exact ⟨by omega,by omega,h3.1⟩
theorem trc_of (h:rfF n 0 p 0 0 []=some (rs0,(k:Int))) (hp:p.size≤60) (hd:Dr rs0 R (k:Int)) (hw:R.wt≤12):TrC rs0 ([Nm.o k] ::uni rs0 R k):=by
 obtain ⟨h1,h2,h3⟩:=root_lt h hp
 have hl:=uni_len rs0 R k
 refine ⟨tree_small h hp,h3,?_,by rw [List.length_cons];omega,fun u hu=>?_⟩
 ·intro τ hτ α x β σ e hx
  rcases List.mem_cons.1 hτ with rfl | hτ
  ·have e2:α=[]∧x=Nm.o k∧β=[]:=by
    cases α with
    | nil=>simp at e;exact ⟨rfl,e.1.symm,e.2⟩
    | cons a α=>simp at e
   obtain ⟨rfl,rfl,rfl⟩:=e2
   obtain ⟨R',h',hσ⟩:=hx.ofO
   rw [List.append_nil,Dr.same hd h']
   exact List.mem_cons_of_mem _ hσ
  ·exact List.mem_cons_of_mem _ (uni_closed rs0 R k hd τ hτ α x β σ e hx)
 ·rcases List.mem_cons.1 hu with rfl | hu
  ·simp
  ·have g1:=uni_dep rs0 R k u hu
   have g2:=rdep_le h3 hd
   omega
theorem root_set (h:rfF n 0 p 0 0 []=some (rs0,(k:Int))) (hp:p.size≤60) (hd:Dr rs0 R (k:Int)) (hw:R.wt≤12):VSet rs0 rs0 ([Nm.o k] ::uni rs0 R k) [oneB k]∧EqB (stB rs0 [oneB k]) R.L:=by
 obtain ⟨h1,h2,h3⟩:=root_lt h hp
 have hb:bytesN (oneB k)=[k]:=bytesN_oneB (by omega)
 refine ⟨⟨List.pairwise_singleton _ _,fun s hs=>?_,fun s hs j hj=>?_⟩,fun w _=>?_⟩
 ·rw [List.mem_singleton.1 hs]
  refine ⟨fun j hj=>?_,?_⟩
  ·rw [hb,List.mem_singleton] at hj;omega
  ·unfold nmS
   rw [hb,List.map_singleton]
   unfold nmOf
   rw [if_pos h1]
   exact List.mem_cons_self
 ·rw [List.mem_singleton.1 hs,hb,List.mem_singleton] at hj
  subst hj
  exact .inl ⟨h1,R,hd,hw⟩
 ·have e:tmL rs0 [k]=R.L:=by
   show catL (LN rs0 k) epsL=_
   rw [LN_eq hd]
   exact Lang.ext fun u=>⟨fun ⟨a,c,e1,e2,e3⟩=>by
    have e3':c=[]:=e3
    subst e3'
    rw [List.append_nil] at e1;rw [e1];exact e2,fun h=>⟨u,[],(List.append_nil u).symm,h,rfl⟩⟩
  constructor
  ·rintro ⟨s,hs,ht⟩
   rw [List.mem_singleton.1 hs,hb,e] at ht
   exact ht
  ·intro ht
   exact ⟨oneB k,List.mem_singleton.2 rfl,by rw [hb,e];exact ht⟩
end
def nxF (Nx:List (List Nat)) (i c:Nat):Nat:=(Nx.getD i []).getD c 0
theorem flat_at {M:Nat}:∀ {Nx:List (List Nat)},(∀ r∈Nx,r.length=M)→∀ {i c:Nat},i < Nx.length→c < M→Nx.flatten.getD (i * M+c) 0=nxF Nx i c
 | [],_,i,c,hi,_=>by simp at hi
 | r ::Nx,hl,0,c,_,hc=>by
  have:=hl r (by simp)
  unfold nxF
  rw [List.flatten_cons,List.getD_eq_getElem?_getD,List.getElem?_append_left (by omega),List.getD_cons_zero,List.getD_eq_getElem?_getD]
  simp
 | r ::Nx,hl,i+1,c,hi,hc=>by
  have h1:=hl r (by simp)
  have ih:=flat_at (Nx:=Nx) (fun r hr=>hl r (by simp [hr])) (i:=i) (by simpa using hi) hc
  unfold nxF at ih ⊢
  rw [List.getD_cons_succ,←ih,List.flatten_cons,List.getD_eq_getElem?_getD,List.getElem?_append_right (by rw [h1,Nat.add_mul];omega),List.getD_eq_getElem?_getD]
  congr 2
  rw [h1,Nat.add_mul];omega
theorem tab_of' {L:List Nat→Prop} {S:Nat} {nx:Nat→Nat→Nat} {gr:Nat→Bool} {fs:List Nat} {cls:Nat→Nat} (hm:MinDfa L S nx gr) (hc:Sorted 256 (ElT S nx) fs cls) (h1:S≤24) (h2:fs.length≤24) :
  TabOf L S fs.length nx gr cls (fun k c=>nx k (fs.getD c 0)) :=
 ⟨hm,⟨hc.lt,hc.iff,fun _ hb _ hcc=>hc.grow hb hcc,fun c hcc=>⟨_,(hc.head c hcc).1,(hc.head c hcc).2⟩⟩,h1,h2,fun i b hi hb=>(hc.iff _ _ (hc.head _ (hc.lt b hb)).1 hb).1 (hc.head _ (hc.lt b hb)).2 i hi⟩
theorem many_of' {L:List Nat→Prop} {S:Nat} {nx:Nat→Nat→Nat} {gr:Nat→Bool} {fs:List Nat} {cls:Nat→Nat} (hm:MinDfa L S nx gr) (hc:Sorted 256 (ElT S nx) fs cls) (h2:24 < fs.length):ManyClasses L:=by
 refine hm.many (fun i=>fs.getD i 0) (fun i hi=>(hc.head i (by omega)).1) (fun i j hij hj=>?_)
 have g:=hc.apart hij (show j < fs.length by omega)
 refine Classical.byContradiction fun hno=>g fun k hk=>?_
 exact Classical.byContradiction fun hne=>hno ⟨k,hk,hne⟩
structure NnR (w:World) (v:Value) (Nx:List (List Nat)):Prop where
 ex:∃ ns,w.ownsRow 0 37 1 v Nx.length ns∧Rwt w 0 ns Nx
theorem own_zero {w:World} {B e z n:Nat} {v:Value} {xs:List Value} (h:w.ownsRow B e z v n xs):w.ownsRow 0 e z v n xs:=by
 refine ⟨h.1,?_⟩
 rcases h.2 with h | ⟨g,cap,cur,h1,h2,h3⟩
 ·exact .inl h
 ·exact .inr ⟨g,cap,cur,h1,Nat.zero_le _,h3⟩
theorem RwI.nn {w wr:World} {bv:Value} {hbs:List Nat} {na:Option Addr} {nc:Nat} {Nx:List (List Nat)} {ns:List Value} {va:Option Addr} {vc:Nat} {row:List Nat} (h:RwI w wr bv hbs na nc Nx ns va vc row):NnR wr (.slice na Nx.length nc) Nx:=⟨ns,own_zero h.no,h.nr.len,fun k u r hu hr=>(h.nr.row k u r hu hr).less (Nat.zero_le _)⟩
theorem NnR.kp {w w':World} {v:Value} {Nx:List (List Nat)} (h:NnR w v Nx) (k:KpN w w'):NnR w' v Nx:=by
 obtain ⟨ns,h1,h2⟩:=h.ex
 exact ⟨ns,k.own h1 (.inr rfl),h2.kp k⟩
theorem NnR.form {w:World} {v:Value} {Nx:List (List Nat)} (h:NnR w v Nx):∃ a c,v=.slice a Nx.length c:=by
 obtain ⟨ns,h1,-⟩:=h.ex
 rcases h1.2 with ⟨e,h0⟩ | ⟨g,cap,cur,e,_⟩
 ·exact ⟨none,0,by rw [e,h0]⟩
 ·exact ⟨_,_,e⟩
theorem NnR.at {w:World} {na:Option Addr} {nc:Nat} {Nx:List (List Nat)} (h:NnR w (.slice na Nx.length nc) Nx) {M:Nat} (hl:∀ r∈Nx,r.length=M) {i:Nat} (hi:i < Nx.length) (hM:0 < M):∃ g gi ci,na=some ⟨g,0,none⟩∧g < w.heap.size∧gi < w.heap.size∧w.cell? ⟨g,i,none⟩=some (.slice (some ⟨gi,0,none⟩) M ci)∧∀ c,c < M→w.cell? ⟨gi,c,none⟩=some (.int .i64 ((nxF Nx i c:Nat):Int)):=by
 obtain ⟨ns,h1,h2⟩:=h.ex
 have hr:=List.getElem?_eq_getElem hi
 obtain ⟨u,hu,hnr⟩:=h2.at hr
 obtain ⟨g,cap,he⟩:=own_form h1 (by omega)
 simp only [Value.slice.injEq,true_and] at he
 obtain ⟨rfl,rfl⟩:=he
 have hcell:=h1.cells (g:=g) rfl i u hu
 rw [add0] at hcell
 have hlen:=hl _ (List.getElem_mem hi)
 obtain ⟨gi,ci,rfl,-⟩:=hnr.at (k:=0) (by omega)
 have hgi:=(World.ownsRow.lt hnr gi rfl).2
 rw [hlen] at hcell
 refine ⟨g,gi,ci,rfl,(h1.lt g rfl).2,hgi,hcell,fun c hc=>?_⟩
 obtain ⟨g',c',e,hc'⟩:=hnr.at (k:=c) (by omega)
 simp only [Value.slice.injEq,Option.some.injEq,Addr.mk.injEq,and_true,true_and] at e
 obtain ⟨rfl,rfl⟩:=e
 rw [hc']
 unfold nxF
 rw [show Nx.getD i []=Nx[i] from by rw [List.getD_eq_getElem?_getD,hr];rfl]
set_option maxRecDepth 20000 in
set_option maxHeartbeats 2000000 in
theorem sameColumn_any (w:World) (v:Value) (Nx:List (List Nat)) (h:NnR w v Nx) (hN:Nx.length≤24) (M:Nat) (hl:∀ r∈Nx,r.length=M) (hM:M≤256) (x y:Nat) (hx:x < M) (hy:y < M) :
  Calls Tryz.prog 25 #[v,.int .i64 (x:Int),.int .i64 (y:Int)] w fun e w'=>(∃ z,e=.returned (.bool z)∧(z=true↔∀ i,i < Nx.length→nxF Nx i x=nxF Nx i y))∧∃ n,w'=w.drewN n:=by
 obtain ⟨na,nc,rfl⟩:=h.form
 have hNI:(Nx.length:Int)≤24:=by omega
 have hMI:(M:Int)≤256:=by omega
 have hxI:(x:Int) < (M:Int):=by omega
 have hyI:(y:Int) < (M:Int):=by omega
 have hx0:(0:Int)≤(x:Int):=by omega
 have hy0:(0:Int)≤(y:Int):=by omega
 have hx1:((x:Int)).toNat=x:=by omega
 have hy1:((y:Int)).toNat=y:=by omega
 have HA:=hide (fun i (hi:i < Nx.length)=>h.at hl hi (by omega))
 have HX:=hide hx
 have HY:=hide hy
 clear h hN hl hM hx hy
 go_enter Tryz.func25,Tryz.ntmps25
 go_wp2_with fail
 go_loopw [7] (fun ix wr=>∃ i:Nat,ix=.int .i64 (i:Int)∧Hid (i≤Nx.length∧(∃ n,wr=w.drewN n)∧∀ k,k < i→nxF Nx k x=nxF Nx k y)) (fun ix _=>Nx.length - (intOf ix).toNat)
 case atStart=>exact ⟨0,rfl,Nat.zero_le _,⟨0,rfl⟩,fun k hk=>by omega⟩
 case round =>
  rename World=>wr
  obtain ⟨i,rfl,HH⟩:=hrel
  obtain ⟨hi,⟨n,rfl⟩,hall⟩:=unhide HH
  clear HH
  by_cases hlt:i < Nx.length
  ·have hiI:(i:Int) < (Nx.length:Int):=by omega
   have hi0:(0:Int)≤(i:Int):=by omega
   have hi1:((i:Int)).toNat=i:=by omega
   obtain ⟨g,gi,ci,rfl,hg,hgi,k0,hc⟩:=unhide HA i hlt
   have k1:=hc x (unhide HX)
   have k2:=hc y (unhide HY)
   have HLT:=hide hlt
   have HALL:=hide hall
   clear hi hall hlt hc
   by_cases he:nxF Nx i x=nxF Nx i y
   ·have HS:Hid (∀ k,k < i+1→nxF Nx k x=nxF Nx k y):=fun k hk=>by
     by_cases e:k=i
     ·subst e;exact he
     ·exact unhide HALL k (by omega)
    rw [←he] at k2
    clear he HALL
    generalize nxF Nx i x=z at *
    go_wp2_with fail
    go_quiet (fail)
    go_wp2_with fail
    go_roundw
    case rel=>exact ⟨i+1,by go_num,unhide HLT,⟨n+nq,by first | rfl | simp⟩,unhide HS⟩
    case measure=>have:=unhide HLT;simp [intOf];omega
   ·have HF:Hid (¬∀ k,k < Nx.length→nxF Nx k x=nxF Nx k y):=fun h=>he (h i (unhide HLT))
    obtain ⟨z1,hz1⟩:∃ z,nxF Nx i x=z:=⟨_,rfl⟩
    obtain ⟨z2,hz2⟩:∃ z,nxF Nx i y=z:=⟨_,rfl⟩
    rw [hz1] at k1
    rw [hz2] at k2
    have hne:¬(z1:Int)=(z2:Int):=by rw [hz1,hz2] at he;omega
    clear he hz1 hz2 HALL
    go_wp2_with fail
    go_quiet (fail)
    go_wp2_with fail
    go_ret
    exact ⟨⟨false,rfl,by simpa using unhide HF⟩,n+nq,by first | rfl | simp⟩
  ·have hi2:i=Nx.length:=by omega
   subst hi2
   have HALL:=hide hall
   clear hi hall hlt
   go_wp2_with fail
   go_ret
   exact ⟨⟨true,rfl,by simpa using unhide HALL⟩,n,rfl⟩
def colB (Nx:List (List Nat)) (x y:Nat):Bool:=(List.range Nx.length).all fun i=>nxF Nx i x == nxF Nx i y
theorem colB_iff (Nx:List (List Nat)) (x y:Nat):colB Nx x y=true↔∀ i,i < Nx.length→nxF Nx i x=nxF Nx i y:=by
 unfold colB
 rw [List.all_eq_true]
 exact ⟨fun h i hi=>by simpa using h i (List.mem_range.2 hi),fun h i hi=>by simpa using h i (List.mem_range.1 hi)⟩
theorem sameColumn_c (w:World) (v:Value) (Nx:List (List Nat)) (h:NnR w v Nx) (hN:Nx.length≤24) (M:Nat) (hl:∀ r∈Nx,r.length=M) (hM:M≤256) (x y:Nat) (hx:x < M) (hy:y < M) :
  Calls Tryz.prog 25 #[v,.int .i64 (x:Int),.int .i64 (y:Int)] w fun e w'=>e=.returned (.bool (colB Nx x y))∧∃ n,w'=w.drewN n :=
 (sameColumn_any w v Nx h hN M hl hM x y hx hy).mono fun e w1 h1=>by
  obtain ⟨⟨z,rfl,hz⟩,h2⟩:=h1
  refine ⟨?_,h2⟩
  rw [show z=colB Nx x y from Bool.eq_iff_iff.2 (hz.trans (colB_iff Nx x y).symm)]
end Mc
end Go.Proofs.YtobfpgoepaeknaaGreat
