/-
  The document's answer: the states one after the other: what is kept on the way.
  The document's answer: the states one after the other: the walk.
  Sets of spots as numbers: move, has, onePart; rows of numbers.
  Parts: onePart, link.
-/
import Derived.Test.YtobfpgoepaeknaaGreatTA17
import Derived.Test.YtobfpgoepaeknaaGreatTA03
import Derived.Test.YtobfpgoepaeknaaGreatTA07
import Derived.Laws.BitsAllLaws
namespace Go.Proofs.YtobfpgoepaeknaaGreat
namespace Mc
open Go.RowKit
theorem infoIIG:(Tryz.prog.info? 37).map (fun i=>(i.zero,i.size,i.bytes))=some (some (.slice none 0 0),1,24):=by kernel_rfl
theorem appNn {ops:Array Oper} {rest:List Oper} {o:Oper} {a:Act} {W:World} {Q:Exit→Act→World→Prop} (hgd:o.guard=none) (s x:Operand)
  (ho:o.op=.call { callee:=.builtin .append,args:=#[s,x],argTypes:=#[63,63] }) (B:Nat) (v:Value) (n:Nat) (us:List Value) (hs:a.eval s=v) (hown:W.ownsRow B 37 1 v n us) (g0:Nat) (y:Value) (hy:y.oneCell'=true)
  (hx:a.eval x=.slice (some ⟨g0,0,none⟩) 1 1) (hc:W.cell? ⟨g0,0,none⟩=some y) (hlen:n≤1000) (hB:B≤W.heap.size) (H:Nat) (hH:W.heap.size=H)
  (h:∀ g cap w',w'.ownsRow B 37 1 (.slice (some ⟨g,0,none⟩) (n+1) cap) (n+1) (us++[y])→W.grownBy w' v.ownBlock→(v.ownBlock=some g∨g=H)→g < w'.heap.size→wpList Tryz.prog ops Q rest (a.put o.dst (.slice (some ⟨g,0,none⟩) (n+1) cap)) w'):wpList Tryz.prog ops Q (o ::rest) a W:=by
 obtain ⟨i,i0,i1,i2,i3⟩:=info_of infoIIG
 exact wpList_append_lies W hgd s x 63 ho B 37 i (.slice none 0 0) 1 24 Tryz.underlying63 i0 i1 i2 i3 rfl (by decide) v n us hs hown ⟨g0,0,none⟩ 1 1 [y] hx rfl (one_cells hc) (by intro u hu;simp at hu;subst hu;exact hy) (by decide) (by unfold maxLen;omega) (by omega) hB H hH h
theorem appSlR {ops:Array Oper} {o:Oper} {a:Act} {W:World} {K:Act→World→Prop} {Q:Exit→Act→World→Prop} {E:Prop} (hgd:o.guard=none) (s x:Operand)
  (ho:o.op=.call { callee:=.builtin .append,args:=#[s,x],argTypes:=#[59,59] }) (B:Nat) (v:Value) (n:Nat) (us:List Value) (hs:a.eval s=v) (hown:W.ownsRow B 60 1 v n us) (g0:Nat) (y:Value) (hy:y.oneCell'=true)
  (hx:a.eval x=.slice (some ⟨g0,0,none⟩) 1 1) (hc:W.cell? ⟨g0,0,none⟩=some y) (hlen:n≤1000) (hB:B≤W.heap.size) (H:Nat) (hH:W.heap.size=H)
  (h:∀ g cap w',w'.ownsRow B 60 1 (.slice (some ⟨g,0,none⟩) (n+1) cap) (n+1) (us++[y])→W.grownBy w' v.ownBlock→(v.ownBlock=some g∨g=H)→g < w'.heap.size→K (a.put o.dst (.slice (some ⟨g,0,none⟩) (n+1) cap)) w') :
  if Region.wanted o (yielded ops a.tmps)=true then Oper.wp Tryz.prog o a W K Q else E:=by
 obtain ⟨i,i0,i1,i2,i3⟩:=info_of infoSsG
 exact step_append_lies W hgd s x 59 ho B 60 i (.slice none 0 0) 1 24 Tryz.underlying59 i0 i1 i2 i3 rfl (by decide) v n us hs hown ⟨g0,0,none⟩ 1 1 [y] hx rfl (one_cells hc) (by intro u hu;simp at hu;subst hu;exact hy) (by decide) (by unfold maxLen;omega) (by omega) hB H hH h
structure Rwt (w:World) (B:Nat) (us:List Value) (F:List (List Nat)):Prop where
 len:us.length=F.length
 row:∀ (k:Nat) u r,us[k]?=some u→F[k]?=some r→NR w B u r
section
variable {w w' : World} {B : Nat} {us : List Value} {F : List (List Nat)}
theorem Rwt.nil:Rwt w B [] []:=⟨rfl,fun k u r h=>by simp at h⟩
theorem Rwt.at (h:Rwt w B us F) {k:Nat} {r:List Nat} (hk:F[k]?=some r):∃ u,us[k]?=some u∧NR w B u r:=by
 have hl:=get_lt hk
 have hu:=List.getElem?_eq_getElem (show k < us.length by rw [h.len];exact hl)
 exact ⟨_,hu,h.row k _ r hu hk⟩
theorem Rwt.mem (h:Rwt w B us F) {u:Value} (hu:u∈us):∃ r,NR w B u r:=by
 obtain ⟨k,hk⟩:=List.getElem?_of_mem hu
 have hl:=get_lt hk
 have hr:=List.getElem?_eq_getElem (show k < F.length by rw [←h.len];exact hl)
 exact ⟨_,h.row k u _ hk hr⟩
theorem Rwt.keep (h:Rwt w B us F) {S:List Nat} (f:Fr S w w') (hs:∀ u∈us,∀ q,u.ownBlock=some q→q∉S):Rwt w' B us F:=⟨h.len,fun k u r hu hr=>f.own (h.row k u r hu hr) (hs u (List.mem_of_getElem? hu))⟩
theorem Rwt.kp (h:Rwt w B us F) (k:KpN w w'):Rwt w' B us F:=⟨h.len,fun i u r hu hr=>k.nr (h.row i u r hu hr)⟩
theorem Rwt.snoc (h:Rwt w B us F) {u:Value} {r:List Nat} (hu:NR w B u r):Rwt w B (us++[u]) (F++[r]):=by
 refine ⟨by simp [h.len],fun k u' r' hu' hr'=>?_⟩
 rcases get_snoc hu' with h1 | ⟨rfl,rfl⟩
 ·rcases get_snoc hr' with h2 | ⟨rfl,rfl⟩
  ·exact h.row k u' r' h1 h2
  ·have:=get_lt h1;have:=h.len;omega
 ·rcases get_snoc hr' with h2 | ⟨-,rfl⟩
  ·have:=get_lt h2;have:=h.len;omega
  ·exact hu
theorem SepS.nil (us:List Value):SepS (.slice none 0 0) us:=fun u _ q _ h=>by simp [Value.ownBlock] at h
theorem SepS.growN {v:Value} (h:Rwt w B us F) (hs:SepS v us) {g n cap:Nat} (hl:v.ownBlock=some g∨g=w.heap.size):SepS (.slice (some ⟨g,0,none⟩) n cap) us:=fun u hu q hq hq'=>by
 have e:g=q:=by simpa [Value.ownBlock] using hq'
 subst e
 rcases hl with hl | hl
 ·exact hs u hu g hq hl
 ·obtain ⟨r,hr⟩:=h.mem hu
  have:=(World.ownsRow.lt hr g hq).2
  omega
end
theorem KpN.below {w w1:World} (h:Below w.heap.size w w1):KpN w w1:=⟨h.size,fun q cs ty fr g _=>by rw [h.block q (Array.getElem?_eq_some_iff.1 g).1];exact g⟩
structure RwI (w wr:World) (bv:Value) (hbs:List Nat) (na:Option Addr) (nc:Nat) (Nx:List (List Nat)) (ns:List Value) (va:Option Addr) (vc:Nat) (row:List Nat):Prop where
 no:wr.ownsRow w.heap.size 37 1 (.slice na Nx.length nc) Nx.length ns
 nr:Rwt wr w.heap.size ns Nx
 rm:NR wr w.heap.size (.slice va row.length vc) row
 sp:SepS (.slice va row.length vc) ns
 bn:NR wr 0 bv hbs
 bl:∀ q,bv.ownBlock=some q→q < w.heap.size
section
variable {w wr w2 : World} {bv : Value} {hbs : List Nat} {na : Option Addr} {nc : Nat} {Nx : List (List Nat)} {ns : List Value} {va : Option Addr} {vc : Nat} {row : List Nat}
theorem RwI.start {B:Nat} (h:NR w B bv hbs) (hk:KpN w wr):RwI w wr bv hbs none 0 [] [] none 0 [] :=
 ⟨World.ownsRow_nil _ _ _ _,Rwt.nil,NR.nil _ _,SepS.nil _,(hk.nr h).less (Nat.zero_le _),fun q hq=>(World.ownsRow.lt h q hq).2⟩
theorem RwI.kp (h:RwI w wr bv hbs na nc Nx ns va vc row) (k:KpN wr w2):RwI w w2 bv hbs na nc Nx ns va vc row:=⟨k.own h.no (.inr rfl),h.nr.kp k,k.nr h.rm,h.sp,k.nr h.bn,h.bl⟩
theorem RwI.pushR (h:RwI w wr bv hbs na nc Nx ns va vc row) {g cap y:Nat} (hgrow:wr.grownBy w2 (.slice va row.length vc:Value).ownBlock) (ho:w2.ownsRow w.heap.size 3 1 (.slice (some ⟨g,0,none⟩) (row.length+1) cap) (row.length+1) (ncs row++[.int .i64 (y:Int)])) (hl:(Value.slice va row.length vc).ownBlock=some g∨g=wr.heap.size):RwI w w2 bv hbs na nc Nx ns (some ⟨g,0,none⟩) cap (row++[y]):=by
 have hlen:(row++[y]).length=row.length+1:=by simp
 refine ⟨(Fr.ofGrown hgrow).own h.no (fun q hq hm=>?_),h.nr.keep (Fr.ofGrown hgrow) (fun u hu q hq hm=>h.sp u hu q hq (Option.mem_toList.1 hm)),by rw [hlen];exact NR.of ho,by rw [hlen];exact SepS.growN h.nr h.sp hl,(Fr.ofGrown hgrow).own h.bn (fun q hq hm=>?_),h.bl⟩
 ·obtain ⟨cs,hc⟩:=own_tyT h.no hq
  obtain ⟨cs',hc'⟩:=own_tyT h.rm (Option.mem_toList.1 hm)
  rw [hc] at hc'
  simp at hc'
 ·have h1:=h.bl q hq
  have h2:=(World.ownsRow.lt h.rm q (Option.mem_toList.1 hm)).1
  omega
theorem RwI.pushN (h:RwI w wr bv hbs na nc Nx ns va vc row) {g cap:Nat} (hgrow:wr.grownBy w2 (.slice na Nx.length nc:Value).ownBlock) (ho:w2.ownsRow w.heap.size 37 1 (.slice (some ⟨g,0,none⟩) (Nx.length+1) cap) (Nx.length+1) (ns++[.slice va row.length vc])):RwI w w2 bv hbs (some ⟨g,0,none⟩) cap (Nx++[row]) (ns++[.slice va row.length vc]) none 0 []:=by
 have hlen:(Nx++[row]).length=Nx.length+1:=by simp
 have hno:∀ {B:Nat} {v:Value} {r:List Nat},NR wr B v r→∀ q,v.ownBlock=some q→q∉(Value.slice na Nx.length nc).ownBlock.toList:=fun {B v r} hv q hq hm=>by
  obtain ⟨cs,hc⟩:=own_tyT hv hq
  obtain ⟨cs',hc'⟩:=own_tyT h.no (Option.mem_toList.1 hm)
  rw [hc] at hc'
  simp at hc'
 exact ⟨by rw [hlen];exact ho,(h.nr.keep (Fr.ofGrown hgrow) (fun u hu q hq=>by
  obtain ⟨r,hr⟩:=h.nr.mem hu
  exact hno hr q hq)).snoc ((Fr.ofGrown hgrow).own h.rm (hno h.rm)),NR.nil _ _,SepS.nil _,(Fr.ofGrown hgrow).own h.bn (hno h.bn),h.bl⟩
end
section
variable {rs0 : List Rn} {U : List (List Nm)} {b gf : Nat} {w : World} {rs : List Rn} {wr w2 : World} {bv : Value} {sa : Option Addr} {sc : Nat} {St : List (List ByteArray)} {us : List Value} {ta : Option Addr} {tc : Nat} {T : List ByteArray} {rs1 rs2 : List Rn}
theorem FnI.grown (h:FnI rs0 U b gf w rs wr bv sa sc St us ta tc T rs1) {e z n:Nat} {v:Value} {xs:List Value} (ho:wr.ownsRow w.heap.size e z v n xs) (h1:e≠151) (h2:e≠102) (h3:e≠62) (h4:e≠60) (h5:e≠9) (hgrow:wr.grownBy w2 v.ownBlock):FnI rs0 U b gf w rs w2 bv sa sc St us ta tc T rs1:=by
 have hd:∀ {B e' z' n':Nat} {v':Value} {xs':List Value},wr.ownsRow B e' z' v' n' xs'→e≠e'→∀ q,v'.ownBlock=some q→q∉v.ownBlock.toList:=fun {B e' z' n' v' xs'} hv hne q hq hm=>by
  obtain ⟨cs,hc⟩:=own_tyT hv hq
  obtain ⟨cs',hc'⟩:=own_tyT ho (Option.mem_toList.1 hm)
  rw [hc] at hc'
  simp at hc'
  exact hne hc'.2.symm
 have f:=Fr.ofGrown hgrow
 exact ⟨h.fv.fr f (fun x hx=>.inr (ho.lt x (Option.mem_toList.1 hx)).1) h.hb h.ne,rts_fr h.rt f (noTree_own ho h1 h2),h.gr,h.ex,h.hb,h.hg,f.at h.im (fun hm=>own_off ho h.im h3 _ (Option.mem_toList.1 hm) rfl),f.own h.so (hd h.so h4),h.sr.keep f (fun u hu q hq=>by
  obtain ⟨X,hX⟩:=h.sr.mem hu
  exact hd hX h5 q hq),f.own h.tr (hd h.tr h5),h.sep,h.sets,h.tz⟩
end
theorem map_grow {rs0 rs1:List Rn} {U:List (List Nm)} (hg:GrowT rs0 rs1) {St:List (List ByteArray)} (hS:∀ X∈St,VSet rs0 rs1 U X) (x:List Rn):St.map (stB (rs1++x))=St.map (stB rs1):=List.map_congr_left fun X hX=>stB_app hg (hS X hX) x
section
variable {rsA : List Rn} {hbs : List Nat} {kd : Nat → Nat} {L : Lang} {st : List Lang} {e : Nat} {nx : List Nat} {A X : Lang} {k : Nat}
theorem found_X (h:FoundI hbs.length hbs L st e nx) (he:st[e / hbs.length]?=some A) (hX:X=derL (hbs.getD (e % hbs.length) 0) A) (hc:hbs.getD (e % hbs.length) 0 < 256):∃ u,bytesOk u∧EqB X (derS u L):=by
 obtain ⟨u,u1,u2⟩:=h.reach _ A he
 exact ⟨u++[hbs.getD (e % hbs.length) 0],bytesOk_snoc u1 hc,by rw [derS_snoc,hX];exact u2.der hc⟩
theorem found_old (hs:Sorted 256 (alkB rsA) hbs kd) (hL:SameA rsA L) (h:FoundI hbs.length hbs L st e nx) (hM:0 < hbs.length) (he:st[e / hbs.length]?=some A) (hX:X=derL (hbs.getD (e % hbs.length) 0) A) {Y:Lang} (hY:st[k]?=some Y) (hYX:∀ x,(∀ c∈x,c∈hbs)→(Y x↔X x)):FoundI hbs.length hbs L st (e+1) (nx++[k]):=by
 have hc:=(hs.head (e % hbs.length) (Nat.mod_lt _ hM)).1
 obtain ⟨u,-,u2⟩:=found_X h he hX hc
 obtain ⟨v,-,v2⟩:=h.reach k Y hY
 refine h.old hM he hY ?_
 rw [←hX]
 exact eqb_reps hs hL v2 u2 hYX
theorem found_new (hs:Sorted 256 (alkB rsA) hbs kd) (h:FoundI hbs.length hbs L st e nx) (hM:0 < hbs.length) (he:st[e / hbs.length]?=some A) (hX:X=derL (hbs.getD (e % hbs.length) 0) A) (hno:∀ Y∈st,∃ s,Tells s Y X):FoundI hbs.length hbs L (st++[X]) (e+1) (nx++[st.length]):=by
 have hc:=(hs.head (e % hbs.length) (Nat.mod_lt _ hM)).1
 refine h.new hM he (by rw [hX];exact EqB.refl _) hc (fun i C hC hE=>?_)
 obtain ⟨s,hs'⟩:=hno C (List.mem_of_getElem? hC)
 exact hs' (hE (bytesN s++[]) (by rw [List.append_nil];exact bytesOk_bytesN s))
end
theorem div_at {M n r:Nat} (hr:r < M):(n * M+r) / M=n∧(n * M+r) % M=r:=by
 constructor
 ·rw [Nat.mul_comm,Nat.mul_add_div (by omega),Nat.div_eq_of_lt hr,Nat.add_zero]
 ·rw [Nat.mul_comm,Nat.mul_add_mod,Nat.mod_eq_of_lt hr]
end Mc
end Go.Proofs.YtobfpgoepaeknaaGreat
namespace Go.Proofs.YtobfpgoepaeknaaGreat
namespace Mc
open Go.RowKit
attribute [local go_sem ↓] Go.wp_at_zero Go.wp_at_succ
structure SsI (rs0:List Rn) (U:List (List Nm)) (b gf:Nat) (w:World) (rs:List Rn) (L:Lang) (hbs:List Nat) (bv:Value) (wr:World) (sa:Option Addr) (sc:Nat) (St:List (List ByteArray)) (us:List Value) (ta:Option Addr) (tc:Nat) (T:List ByteArray) (rs1:List Rn) (na:Option Addr) (nc:Nat) (Nx:List (List Nat)) (ns:List Value) (va:Option Addr) (vc:Nat) (row:List Nat):Prop where
 fn:FnI rs0 U b gf w rs wr bv sa sc St us ta tc T rs1
 rx:RwI w wr bv hbs na nc Nx ns va vc row
 fd:FoundI hbs.length hbs L (St.map (stB rs1)) (Nx.length * hbs.length+row.length) (Nx.flatten++row)
 len:∀ r∈Nx,r.length=hbs.length
 few:St.length≤24
 tl:T.length≤24 * (Nx.length * hbs.length+row.length)
section
variable {rs0 : List Rn} {U : List (List Nm)} {b gf : Nat} {w : World} {rs : List Rn} {L : Lang} {hbs : List Nat} {bv : Value} {wr w2 : World} {sa : Option Addr} {sc : Nat} {St : List (List ByteArray)} {us : List Value} {ta : Option Addr} {tc : Nat} {T : List ByteArray} {rs1 rs2 : List Rn} {na : Option Addr} {nc : Nat} {Nx : List (List Nat)} {ns : List Value} {va : Option Addr} {vc : Nat} {row : List Nat}
theorem SsI.next (h:SsI rs0 U b gf w rs L hbs bv wr sa sc St us ta tc T rs1 na nc Nx ns va vc row) (k:TrK rs0 b wr rs1 w2 rs2):SsI rs0 U b gf w rs L hbs bv w2 sa sc St us ta tc T rs2 na nc Nx ns va vc row:=by
 refine ⟨h.fn.next k,h.rx.kp (KpN.fy k.fy h.fn.rt),?_,h.len,h.few,h.tl⟩
 obtain ⟨x,hx⟩:=k.ex
 rw [hx,map_grow h.fn.gr h.fn.sets x]
 exact h.fd
theorem SsI.below (h:SsI rs0 U b gf w rs L hbs bv wr sa sc St us ta tc T rs1 na nc Nx ns va vc row) (k:Below wr.heap.size wr w2):SsI rs0 U b gf w rs L hbs bv w2 sa sc St us ta tc T rs1 na nc Nx ns va vc row:=h.next ((TrK.refl h.fn.rt h.fn.gr).below k)
theorem SsI.nl (h:SsI rs0 U b gf w rs L hbs bv wr sa sc St us ta tc T rs1 na nc Nx ns va vc row) (hM:0 < hbs.length):Nx.length≤St.length:=by
 have h1:=h.fd.rows
 rw [List.length_map] at h1
 have:Nx.length≤(Nx.length * hbs.length+row.length) / hbs.length:=by
  rw [Nat.le_div_iff_mul_le hM];omega
 omega
theorem SsI.tn (h:SsI rs0 U b gf w rs L hbs bv wr sa sc St us ta tc T rs1 na nc Nx ns va vc row) (hM:0 < hbs.length) (hl:hbs.length≤256) (hr:row.length≤hbs.length):T.length≤900000:=by
 have h1:=h.nl hM
 have h2:=h.few
 have h3:=h.tl
 have h4:Nx.length * hbs.length≤24 * 256:=Nat.mul_le_mul (by omega) hl
 omega
theorem SsI.found {rsA:List Rn} {kd:Nat→Nat} (hs:Sorted 256 (alkB rsA) hbs kd) (hL:SameA rsA L) (h:SsI rs0 U b gf w rs L hbs bv wr sa sc St us ta tc T rs1 na nc Nx ns va vc row) (hr:row.length < hbs.length) {Y:List ByteArray} (hY:St[Nx.length]?=some Y) {u:Value} {X:List ByteArray} (hX:stB rs1 X=derL (hbs.getD row.length 0) (stB rs1 Y)) (hvX:VSet rs0 rs1 U X) {e:Ending} (hS:StA rs0 U b gf w rs wr bv St us T.length rs1 u X hbs e w2) :
  ∃ (k:Nat) (sa':Option Addr) (sc':Nat) (St':List (List ByteArray)) (us':List Value) (ta':Option Addr) (tc':Nat) (T':List ByteArray) (rs2:List Rn),e=.returned (.int .i64 (k:Int))∧FnI rs0 U b gf w rs w2 bv sa' sc' St' us' ta' tc' T' rs2∧RwI w w2 bv hbs na nc Nx ns va vc row∧FoundI hbs.length hbs L (St'.map (stB rs2)) (Nx.length * hbs.length+row.length+1) (Nx.flatten++row++[k])∧St'.length≤25∧Nx.length < St'.length∧T'.length≤24 * (Nx.length * hbs.length+row.length+1):=by
 obtain ⟨k,sa',sc',St',us',ta',tc',T',rs2,he,hfn,⟨x,hx⟩,hkp,htl,hc⟩:=hS
 have hM:0 < hbs.length:=by omega
 obtain ⟨d1,d2⟩:=div_at (n:=Nx.length) hr
 have hst:(St.map (stB rs1))[(Nx.length * hbs.length+row.length) / hbs.length]?=some (stB rs1 Y):=by rw [d1,List.getElem?_map,hY];rfl
 have hX':stB rs1 X=derL (hbs.getD ((Nx.length * hbs.length+row.length) % hbs.length) 0) (stB rs1 Y):=by rw [d2];exact hX
 have hTl:T'.length≤24 * (Nx.length * hbs.length+row.length+1):=by have:=h.tl;have:=h.few;omega
 have hnl:=get_lt hY
 have hfew:=h.few
 rcases hc with ⟨rfl,rfl,Y',hY',hsame⟩ | ⟨rfl,rfl,rfl,hno⟩
 ·refine ⟨k,sa',sc',St',us',ta',tc',T',rs2,he,hfn,h.rx.kp hkp,?_,by omega,hnl,hTl⟩
  rw [hx,map_grow h.fn.gr h.fn.sets x]
  exact found_old hs hL h.fd hM hst hX' (Y:=stB rs1 Y') (by rw [List.getElem?_map,hY'];rfl) hsame
 ·refine ⟨St.length,sa',sc',St++[X],us++[u],ta',tc',T',rs2,he,hfn,h.rx.kp hkp,?_,by simp;omega,by simp;omega,hTl⟩
  rw [hx,map_grow h.fn.gr (fun Z hZ=>by
   rcases List.mem_append.1 hZ with hZ | hZ
   ·exact h.fn.sets Z hZ
   ·rw [List.mem_singleton.1 hZ];exact hvX) x,List.map_append]
  have:=found_new hs h.fd hM hst hX' (fun Z hZ=>by
   obtain ⟨Z',hZ',rfl⟩:=List.mem_map.1 hZ
   exact hno Z' hZ')
  rw [List.length_map] at this
  exact this
theorem onj_base {v:Value} {Y:List ByteArray} {Ln:Lang} {n:Nat} (h:OnJ rs0 U b (wr.drewN n) rs1 w2 v Y rs2 Ln):OnJ rs0 U b wr rs1 w2 v Y rs2 Ln:=⟨on_base h.toOnI,h.new⟩
theorem SsI.pushR {k:Nat} (hfn:FnI rs0 U b gf w rs wr bv sa sc St us ta tc T rs1) (hrx:RwI w wr bv hbs na nc Nx ns va vc row) (hfd:FoundI hbs.length hbs L (St.map (stB rs1)) (Nx.length * hbs.length+row.length+1) (Nx.flatten++row++[k])) (hl:∀ r∈Nx,r.length=hbs.length) (hf:St.length≤24) (ht:T.length≤24 * (Nx.length * hbs.length+row.length+1)) {g cap:Nat} (hgrow:wr.grownBy w2 (.slice va row.length vc:Value).ownBlock) (ho:w2.ownsRow w.heap.size 3 1 (.slice (some ⟨g,0,none⟩) (row.length+1) cap) (row.length+1) (ncs row++[.int .i64 (k:Int)])) (hlies:(Value.slice va row.length vc).ownBlock=some g∨g=wr.heap.size) :
  SsI rs0 U b gf w rs L hbs bv w2 sa sc St us ta tc T rs1 na nc Nx ns (some ⟨g,0,none⟩) cap (row++[k]):=by
 have hlen:(row++[k]).length=row.length+1:=by simp
 refine ⟨hfn.grown hrx.rm (by decide) (by decide) (by decide) (by decide) (by decide) hgrow,hrx.pushR hgrow ho hlies,?_,hl,hf,by rw [hlen];omega⟩
 rw [hlen,←Nat.add_assoc,←List.append_assoc]
 exact hfd
theorem SsI.pushN (h:SsI rs0 U b gf w rs L hbs bv wr sa sc St us ta tc T rs1 na nc Nx ns va vc row) (hr:row.length=hbs.length) {g cap:Nat} (hgrow:wr.grownBy w2 (.slice na Nx.length nc:Value).ownBlock) (ho:w2.ownsRow w.heap.size 37 1 (.slice (some ⟨g,0,none⟩) (Nx.length+1) cap) (Nx.length+1) (ns++[.slice va row.length vc])) :
  SsI rs0 U b gf w rs L hbs bv w2 sa sc St us ta tc T rs1 (some ⟨g,0,none⟩) cap (Nx++[row]) (ns++[.slice va row.length vc]) none 0 []:=by
 have hlen:(Nx++[row]).length=Nx.length+1:=by simp
 have hm:(Nx.length+1) * hbs.length=Nx.length * hbs.length+row.length:=by rw [Nat.add_mul,hr];omega
 refine ⟨h.fn.grown h.rx.no (by decide) (by decide) (by decide) (by decide) (by decide) hgrow,h.rx.pushN hgrow ho,?_,fun r hr'=>?_,h.few,?_⟩
 ·rw [hlen,hm,List.flatten_append]
  simp only [List.length_nil,Nat.add_zero,List.append_nil,List.flatten_cons,List.flatten_nil]
  exact h.fd
 ·rcases List.mem_append.1 hr' with hr' | hr'
  ·exact h.len r hr'
  ·rw [List.mem_singleton.1 hr'];exact hr
 ·rw [hlen,hm];have:=h.tl;simpa using this
end
def SsA (rs0:List Rn) (U:List (List Nm)) (b gf:Nat) (w:World) (rs:List Rn) (L:Lang) (hbs:List Nat) (bv:Value) (e:Ending) (w':World):Prop :=
 (Fv b gf w w'∧ManyStates L∧e=.returned (.tuple #[.slice none 0 0,.bool false]))∨∃ (sa:Option Addr) (sc:Nat) (St:List (List ByteArray)) (us:List Value) (ta:Option Addr) (tc:Nat) (T:List ByteArray) (rs1:List Rn) (na:Option Addr) (nc:Nat) (Nx:List (List Nat)) (ns:List Value),e=.returned (.tuple #[.slice na Nx.length nc,.bool true])∧Nx.length=St.length∧SsI rs0 U b gf w rs L hbs bv w' sa sc St us ta tc T rs1 na nc Nx ns none 0 []
set_option maxRecDepth 20000 in
set_option maxHeartbeats 8000000 in
theorem states_any {rs0:List Rn} {U:List (List Nm)} (hT:TrC rs0 U) {b gf:Nat} (w:World) (rs:List Rn) (bv:Value) (hI:FnI rs0 U b gf w rs w bv none 0 [] [] none 0 [] rs) (hbs:List Nat) (B3:Nat) (hn:NR w B3 bv hbs) {rsA:List Rn} {kd:Nat→Nat} (hs:Sorted 256 (alkB rsA) hbs kd) (hbl:hbs.length≤256) {L:Lang} (hL:SameA rsA L) (root:Nat) (hr:root < 256) (hX0:VSet rs0 rs U [oneB root]) (hL0:EqB (stB rs [oneB root]) L) :
  Calls Tryz.prog 24 #[.pointer (some ⟨gf,0,none⟩),.int .i64 (root:Int)] w fun e w'=>SsA rs0 U b gf w rs L hbs bv e w':=by
 obtain ⟨ba,bc,rfl⟩:=hn.form
 have hMI:(hbs.length:Int)≤256:=by omega
 have HT:=hide hT
 have HN:=hide hn
 have HS:=hide hs
 have HBL:=hide hbl
 have HL:=hide hL
 have H256:Hid (∀ x∈hbs,x < 256):=fun x hx=>by
  obtain ⟨k,hk,rfl⟩:=List.getElem_of_mem hx
  have:=(hs.head k hk).1
  rwa [List.getD_eq_getElem?_getD,List.getElem?_eq_getElem hk] at this
 have HM:Hid (0 < hbs.length):=(hs.zero (by omega)).1
 have c2:w.cell? ⟨gf,2,none⟩=some (.slice none 0 0):=hI.c2
 have hgf:=hI.lt
 have hBX:Below w.heap.size w (((w.alloc (.cells #[.int .u8 (root:Int)] 5)).alloc (.cells #[.string (oneB root)] 9)).alloc (.cells #[.slice (some ⟨w.heap.size+1,0,none⟩) 1 1] 60)).drew:=((((Below.refl _ _).alloc (Nat.le_refl _) _).alloc (by simp) _).alloc (by simp;omega) _).drew
 have hXN:(((w.alloc (.cells #[.int .u8 (root:Int)] 5)).alloc (.cells #[.string (oneB root)] 9)).alloc (.cells #[.slice (some ⟨w.heap.size+1,0,none⟩) 1 1] 60)).drew.heap[w.heap.size+1]?=some (.cells #[.string (oneB root)] 9 (0,0)):=by
  show ((((w.alloc (.cells #[.int .u8 (root:Int)] 5)).alloc (.cells #[.string (oneB root)] 9)).alloc (.cells #[.slice (some ⟨w.heap.size+1,0,none⟩) 1 1] 60))).heap[w.heap.size+1]?=_
  rw [Below.heap_alloc _ _ _ (by simp)]
  have:=heap_alloc_new (w.alloc (.cells #[.int .u8 (root:Int)] 5)) (.cells #[.string (oneB root)] 9)
  simpa using this
 have hXU:SRow (((w.alloc (.cells #[.int .u8 (root:Int)] 5)).alloc (.cells #[.string (oneB root)] 9)).alloc (.cells #[.slice (some ⟨w.heap.size+1,0,none⟩) 1 1] 60)).drew 0 (.slice (some ⟨w.heap.size+1,0,none⟩) 1 1) [oneB root]:=⟨rfl,.inr ⟨_,1,_,rfl,Nat.zero_le _,hXN,Nat.le_refl _,by unfold maxLen;omega,rfl,rfl⟩⟩
 have HXU:=hide hXU
 have d1:(w.alloc (.cells #[.int .u8 (root:Int)] 5)).cell? ⟨gf,2,none⟩=some (.slice none 0 0):=(hI.below ((Below.refl _ _).alloc (Nat.le_refl _) _)).c2
 have d2:((w.alloc (.cells #[.int .u8 (root:Int)] 5)).alloc (.cells #[.string (oneB root)] 9)).cell? ⟨gf,2,none⟩=some (.slice none 0 0):=(hI.below (((Below.refl _ _).alloc (Nat.le_refl _) _).alloc (by simp) _)).c2
 have d3:(((w.alloc (.cells #[.int .u8 (root:Int)] 5)).alloc (.cells #[.string (oneB root)] 9)).alloc (.cells #[.slice (some ⟨w.heap.size+1,0,none⟩) 1 1] 60)).cell? ⟨gf,2,none⟩=some (.slice none 0 0):=(hI.below ((((Below.refl _ _).alloc (Nat.le_refl _) _).alloc (by simp) _).alloc (by simp;omega) _)).c2
 have HXI:=hide (hI.below hBX)
 have HFD:Hid (FoundI hbs.length hbs L ([[oneB root]].map (stB rs)) (([]:List (List Nat)).length * hbs.length+([]:List Nat).length) (([]:List (List Nat)).flatten++[])):=by
  show FoundI _ _ _ _ (0 * hbs.length+0) _
  rw [Nat.zero_mul]
  exact FoundI.start _ hL0
 have HX0:=hide hX0
 have hcv:=conv_cell (w.alloc (.cells #[.int .u8 (root:Int)] 5)) w.heap.size root hr (new_cell rfl)
 have hcv':=conv_cell (w.alloc (.cells #[.int .u8 (root:Int)] 5)).drew w.heap.size root hr (new_cell rfl)
 have hwr:IntKind.u8.wrap (root:Int)=(root:Int):=by unfold IntKind.wrap;simp [IntKind.bits,IntKind.signed];omega
 have hrI:(root:Int) < 256:=by omega
 have HRW:Hid (∀ w8 x,((((w.alloc (.cells #[.int .u8 (root:Int)] 5)).alloc (.cells #[.string (oneB root)] 9)).alloc (.cells #[.slice (some ⟨w.heap.size+1,0,none⟩) 1 1] 60)).drew).grownBy w8 (.slice none 0 0:Value).ownBlock→RwI w (w8.setCell ⟨gf,2,none⟩ x) (.slice ba hbs.length bc) hbs none 0 [] [] none 0 []):=fun w8 x hgrow=>by
  have g2:w8.heap[gf]?=_:=(Fr.ofGrown hgrow).at (hI.below hBX).im (by simp [Value.ownBlock])
  exact RwI.start hn (((KpN.below hBX).trans (KpN.fr (Fr.ofGrown hgrow) (fun q hq=>by simp [Value.ownBlock] at hq))).trans (KpN.fr (Fr.ofSet _ _ _ _) (noInt_one g2 (by decide) (by decide))))
 clear hT hI hn hs hbl hL hX0 hL0 hBX hXN hXU
 go_enter Tryz.func24,Tryz.ntmps24
 go_wp2_with fail
 go_cut [] (fun wx=>∃ (sa:Option Addr) (sc:Nat) (us:List Value),Hid (SsI rs0 U b gf w rs L hbs (.slice ba hbs.length bc) wx sa sc [[oneB root]] us none 0 [] rs none 0 [] [] none 0 []))
 case first =>
  have HOB:Hid ((oneB root).size=1):=rfl
  generalize hob:oneB root=ob at *
  go_region_law (refine appSlR (by rfl) _ _ (by rfl) w.heap.size _ 0 [] (by rfl) (by exact (unhide HXI).so) (w.heap.size+2) (.slice (some ⟨w.heap.size+1,0,none⟩) 1 1) rfl (by rfl) (by exact new_cell (by simp)) (by omega) (by simp;omega) (w.heap.size+3) (by simp) ?_;intro g5 cap5 w8 ho hgrow hlies hlt5;obtain ⟨y1,z1,hg8,hP⟩:=(unhide HXI).pushS (unhide HXU) (unhide HX0) (by intro q hq;simp [Value.ownBlock]) hgrow ho;have HP9:=hide hP;have HR9:=hide (unhide HRW w8 (.slice (some ⟨g5,0,none⟩) 1 cap5) hgrow);clear ho hgrow hlies hP)
  all_goals
   go_wp2_with fail
   go_meet
   exact ⟨_,_,_,unhide HP9,unhide HR9,unhide HFD,(fun r hr=>by cases hr),by simp,by simp⟩
 case rest =>
  rename World=>w1
  obtain ⟨sa1,sc1,us1,H1⟩:=hcut
  clear HXU HXI HFD HX0 hcv hcv' hwr hrI HRW c2 hgf d1 d2 d3
  go_wp2_with fail
  go_loopw [6,7] (fun vx ix wr=>∃ (sa:Option Addr) (sc:Nat) (St:List (List ByteArray)) (us:List Value) (ta:Option Addr) (tc:Nat) (T:List ByteArray) (rs1:List Rn) (na:Option Addr) (nc:Nat) (Nx:List (List Nat)) (ns:List Value),vx=.slice na Nx.length nc∧ix=.int .i64 (Nx.length:Int)∧Hid (SsI rs0 U b gf w rs L hbs (.slice ba hbs.length bc) wr sa sc St us ta tc T rs1 na nc Nx ns none 0 [])) (fun _ ix _=>24 - (intOf ix).toNat)
  case atStart=>exact ⟨sa1,sc1,_,us1,none,0,[],rs,none,0,[],[],rfl,rfl,unhide H1⟩
  case round =>
   clear H1
   rename World=>wr
   obtain ⟨sa,sc,St,us,ta,tc,T,rs1,na,nc,Nx,ns,rfl,rfl,HH⟩:=hrel
   have hI:=unhide HH
   clear HH
   have f2:=hI.fn.c2
   have hgf:=hI.fn.lt
   have hSI:(St.length:Int)≤24:=by have:=hI.few;omega
   have hnl:=hI.nl (unhide HM)
   by_cases hlt:Nx.length < St.length
   ·have hiI:(Nx.length:Int) < (St.length:Int):=by omega
    have HI:=hide hI
    have HLT:=hide hlt
    clear hI hlt hnl
    go_wp2_with fail
    go_loopw [8,9] (fun vx jx wr=>∃ (sa:Option Addr) (sc:Nat) (St:List (List ByteArray)) (us:List Value) (ta:Option Addr) (tc:Nat) (T:List ByteArray) (rs1:List Rn) (va:Option Addr) (vc:Nat) (row:List Nat),vx=.slice va row.length vc∧jx=.int .i64 (row.length:Int)∧Hid (row.length≤hbs.length∧Nx.length < St.length∧SsI rs0 U b gf w rs L hbs (.slice ba hbs.length bc) wr sa sc St us ta tc T rs1 na nc Nx ns va vc row)) (fun _ jx _=>hbs.length - (intOf jx).toNat)
    case atStart=>exact ⟨sa,sc,St,us,ta,tc,T,rs1,none,0,[],rfl,rfl,Nat.zero_le _,unhide HLT,unhide HI⟩
    case round =>
     clear HI HLT f2 hgf hSI hiI
     rename World=>wy
     obtain ⟨sa,sc,St,us,ta,tc,T,rs1,va,vc,row,rfl,rfl,HH⟩:=hrel
     obtain ⟨hrl,hnl,hI⟩:=unhide HH
     clear HH
     have f0:=hI.fn.c0
     have f1:=hI.fn.c1
     have f2:=hI.fn.c2
     have hgf:=hI.fn.lt
     have hSI:(St.length:Int)≤24:=by have:=hI.few;omega
     by_cases hlt:row.length < hbs.length
     ·have hjI:(row.length:Int) < (hbs.length:Int):=by omega
      have hiI:(Nx.length:Int) < (St.length:Int):=by omega
      have hi0:(0:Int)≤(Nx.length:Int):=by omega
      have hi1:((Nx.length:Int)).toNat=Nx.length:=by omega
      have hj0:(0:Int)≤(row.length:Int):=by omega
      have hj1:((row.length:Int)).toNat=row.length:=by omega
      obtain ⟨Y,hY⟩:∃ Y,St[Nx.length]?=some Y:=⟨_,List.getElem?_eq_getElem hnl⟩
      obtain ⟨g,y,rfl,hgl,hcy,hry⟩:=hI.fn.at hY
      obtain ⟨gn,cn,he,ch⟩:=hI.rx.bn.at hlt
      simp only [Value.slice.injEq,true_and] at he
      obtain ⟨rfl,rfl⟩:=he
      have hgn:gn < wy.heap.size:=World.block_lt_of_cell? wy ⟨gn,row.length,none⟩ ch
      have hc256:hbs.getD row.length 0 < 256:=((unhide HS).head _ hlt).1
      have hvY:=hI.fn.sets Y (List.mem_of_getElem? hY)
      have HON:=hide (fun n=>on_j (b:=b) (unhide HT) hc256 (wy.drewN n) rs1 (RtS_below hI.fn.rt (below_drewN (Below.refl _ _) n)) hI.fn.gr 0 y Y (show SRow wy 0 y Y from hry) hvY)
      obtain ⟨ya,yc,rfl⟩:=hry.form
      have HI:=hide hI
      have HY:=hide hY
      have HLT:=hide hlt
      have HVY:=hide hvY
      clear hI hlt hnl hrl hY hry hvY
      generalize hcc:hbs.getD row.length 0=c at *
      have HCC:=hide hcc
      clear hcc hc256
      go_upto_region 10 with fail
      go_cut [10] from 35 to 75 (fun cx wx=>∃ (ca:Option Addr) (cn cc:Nat) (C:List ByteArray) (rs2:List Rn),cx=.slice ca cn cc∧Hid (OnJ rs0 U b wy rs1 wx (.slice ca cn cc) C rs2 (derL c (stB rs1 Y))))
      case first =>
       go_region_with (go_at_call 44;refine (unhide HON _).mono ?_;rintro e w3 ⟨v3,C,rs2,rfl,h3⟩;have h4:=onj_base h3;obtain ⟨ca,cc,rfl⟩:=h4.row.form;have HC4:=hide h4;clear h3 h4)
       all_goals
        go_wp2_with fail
        go_meet
        exact ⟨ca,_,cc,C,rs2,rfl,unhide HC4⟩
      case rest =>
       rename World=>w3
       obtain ⟨ca,cn,cc,C,rs2,rfl,HC3⟩:=hcut
       have hC:=unhide HC3
       have hI3:=(unhide HI).next hC.trk
       have HSA:=hide (state_any (unhide HT) w rs w3 _ _ _ _ _ _ _ _ _ hI3.fn (.slice ca cn cc) C hC.row (fun q hq=>fun e=>by
        have h1:=hC.new q hq
        have h2:=(World.ownsRow.lt (unhide HI).fn.tr q e).2
        omega) hC.vs 0 hbs hI3.rx.bn (unhide H256) (unhide HBL) (by have:=hI3.few;omega) (hI3.tn (unhide HM) (unhide HBL) (Nat.le_of_lt (unhide HLT))))
       have HEX:Hid (stB rs2 C=derL (hbs.getD row.length 0) (stB rs2 Y)):=by
        show _=_
        rw [hC.eq,unhide HCC,(hC.trk.set (unhide HI).fn.gr (unhide HVY)).2]
       have HI3:=hide hI3
       have HVC:=hide hC.vs
       clear HC3 hC hI3 HI HON f0 f1 f2 hgf hSI hiI hcy hgl ch hgn
       go_wp2_with fail
       refine (unhide HSA).mono ?_
       rintro e w4 hsa
       obtain ⟨k,sa',sc',St',us',ta',tc',T',rs3,rfl,hfn,hrx,hfd,h25,hnl4,htl⟩:=(unhide HI3).found (unhide HS) (unhide HL) (unhide HLT) (unhide HY) (unhide HEX) (unhide HVC) hsa
       have e2:=hfn.c2
       have hgf4:=hfn.lt
       have HLEN:=hide (unhide HI3).len
       clear hsa HSA HI3 HEX HVC
       by_cases h24:St'.length≤24
       ·have hSI:(St'.length:Int)≤24:=by omega
        have HFN:=hide (hfn.below ((Below.refl _ _).alloc (Nat.le_refl _) (.cells #[.int .i64 (k:Int)] 3)))
        have HRX:=hide (hrx.kp (KpN.below ((Below.refl _ _).alloc (Nat.le_refl _) (.cells #[.int .i64 (k:Int)] 3))))
        have HFD:=hide hfd
        have H24:=hide h24
        have HTL:=hide htl
        have HNL4:=hide hnl4
        have HWS:Hid (w.heap.size≤w4.heap.size):=hfn.fv.size
        clear hfn hrx hfd h24 h25 htl hnl4
        go_wp2_with (at_builtin;refine app1 rfl (.tmp 72) (.tmp 74) rfl w.heap.size _ row rfl (unhide HRX).rm w4.heap.size k rfl (new_cell rfl) (by have:=unhide HLT;have:=unhide HBL;omega) (by have:=unhide HWS;simp;omega) (w4.heap.size+1) (by simp) ?_;intro g5 cap5 w8 ho hgrow hlies hlt5;have HP9:=hide (SsI.pushR (unhide HFN) (unhide HRX) (unhide HFD) (unhide HLEN) (unhide H24) (unhide HTL) hgrow ho (hlies.elim Or.inl (fun e=>Or.inr (by rw [e];simp))));clear ho hgrow hlies)
        go_roundw
        case rel=>exact ⟨sa',sc',St',us',ta',tc',T',rs3,some ⟨g5,0,none⟩,cap5,row++[k],by simp,by first | (simp;done) | go_num,by rw [List.length_append];exact unhide HLT,unhide HNL4,unhide HP9⟩
        case measure=>have:=unhide HLT;simp [intOf];omega
       ·have hSI:¬(St'.length:Int)≤24:=by omega
        have hSJ:(24:Int) < (St'.length:Int):=by omega
        have HFV:=hide hfn.fv
        have HMY:Hid (ManyStates L):=hfd.many (by rw [List.length_map];omega)
        clear hfn hrx hfd h24 h25 htl hnl4
        go_wp2_with fail
        refine bodyPost_ret (v:=.tuple #[.slice none 0 0,.bool false]) (by simp [results,Tryz.results24,go_sem]) rfl ?_
        exact .inl ⟨unhide HFV,unhide HMY,rfl⟩
     ·have hj2:row.length=hbs.length:=by omega
      have hjI:¬(row.length:Int) < (hbs.length:Int):=by omega
      have HJ2:=hide hj2
      have HI:=hide hI
      have HXA:=hide (hI.below ((Below.refl _ _).alloc (Nat.le_refl _) (.cells #[.slice va row.length vc] 37)))
      have HWS:Hid (w.heap.size≤wy.heap.size):=hI.fn.fv.size
      have HN24:Hid (Nx.length < 24):=by have:=hI.few;show _ < _;omega
      have hN24:(Nx.length:Int) < 24:=by have:=hI.few;omega
      clear hI hlt hnl hrl hj2
      go_wp2_with (at_builtin;refine appNn rfl (.tmp 76) (.tmp 78) rfl w.heap.size _ Nx.length ns rfl (unhide HXA).rx.no wy.heap.size _ rfl rfl (new_cell rfl) (by have:=unhide HN24;omega) (by have:=unhide HWS;simp;omega) (wy.heap.size+1) (by simp) ?_;intro g5 cap5 w8 ho hgrow hlies hlt5;have HP9:=hide ((unhide HXA).pushN (unhide HJ2) hgrow ho);clear ho hgrow hlies)
      go_roundw
      case rel=>exact ⟨sa,sc,St,us,ta,tc,T,rs1,some ⟨g5,0,none⟩,cap5,Nx++[row],_,by simp,by first | (simp;done) | go_num,unhide HP9⟩
      case measure=>have:=unhide HN24;simp [intOf];omega
   ·have hi2:Nx.length=St.length:=by omega
    have hiI:¬(Nx.length:Int) < (St.length:Int):=by omega
    have HI:=hide hI
    have HI2:=hide hi2
    clear hI hlt hnl hi2
    go_wp2_with fail
    refine bodyPost_ret (v:=.tuple #[.slice na Nx.length nc,.bool true]) (by simp [results,Tryz.results24,go_sem]) rfl ?_
    exact .inr ⟨sa,sc,St,us,ta,tc,T,rs1,na,nc,Nx,ns,rfl,unhide HI2,unhide HI⟩
end Mc
end Go.Proofs.YtobfpgoepaeknaaGreat
namespace Go.Proofs.YtobfpgoepaeknaaGreat
open Go.RowKit
def top:Nat:=1152921504606846976
theorem ofInt_i64 (a:Nat) (ha:a < top):(BitVec.ofInt 64 (a:Int)).toNat=a:=by
 unfold top at ha
 rw [BitVec.ofInt_natCast,BitVec.toNat_ofNat];exact Nat.mod_eq_of_lt (by omega)
theorem wrap_i64 (a:Nat) (ha:a < top):IntKind.i64.wrap (a:Int)=(a:Int):=by
 unfold top at ha
 unfold IntKind.wrap
 simp only [IntKind.bits,IntKind.signed]
 have h1:(a:Int) % (2 ^ 64:Int)=a:=Int.emod_eq_of_lt (by omega) (by omega)
 simp only [h1]
 rw [if_neg (by simp;omega)]
theorem i64_and_nat (a b:Nat) (ha:a < top) (hb:b < top):bits .and .i64 (a:Int) (b:Int)=((a &&& b:Nat):Int):=by
 have hx:a &&& b < top:=Nat.lt_of_le_of_lt Nat.and_le_left ha
 show IntKind.i64.wrap ((BitVec.ofInt 64 (a:Int) &&& BitVec.ofInt 64 (b:Int)).toNat:Int)=_
 rw [BitVec.toNat_and,ofInt_i64 a ha,ofInt_i64 b hb,wrap_i64 _ hx]
theorem i64_or_nat (a b:Nat) (ha:a < top) (hb:b < top):bits .or .i64 (a:Int) (b:Int)=((a ||| b:Nat):Int):=by
 have hx:a ||| b < top:=Nat.or_lt_two_pow (n:=60) ha hb
 show IntKind.i64.wrap ((BitVec.ofInt 64 (a:Int) ||| BitVec.ofInt 64 (b:Int)).toNat:Int)=_
 rw [BitVec.toNat_or,ofInt_i64 a ha,ofInt_i64 b hb,wrap_i64 _ hx]
theorem wrap64_nat (a:Nat) (ha:a < top):wrap64 (a:Int)=(a:Int):=by unfold top at ha;unfold wrap64;omega
theorem cast_move (x k:Nat):((x * 2 ^ k:Nat):Int)=(x:Int) * 2 ^ k:=by simp
set_option maxHeartbeats 400000 in
theorem move_any (x k:Nat) (w:World) (hk:k≤60) (hx:x * 2 ^ k < top) :
  Calls Tryz.prog 64 #[.int .i64 (x:Int),.int .i64 (k:Int)] w fun e w'=>e=.returned (.int .i64 ((x * 2 ^ k:Nat):Int))∧w'=w:=by
 have HW:=hide (wrap64_nat _ hx)
 have hk':(k:Int)≤60:=by omega
 clear hx
 go_enter Tryz.func64,Tryz.ntmps64
 go_wp2
 go_ret
 exact ⟨ret_int (by rw [←unhide HW,cast_move]),rfl⟩
theorem pow_top {k:Nat} (hk:k < 60):2 ^ k < top:=Nat.pow_lt_pow_right (a:=2) (m:=k) (n:=60) (by omega) hk
theorem bit_and (x k:Nat):((2 ^ k &&& x:Nat):Int)≠0↔x.testBit k=true:=by
 have h:2 ^ k &&& x≠0↔x.testBit k=true:=by
  rw [and_ne_zero]
  constructor
  ·rintro ⟨i,h1,h2⟩;rw [bit_two] at h1;subst h1;exact h2
  ·intro h;exact ⟨k,(bit_two k k).2 rfl,h⟩
 rw [←h];omega
set_option maxHeartbeats 400000 in
theorem has_any (x k:Nat) (w:World) (hk:k < 60) (hx:x < top) :
  Calls Tryz.prog 112 #[.int .i64 (x:Int),.int .i64 (k:Int)] w fun e w'=>e=.returned (.bool (x.testBit k))∧w'=w:=by
 have hm:=move_any 1 k w (Nat.le_of_lt hk) (by rw [Nat.one_mul];exact pow_top hk)
 rw [Nat.one_mul] at hm
 have HM:=hide hm
 have e1:=i64_and_nat (2 ^ k) x (pow_top hk) hx
 have HB:=hide (bit_and x k)
 clear hm hk hx
 generalize 2 ^ k=b at *
 go_enter Tryz.func112,Tryz.ntmps112
 go_wp2_with (go_at_call 64;refine (unhide HM).mono ?_;rintro e w' ⟨rfl,rfl⟩)
 go_ret
 exact ⟨ret_bool (by rw [Bool.eq_iff_iff,←unhide HB];simp),rfl⟩
def natCells (xs:List Nat):List Value:=xs.map fun n:Nat=>.int .i64 (n:Int)
def NRow (w:World) (B:Nat) (v:Value) (xs:List Nat):Prop:=w.ownsRow B 3 1 v xs.length (natCells xs)
def ZRow (w:World) (B:Nat) (v:Value) (zs:List Int):Prop:=w.ownsRow B 3 1 v zs.length (intCells zs)
def setOf (fs:List (Nat→Bool)) (z:Int):Nat→Bool:=if 0≤z then (fs[z.toNat]?).getD (fun _=>false) else fun _=>false
def PartAt (w:World) (v:Value) (fs:List (Nat→Bool)) (p:Part):Prop :=
 ∃ nv sv zs,v=.agg #[.bool p.empty,.int .i64 (p.first:Int),.int .i64 (p.last:Int),nv,sv]∧NRow w 0 nv p.next∧ZRow w 0 sv zs∧zs.map (setOf fs)=p.sets
theorem own_below {w w':World} {B e z:Nat} {v:Value} {n:Nat} {xs:List Value} (h:w.ownsRow B e z v n xs) (hb:Below w.heap.size w w'):w'.ownsRow B e z v n xs :=
 h.kept (grownBy_of_below hb none) (by cases v.ownBlock<;>simp)
theorem NRow.below {w w':World} {B:Nat} {v:Value} {xs:List Nat} (h:NRow w B v xs) (hb:Below w.heap.size w w'):NRow w' B v xs:=own_below h hb
theorem ZRow.below {w w':World} {B:Nat} {v:Value} {xs:List Int} (h:ZRow w B v xs) (hb:Below w.heap.size w w'):ZRow w' B v xs:=own_below h hb
theorem PartAt.below {w w':World} {v:Value} {fs:List (Nat→Bool)} {p:Part} (h:PartAt w v fs p) (hb:Below w.heap.size w w'):PartAt w' v fs p:=by
 obtain ⟨nv,sv,zs,h1,h2,h3,h4⟩:=h
 exact ⟨nv,sv,zs,h1,h2.below hb,h3.below hb,h4⟩
theorem NRow.zero {w:World} {B:Nat} {v:Value} {xs:List Nat} (h:NRow w B v xs):NRow w 0 v xs:=ownsRow_less h (Nat.zero_le _)
theorem ZRow.zero {w:World} {B:Nat} {v:Value} {xs:List Int} (h:ZRow w B v xs):ZRow w 0 v xs:=ownsRow_less h (Nat.zero_le _)
theorem NRow.form {w:World} {B:Nat} {v:Value} {xs:List Nat} (h:NRow w B v xs):(∃ a c,v=.slice a xs.length c):=by
 rcases h.2 with ⟨rfl,h0⟩ | ⟨g,cap,cur,rfl,_⟩
 ·exact ⟨none,0,by rw [h0]⟩
 ·exact ⟨_,_,rfl⟩
theorem ZRow.form {w:World} {B:Nat} {v:Value} {xs:List Int} (h:ZRow w B v xs):(∃ a c,v=.slice a xs.length c):=by
 rcases h.2 with ⟨rfl,h0⟩ | ⟨g,cap,cur,rfl,_⟩
 ·exact ⟨none,0,by rw [h0]⟩
 ·exact ⟨_,_,rfl⟩
theorem NRow.at {w:World} {B:Nat} {v:Value} {xs:List Nat} (h:NRow w B v xs) {k:Nat} (hk:k < xs.length):∃ g cap,v=.slice (some ⟨g,0,none⟩) xs.length cap∧w.cell? ⟨g,k,none⟩=some (.int .i64 ((xs.getD k 0:Nat):Int)):=by
 obtain ⟨m,hm⟩:∃ m,xs.length=m+1:=⟨xs.length - 1,by omega⟩
 have h':w.ownsRow B 3 1 v xs.length (natCells xs):=h
 obtain ⟨g,cap,rfl⟩:∃ g cap,v=.slice (some ⟨g,0,none⟩) xs.length cap:=by
  rw [hm] at h' ⊢;exact own_form h'
 refine ⟨g,cap,rfl,?_⟩
 have:=h'.cells (g:=g) rfl k (.int .i64 ((xs.getD k 0:Nat):Int)) (by simp [natCells,hk])
 have hadd:(⟨g,0,none⟩:Addr).add k=⟨g,k,none⟩:=by unfold Addr.add;split<;>simp_all
 rwa [hadd] at this
theorem ZRow.at {w:World} {B:Nat} {v:Value} {xs:List Int} (h:ZRow w B v xs) {k:Nat} (hk:k < xs.length):∃ g cap,v=.slice (some ⟨g,0,none⟩) xs.length cap∧w.cell? ⟨g,k,none⟩=some (.int .i64 (xs.getD k 0)):=by
 obtain ⟨m,hm⟩:∃ m,xs.length=m+1:=⟨xs.length - 1,by omega⟩
 have h':w.ownsRow B 3 1 v xs.length (intCells xs):=h
 obtain ⟨g,cap,rfl⟩:∃ g cap,v=.slice (some ⟨g,0,none⟩) xs.length cap:=by
  rw [hm] at h' ⊢;exact own_form h'
 refine ⟨g,cap,rfl,?_⟩
 have:=h'.cells (g:=g) rfl k (.int .i64 (xs.getD k 0)) (by simp [intCells,hk])
 have hadd:(⟨g,0,none⟩:Addr).add k=⟨g,k,none⟩:=by unfold Addr.add;split<;>simp_all
 rwa [hadd] at this
end Go.Proofs.YtobfpgoepaeknaaGreat
namespace Go.Proofs.YtobfpgoepaeknaaGreat
open Go.RowKit
theorem natCells_snoc (xs:List Nat) (x:Nat):natCells (xs++[x])=natCells xs++[.int .i64 (x:Int)]:=by simp [natCells]
theorem linkN_snoc (xs:List Nat) (f t:Nat) {k:Nat} (hk:k < xs.length):linkN (xs.take (k+1)) f t=linkN (xs.take k) f t++[if f.testBit k then xs.getD k 0 ||| t else xs.getD k 0]:=by
 have e:xs.take (k+1)=xs.take k++[xs.getD k 0]:=by
  rw [List.take_add_one,List.getD_eq_getElem?_getD,List.getElem?_eq_getElem hk];rfl
 rw [e]
 unfold linkN
 rw [List.mapIdx_concat,List.length_take,Nat.min_eq_left (Nat.le_of_lt hk)]
set_option maxHeartbeats 1000000 in
theorem link_any (w:World) (v:Value) (xs:List Nat) (f t:Nat) (h:NRow w 0 v xs) (hl:xs.length≤50) (hx:∀ x∈xs,x < top) (hf:f < top) (ht:t < top) :
  Calls Tryz.prog 111 #[v,.int .i64 (f:Int),.int .i64 (t:Int)] w fun e w'=>∃ v',e=.returned v'∧NRow w' w.heap.size v' (linkN xs f t)∧Below w.heap.size w w':=by
 obtain ⟨sa,sc,rfl⟩:=h.form
 obtain ⟨i,i0,i1,i2,i3⟩:=info_of info3
 have HI:=hide (And.intro i0 (And.intro i1 (And.intro i2 i3)))
 have H:=hide h
 have HX:=hide hx
 have HL:=hide hl
 have HF:=hide (And.intro hf ht)
 have hL:(xs.length:Int)≤50:=by omega
 clear i0 i1 i2 i3 h hx hl hf ht
 go_enter Tryz.func111,Tryz.ntmps111
 go_wp2
 go_loopw [7,8] (fun v ix wr=>∃ k g2 cap2:Nat,v=.slice (some ⟨g2,0,none⟩) k cap2∧ix=.int .i64 k∧k≤xs.length ∧
  Hid (wr.ownsRow w.heap.size 3 1 (.slice (some ⟨g2,0,none⟩) k cap2) k (natCells (linkN (xs.take k) f t))∧Below w.heap.size w wr)) (fun _ ix _=>xs.length - (intOf ix).toNat)
 case atStart =>
  refine ⟨0,w.heap.size,0,rfl,rfl,Nat.zero_le _,?_,?_⟩
  ·have:=World.ownsRow_made (base:=w.heap.size) (e:=3) (size:=1) w #[] 0 (by simp) (by simp) rfl
   simpa [natCells,linkN] using this
  ·exact (Below.refl _ _).alloc (Nat.le_refl _) _
 case round =>
  rename_i wr
  obtain ⟨k,g2,cap2,rfl,rfl,hk,HH⟩:=hrel
  by_cases hlt:k < xs.length
  ·obtain ⟨g,cap,he,hc⟩:=((unhide H).below (unhide HH).2).at hlt
   simp only [Value.slice.injEq,true_and] at he
   obtain ⟨rfl,rfl⟩:=he
   have hlt':(k:Int) < (xs.length:Int):=by omega
   have HS:=hide (linkN_snoc xs f t hlt)
   have hk50:k < 50:=by have:=unhide HL;omega
   have HK:=hide hk50
   have hxk:xs.getD k 0 < top:=by
    rw [List.getD_eq_getElem?_getD,List.getElem?_eq_getElem hlt];exact unhide HX _ (List.getElem_mem _)
   have HH2:=hide (fun w=>has_any f k w (by omega) (unhide HF).1)
   have e1:=i64_or_nat (xs.getD k 0) t hxk (unhide HF).2
   clear hlt hk50 hxk
   generalize xs.getD k 0=x at *
   by_cases hb:f.testBit k=true
   ·rw [hb] at HH2 HS
    rw [if_pos rfl] at HS
    clear hb
    generalize x ||| t=y at *
    have HO2:=hide ((unhide HH).1.alloc (Obj.cells #[.int .i64 (y:Int)] 3))
    have HB2:=hide ((unhide HH).2.alloc (unhide HH).2.size (Obj.cells #[.int .i64 (y:Int)] 3))
    go_wp2_with (first
     | (go_at_call 112;refine (unhide HH2 _).mono ?_;rintro e w' ⟨rfl,hw'⟩;obtain rfl:wr=w':=hw'.symm)
     | (at_builtin;refine wpList_append_own _ rfl (.tmp 27) (.tmp 29) 37 rfl w.heap.size 3 i (.int .i64 0) 1 8 Tryz.underlying37 (unhide HI).1 (unhide HI).2.1 (unhide HI).2.2.1 (unhide HI).2.2.2 rfl (by decide) _ k _ rfl (unhide HO2) ⟨wr.heap.size,0,none⟩ 1 1 [.int .i64 (y:Int)] rfl rfl ?c1 ?c2 ?b1 ?b2 ?b3 ?next))
    case c1=>exact cell_one_new _ _ _
    case c2=>intro u hu;simp at hu;subst hu;rfl
    case b1=>have:=unhide HK;unfold maxLen;omega
    case b2=>have:=unhide HK;omega
    case b3=>have:=(unhide HB2).size;simp at this ⊢;omega
    case next =>
     intro v' w3 ho3 hg3 _
     obtain ⟨g3,cap3,rfl⟩:=own_form ho3
     have HO3:=hide ho3
     have HG3:=hide hg3
     clear ho3 hg3
     go_wp2
     go_roundw
     case rel =>
      refine ⟨k+1,g3,cap3,rfl,by go_num,by omega,?_,?_⟩
      ·rw [unhide HS,natCells_snoc];exact unhide HO3
      ·exact (unhide HB2).grown (unhide HG3) (unhide HB2).size (fun k' hk'=>((unhide HO2).lt k' hk').1)
     case measure=>simp [intOf];omega
   ·have hb':f.testBit k=false:=by simpa using hb
    rw [hb'] at HH2 HS
    rw [if_neg (by simp)] at HS
    clear hb hb'
    have HO2:=hide ((unhide HH).1.alloc (Obj.cells #[.int .i64 (x:Int)] 3))
    have HB2:=hide ((unhide HH).2.alloc (unhide HH).2.size (Obj.cells #[.int .i64 (x:Int)] 3))
    go_wp2_with (first
     | (go_at_call 112;refine (unhide HH2 _).mono ?_;rintro e w' ⟨rfl,hw'⟩;obtain rfl:wr=w':=hw'.symm)
     | (at_builtin;refine wpList_append_own _ rfl (.tmp 27) (.tmp 29) 37 rfl w.heap.size 3 i (.int .i64 0) 1 8 Tryz.underlying37 (unhide HI).1 (unhide HI).2.1 (unhide HI).2.2.1 (unhide HI).2.2.2 rfl (by decide) _ k _ rfl (unhide HO2) ⟨wr.heap.size,0,none⟩ 1 1 [.int .i64 (x:Int)] rfl rfl ?c1 ?c2 ?b1 ?b2 ?b3 ?next))
    case c1=>exact cell_one_new _ _ _
    case c2=>intro u hu;simp at hu;subst hu;rfl
    case b1=>have:=unhide HK;unfold maxLen;omega
    case b2=>have:=unhide HK;omega
    case b3=>have:=(unhide HB2).size;simp at this ⊢;omega
    case next =>
     intro v' w3 ho3 hg3 _
     obtain ⟨g3,cap3,rfl⟩:=own_form ho3
     have HO3:=hide ho3
     have HG3:=hide hg3
     clear ho3 hg3
     go_wp2
     go_roundw
     case rel =>
      refine ⟨k+1,g3,cap3,rfl,by go_num,by omega,?_,?_⟩
      ·rw [unhide HS,natCells_snoc];exact unhide HO3
      ·exact (unhide HB2).grown (unhide HG3) (unhide HB2).size (fun k' hk'=>((unhide HO2).lt k' hk').1)
     case measure=>simp [intOf];omega
  ·have hk2:k=xs.length:=by omega
   subst hk2
   have e1:xs.take xs.length=xs:=List.take_of_length_le (Nat.le_refl _)
   have HE:=hide e1
   clear e1
   go_wp2
   go_ret
   refine ⟨_,rfl,?_,(unhide HH).2⟩
   have:=(unhide HH).1
   rw [unhide HE] at this
   unfold NRow
   rw [linkN_length]
   exact this
end Go.Proofs.YtobfpgoepaeknaaGreat
