/-
  The document's answer: the states one after the other: the walk.
  The document's answer: the tree and the terms of a pattern; rows of rows of numbers; do two kinds of bytes lead alike?
  The document's answer: a table: what is kept on the way.
  The document's answer: Pattern. The law Patterns, where the document's answer agrees.
-/
import Derived.Test.YtjooemengpeaaaaGreatT38
import Derived.Test.YtjooemengpeaaaaGreatT19
import Derived.Test.YtjooemengpeaaaaGreatT16
import Derived.Test.YtjooemengpeaaaaGreatT31
namespace Go.Proofs.YtjooemengpeaaaaGreat
namespace Mc
open Go.RowKit
attribute [local go_sem ↓] Go.wp_at_zero Go.wp_at_succ
structure SsI (rs0:List Rn) (U:List (List Nm)) (b gf:Nat) (w:World) (rs:List Rn) (L:Lang) (hbs:List Nat) (bv:Value) (wr:World) (sa:Option Addr) (sc:Nat) (St:List (List ByteArray)) (us:List Value) (ta:Option Addr) (tc:Nat) (T:List ByteArray) (rs1:List Rn) (na:Option Addr) (nc:Nat) (Nx:List (List Nat)) (ns:List Value) (va:Option Addr) (vc:Nat) (row:List Nat):Prop where
 fn:FnI rs0 U b gf w rs wr bv sa sc St us ta tc T rs1
 rx:RwI w wr bv hbs na nc Nx ns va vc row
 fd:FoundI hbs.length hbs L (St.map (stB rs1)) (Nx.length * hbs.length+row.length) (Nx.flatten++row)
 len:∀ r∈Nx,r.length=hbs.length
 few:St.length≤24
 tl:T.length≤24 * (Nx.length * hbs.length+row.length)
section
variable {rs0 : List Rn} {U : List (List Nm)} {b gf : Nat} {w : World} {rs : List Rn} {L : Lang} {hbs : List Nat} {bv : Value} {wr w2 : World} {sa : Option Addr} {sc : Nat} {St : List (List ByteArray)} {us : List Value} {ta : Option Addr} {tc : Nat} {T : List ByteArray} {rs1 rs2 : List Rn} {na : Option Addr} {nc : Nat} {Nx : List (List Nat)} {ns : List Value} {va : Option Addr} {vc : Nat} {row : List Nat}
theorem SsI.next (h:SsI rs0 U b gf w rs L hbs bv wr sa sc St us ta tc T rs1 na nc Nx ns va vc row) (k:TrK rs0 b wr rs1 w2 rs2):SsI rs0 U b gf w rs L hbs bv w2 sa sc St us ta tc T rs2 na nc Nx ns va vc row:=by
 refine ⟨h.fn.next k,h.rx.kp (KpN.fy k.fy h.fn.rt),?_,h.len,h.few,h.tl⟩
 obtain ⟨x,hx⟩:=k.ex
 rw [hx,map_grow h.fn.gr h.fn.sets x]
 exact h.fd
theorem SsI.below (h:SsI rs0 U b gf w rs L hbs bv wr sa sc St us ta tc T rs1 na nc Nx ns va vc row) (k:Below wr.heap.size wr w2):SsI rs0 U b gf w rs L hbs bv w2 sa sc St us ta tc T rs1 na nc Nx ns va vc row:=h.next ((TrK.refl h.fn.rt h.fn.gr).below k)
theorem SsI.nl (h:SsI rs0 U b gf w rs L hbs bv wr sa sc St us ta tc T rs1 na nc Nx ns va vc row) (hM:0 < hbs.length):Nx.length≤St.length:=by
 have h1:=h.fd.rows
 rw [List.length_map] at h1
 have:Nx.length≤(Nx.length * hbs.length+row.length) / hbs.length:=by
  rw [Nat.le_div_iff_mul_le hM];omega
 omega
theorem SsI.tn (h:SsI rs0 U b gf w rs L hbs bv wr sa sc St us ta tc T rs1 na nc Nx ns va vc row) (hM:0 < hbs.length) (hl:hbs.length≤256) (hr:row.length≤hbs.length):T.length≤900000:=by
 have h1:=h.nl hM
 have h2:=h.few
 have h3:=h.tl
 have h4:Nx.length * hbs.length≤24 * 256:=Nat.mul_le_mul (by omega) hl
 omega
theorem SsI.found {rsA:List Rn} {kd:Nat→Nat} (hs:Sorted 256 (alkB rsA) hbs kd) (hL:SameA rsA L) (h:SsI rs0 U b gf w rs L hbs bv wr sa sc St us ta tc T rs1 na nc Nx ns va vc row) (hr:row.length < hbs.length) {Y:List ByteArray} (hY:St[Nx.length]?=some Y) {u:Value} {X:List ByteArray} (hX:stB rs1 X=derL (hbs.getD row.length 0) (stB rs1 Y)) (hvX:VSet rs0 rs1 U X) {e:Ending} (hS:StA rs0 U b gf w rs wr bv St us T.length rs1 u X hbs e w2) :
  ∃ (k:Nat) (sa':Option Addr) (sc':Nat) (St':List (List ByteArray)) (us':List Value) (ta':Option Addr) (tc':Nat) (T':List ByteArray) (rs2:List Rn),e=.returned (.int .i64 (k:Int))∧FnI rs0 U b gf w rs w2 bv sa' sc' St' us' ta' tc' T' rs2∧RwI w w2 bv hbs na nc Nx ns va vc row∧FoundI hbs.length hbs L (St'.map (stB rs2)) (Nx.length * hbs.length+row.length+1) (Nx.flatten++row++[k])∧St'.length≤25∧Nx.length < St'.length∧T'.length≤24 * (Nx.length * hbs.length+row.length+1):=by
 obtain ⟨k,sa',sc',St',us',ta',tc',T',rs2,he,hfn,⟨x,hx⟩,hkp,htl,hc⟩:=hS
 have hM:0 < hbs.length:=by omega
 obtain ⟨d1,d2⟩:=div_at (n:=Nx.length) hr
 have hst:(St.map (stB rs1))[(Nx.length * hbs.length+row.length) / hbs.length]?=some (stB rs1 Y):=by rw [d1,List.getElem?_map,hY];rfl
 have hX':stB rs1 X=derL (hbs.getD ((Nx.length * hbs.length+row.length) % hbs.length) 0) (stB rs1 Y):=by rw [d2];exact hX
 have hTl:T'.length≤24 * (Nx.length * hbs.length+row.length+1):=by have:=h.tl;have:=h.few;omega
 have hnl:=get_lt hY
 have hfew:=h.few
 rcases hc with ⟨rfl,rfl,Y',hY',hsame⟩ | ⟨rfl,rfl,rfl,hno⟩
 ·refine ⟨k,sa',sc',St',us',ta',tc',T',rs2,he,hfn,h.rx.kp hkp,?_,by omega,hnl,hTl⟩
  rw [hx,map_grow h.fn.gr h.fn.sets x]
  exact found_old hs hL h.fd hM hst hX' (Y:=stB rs1 Y') (by rw [List.getElem?_map,hY'];rfl) hsame
 ·refine ⟨St.length,sa',sc',St++[X],us++[u],ta',tc',T',rs2,he,hfn,h.rx.kp hkp,?_,by simp;omega,by simp;omega,hTl⟩
  rw [hx,map_grow h.fn.gr (fun Z hZ=>by
   rcases List.mem_append.1 hZ with hZ | hZ
   ·exact h.fn.sets Z hZ
   ·rw [List.mem_singleton.1 hZ];exact hvX) x,List.map_append]
  have:=found_new hs h.fd hM hst hX' (fun Z hZ=>by
   obtain ⟨Z',hZ',rfl⟩:=List.mem_map.1 hZ
   exact hno Z' hZ')
  rw [List.length_map] at this
  exact this
theorem onj_base {v:Value} {Y:List ByteArray} {Ln:Lang} {n:Nat} (h:OnJ rs0 U b (wr.drewN n) rs1 w2 v Y rs2 Ln):OnJ rs0 U b wr rs1 w2 v Y rs2 Ln:=⟨on_base h.toOnI,h.new⟩
theorem SsI.pushR {k:Nat} (hfn:FnI rs0 U b gf w rs wr bv sa sc St us ta tc T rs1) (hrx:RwI w wr bv hbs na nc Nx ns va vc row) (hfd:FoundI hbs.length hbs L (St.map (stB rs1)) (Nx.length * hbs.length+row.length+1) (Nx.flatten++row++[k])) (hl:∀ r∈Nx,r.length=hbs.length) (hf:St.length≤24) (ht:T.length≤24 * (Nx.length * hbs.length+row.length+1)) {g cap:Nat} (hgrow:wr.grownBy w2 (.slice va row.length vc:Value).ownBlock) (ho:w2.ownsRow w.heap.size 3 1 (.slice (some ⟨g,0,none⟩) (row.length+1) cap) (row.length+1) (ncs row++[.int .i64 (k:Int)])) (hlies:(Value.slice va row.length vc).ownBlock=some g∨g=wr.heap.size) :
  SsI rs0 U b gf w rs L hbs bv w2 sa sc St us ta tc T rs1 na nc Nx ns (some ⟨g,0,none⟩) cap (row++[k]):=by
 have hlen:(row++[k]).length=row.length+1:=by simp
 refine ⟨hfn.grown hrx.rm (by decide) (by decide) (by decide) (by decide) (by decide) hgrow,hrx.pushR hgrow ho hlies,?_,hl,hf,by rw [hlen];omega⟩
 rw [hlen,←Nat.add_assoc,←List.append_assoc]
 exact hfd
theorem SsI.pushN (h:SsI rs0 U b gf w rs L hbs bv wr sa sc St us ta tc T rs1 na nc Nx ns va vc row) (hr:row.length=hbs.length) {g cap:Nat} (hgrow:wr.grownBy w2 (.slice na Nx.length nc:Value).ownBlock) (ho:w2.ownsRow w.heap.size 33 1 (.slice (some ⟨g,0,none⟩) (Nx.length+1) cap) (Nx.length+1) (ns++[.slice va row.length vc])) :
  SsI rs0 U b gf w rs L hbs bv w2 sa sc St us ta tc T rs1 (some ⟨g,0,none⟩) cap (Nx++[row]) (ns++[.slice va row.length vc]) none 0 []:=by
 have hlen:(Nx++[row]).length=Nx.length+1:=by simp
 have hm:(Nx.length+1) * hbs.length=Nx.length * hbs.length+row.length:=by rw [Nat.add_mul,hr];omega
 refine ⟨h.fn.grown h.rx.no (by decide) (by decide) (by decide) (by decide) (by decide) hgrow,h.rx.pushN hgrow ho,?_,fun r hr'=>?_,h.few,?_⟩
 ·rw [hlen,hm,List.flatten_append]
  simp only [List.length_nil,Nat.add_zero,List.append_nil,List.flatten_cons,List.flatten_nil]
  exact h.fd
 ·rcases List.mem_append.1 hr' with hr' | hr'
  ·exact h.len r hr'
  ·rw [List.mem_singleton.1 hr'];exact hr
 ·rw [hlen,hm];have:=h.tl;simpa using this
end
def SsA (rs0:List Rn) (U:List (List Nm)) (b gf:Nat) (w:World) (rs:List Rn) (L:Lang) (hbs:List Nat) (bv:Value) (e:Ending) (w':World):Prop :=
 (Fv b gf w w'∧ManyStates L∧e=.returned (.tuple #[.slice none 0 0,.bool false]))∨∃ (sa:Option Addr) (sc:Nat) (St:List (List ByteArray)) (us:List Value) (ta:Option Addr) (tc:Nat) (T:List ByteArray) (rs1:List Rn) (na:Option Addr) (nc:Nat) (Nx:List (List Nat)) (ns:List Value),e=.returned (.tuple #[.slice na Nx.length nc,.bool true])∧Nx.length=St.length∧SsI rs0 U b gf w rs L hbs bv w' sa sc St us ta tc T rs1 na nc Nx ns none 0 []
set_option maxRecDepth 20000 in
set_option maxHeartbeats 8000000 in
theorem states_any {rs0:List Rn} {U:List (List Nm)} (hT:TrC rs0 U) {b gf:Nat} (w:World) (rs:List Rn) (bv:Value) (hI:FnI rs0 U b gf w rs w bv none 0 [] [] none 0 [] rs) (hbs:List Nat) (B3:Nat) (hn:NR w B3 bv hbs) {rsA:List Rn} {kd:Nat→Nat} (hs:Sorted 256 (alkB rsA) hbs kd) (hbl:hbs.length≤256) {L:Lang} (hL:SameA rsA L) (root:Nat) (hr:root < 256) (hX0:VSet rs0 rs U [oneB root]) (hL0:EqB (stB rs [oneB root]) L) :
  Calls Tryz.prog 53 #[.pointer (some ⟨gf,0,none⟩),.int .i64 (root:Int)] w fun e w'=>SsA rs0 U b gf w rs L hbs bv e w':=by
 obtain ⟨ba,bc,rfl⟩:=hn.form
 have hMI:(hbs.length:Int)≤256:=by omega
 have HT:=hide hT
 have HN:=hide hn
 have HS:=hide hs
 have HBL:=hide hbl
 have HL:=hide hL
 have H256:Hid (∀ x∈hbs,x < 256):=fun x hx=>by
  obtain ⟨k,hk,rfl⟩:=List.getElem_of_mem hx
  have:=(hs.head k hk).1
  rwa [List.getD_eq_getElem?_getD,List.getElem?_eq_getElem hk] at this
 have HM:Hid (0 < hbs.length):=(hs.zero (by omega)).1
 have c2:w.cell? ⟨gf,2,none⟩=some (.slice none 0 0):=hI.c2
 have hgf:=hI.lt
 have hBX:Below w.heap.size w (((w.alloc (.cells #[.int .u8 (root:Int)] 5)).alloc (.cells #[.string (oneB root)] 9)).alloc (.cells #[.slice (some ⟨w.heap.size+1,0,none⟩) 1 1] 66)).drew:=((((Below.refl _ _).alloc (Nat.le_refl _) _).alloc (by simp) _).alloc (by simp;omega) _).drew
 have hXN:(((w.alloc (.cells #[.int .u8 (root:Int)] 5)).alloc (.cells #[.string (oneB root)] 9)).alloc (.cells #[.slice (some ⟨w.heap.size+1,0,none⟩) 1 1] 66)).drew.heap[w.heap.size+1]?=some (.cells #[.string (oneB root)] 9 (0,0)):=by
  show ((((w.alloc (.cells #[.int .u8 (root:Int)] 5)).alloc (.cells #[.string (oneB root)] 9)).alloc (.cells #[.slice (some ⟨w.heap.size+1,0,none⟩) 1 1] 66))).heap[w.heap.size+1]?=_
  rw [Below.heap_alloc _ _ _ (by simp)]
  have:=heap_alloc_new (w.alloc (.cells #[.int .u8 (root:Int)] 5)) (.cells #[.string (oneB root)] 9)
  simpa using this
 have hXU:SRow (((w.alloc (.cells #[.int .u8 (root:Int)] 5)).alloc (.cells #[.string (oneB root)] 9)).alloc (.cells #[.slice (some ⟨w.heap.size+1,0,none⟩) 1 1] 66)).drew 0 (.slice (some ⟨w.heap.size+1,0,none⟩) 1 1) [oneB root]:=⟨rfl,.inr ⟨_,1,_,rfl,Nat.zero_le _,hXN,Nat.le_refl _,by unfold maxLen;omega,rfl,rfl⟩⟩
 have HXU:=hide hXU
 have d1:(w.alloc (.cells #[.int .u8 (root:Int)] 5)).cell? ⟨gf,2,none⟩=some (.slice none 0 0):=(hI.below ((Below.refl _ _).alloc (Nat.le_refl _) _)).c2
 have d2:((w.alloc (.cells #[.int .u8 (root:Int)] 5)).alloc (.cells #[.string (oneB root)] 9)).cell? ⟨gf,2,none⟩=some (.slice none 0 0):=(hI.below (((Below.refl _ _).alloc (Nat.le_refl _) _).alloc (by simp) _)).c2
 have d3:(((w.alloc (.cells #[.int .u8 (root:Int)] 5)).alloc (.cells #[.string (oneB root)] 9)).alloc (.cells #[.slice (some ⟨w.heap.size+1,0,none⟩) 1 1] 66)).cell? ⟨gf,2,none⟩=some (.slice none 0 0):=(hI.below ((((Below.refl _ _).alloc (Nat.le_refl _) _).alloc (by simp) _).alloc (by simp;omega) _)).c2
 have HXI:=hide (hI.below hBX)
 have HFD:Hid (FoundI hbs.length hbs L ([[oneB root]].map (stB rs)) (([]:List (List Nat)).length * hbs.length+([]:List Nat).length) (([]:List (List Nat)).flatten++[])):=by
  show FoundI _ _ _ _ (0 * hbs.length+0) _
  rw [Nat.zero_mul]
  exact FoundI.start _ hL0
 have HX0:=hide hX0
 have hcv:=conv_cell (w.alloc (.cells #[.int .u8 (root:Int)] 5)) w.heap.size root hr (new_cell rfl)
 have hcv':=conv_cell (w.alloc (.cells #[.int .u8 (root:Int)] 5)).drew w.heap.size root hr (new_cell rfl)
 have hwr:IntKind.u8.wrap (root:Int)=(root:Int):=by unfold IntKind.wrap;simp [IntKind.bits,IntKind.signed];omega
 have hrI:(root:Int) < 256:=by omega
 have HRW:Hid (∀ w8 x,((((w.alloc (.cells #[.int .u8 (root:Int)] 5)).alloc (.cells #[.string (oneB root)] 9)).alloc (.cells #[.slice (some ⟨w.heap.size+1,0,none⟩) 1 1] 66)).drew).grownBy w8 (.slice none 0 0:Value).ownBlock→RwI w (w8.setCell ⟨gf,2,none⟩ x) (.slice ba hbs.length bc) hbs none 0 [] [] none 0 []):=fun w8 x hgrow=>by
  have g2:w8.heap[gf]?=_:=(Fr.ofGrown hgrow).at (hI.below hBX).im (by simp [Value.ownBlock])
  exact RwI.start hn (((KpN.below hBX).trans (KpN.fr (Fr.ofGrown hgrow) (fun q hq=>by simp [Value.ownBlock] at hq))).trans (KpN.fr (Fr.ofSet _ _ _ _) (noInt_one g2 (by decide) (by decide))))
 clear hT hI hn hs hbl hL hX0 hL0 hBX hXN hXU
 go_enter Tryz.func53,Tryz.ntmps53
 go_wp2_with fail
 go_cut [] (fun wx=>∃ (sa:Option Addr) (sc:Nat) (us:List Value),Hid (SsI rs0 U b gf w rs L hbs (.slice ba hbs.length bc) wx sa sc [[oneB root]] us none 0 [] rs none 0 [] [] none 0 []))
 case first =>
  have HOB:Hid ((oneB root).size=1):=rfl
  generalize hob:oneB root=ob at *
  go_region_law (refine appSlR (by rfl) _ _ (by rfl) w.heap.size _ 0 [] (by rfl) (by exact (unhide HXI).so) (w.heap.size+2) (.slice (some ⟨w.heap.size+1,0,none⟩) 1 1) rfl (by rfl) (by exact new_cell (by simp)) (by omega) (by simp;omega) (w.heap.size+3) (by simp) ?_;intro g5 cap5 w8 ho hgrow hlies hlt5;obtain ⟨y1,z1,hg8,hP⟩:=(unhide HXI).pushS (unhide HXU) (unhide HX0) (by intro q hq;simp [Value.ownBlock]) hgrow ho;have HP9:=hide hP;have HR9:=hide (unhide HRW w8 (.slice (some ⟨g5,0,none⟩) 1 cap5) hgrow);clear ho hgrow hlies hP)
  all_goals
   go_wp2_with fail
   go_meet
   exact ⟨_,_,_,unhide HP9,unhide HR9,unhide HFD,(fun r hr=>by cases hr),by simp,by simp⟩
 case rest =>
  rename World=>w1
  obtain ⟨sa1,sc1,us1,H1⟩:=hcut
  clear HXU HXI HFD HX0 hcv hcv' hwr hrI HRW c2 hgf d1 d2 d3
  go_wp2_with fail
  go_loopw [6,7] (fun vx ix wr=>∃ (sa:Option Addr) (sc:Nat) (St:List (List ByteArray)) (us:List Value) (ta:Option Addr) (tc:Nat) (T:List ByteArray) (rs1:List Rn) (na:Option Addr) (nc:Nat) (Nx:List (List Nat)) (ns:List Value),vx=.slice na Nx.length nc∧ix=.int .i64 (Nx.length:Int)∧Hid (SsI rs0 U b gf w rs L hbs (.slice ba hbs.length bc) wr sa sc St us ta tc T rs1 na nc Nx ns none 0 [])) (fun _ ix _=>24 - (intOf ix).toNat)
  case atStart=>exact ⟨sa1,sc1,_,us1,none,0,[],rs,none,0,[],[],rfl,rfl,unhide H1⟩
  case round =>
   clear H1
   rename World=>wr
   obtain ⟨sa,sc,St,us,ta,tc,T,rs1,na,nc,Nx,ns,rfl,rfl,HH⟩:=hrel
   have hI:=unhide HH
   clear HH
   have f2:=hI.fn.c2
   have hgf:=hI.fn.lt
   have hSI:(St.length:Int)≤24:=by have:=hI.few;omega
   have hnl:=hI.nl (unhide HM)
   by_cases hlt:Nx.length < St.length
   ·have hiI:(Nx.length:Int) < (St.length:Int):=by omega
    have HI:=hide hI
    have HLT:=hide hlt
    clear hI hlt hnl
    go_wp2_with fail
    go_loopw [8,9] (fun vx jx wr=>∃ (sa:Option Addr) (sc:Nat) (St:List (List ByteArray)) (us:List Value) (ta:Option Addr) (tc:Nat) (T:List ByteArray) (rs1:List Rn) (va:Option Addr) (vc:Nat) (row:List Nat),vx=.slice va row.length vc∧jx=.int .i64 (row.length:Int)∧Hid (row.length≤hbs.length∧Nx.length < St.length∧SsI rs0 U b gf w rs L hbs (.slice ba hbs.length bc) wr sa sc St us ta tc T rs1 na nc Nx ns va vc row)) (fun _ jx _=>hbs.length - (intOf jx).toNat)
    case atStart=>exact ⟨sa,sc,St,us,ta,tc,T,rs1,none,0,[],rfl,rfl,Nat.zero_le _,unhide HLT,unhide HI⟩
    case round =>
     clear HI HLT f2 hgf hSI hiI
     rename World=>wy
     obtain ⟨sa,sc,St,us,ta,tc,T,rs1,va,vc,row,rfl,rfl,HH⟩:=hrel
     obtain ⟨hrl,hnl,hI⟩:=unhide HH
     clear HH
     have f0:=hI.fn.c0
     have f1:=hI.fn.c1
     have f2:=hI.fn.c2
     have hgf:=hI.fn.lt
     have hSI:(St.length:Int)≤24:=by have:=hI.few;omega
     by_cases hlt:row.length < hbs.length
     ·have hjI:(row.length:Int) < (hbs.length:Int):=by omega
      have hiI:(Nx.length:Int) < (St.length:Int):=by omega
      have hi0:(0:Int)≤(Nx.length:Int):=by omega
      have hi1:((Nx.length:Int)).toNat=Nx.length:=by omega
      have hj0:(0:Int)≤(row.length:Int):=by omega
      have hj1:((row.length:Int)).toNat=row.length:=by omega
      obtain ⟨Y,hY⟩:∃ Y,St[Nx.length]?=some Y:=⟨_,List.getElem?_eq_getElem hnl⟩
      obtain ⟨g,y,rfl,hgl,hcy,hry⟩:=hI.fn.at hY
      obtain ⟨gn,cn,he,ch⟩:=hI.rx.bn.at hlt
      simp only [Value.slice.injEq,true_and] at he
      obtain ⟨rfl,rfl⟩:=he
      have hgn:gn < wy.heap.size:=World.block_lt_of_cell? wy ⟨gn,row.length,none⟩ ch
      have hc256:hbs.getD row.length 0 < 256:=((unhide HS).head _ hlt).1
      have hvY:=hI.fn.sets Y (List.mem_of_getElem? hY)
      have HON:=hide (fun n=>on_j (b:=b) (unhide HT) hc256 (wy.drewN n) rs1 (RtS_below hI.fn.rt (below_drewN (Below.refl _ _) n)) hI.fn.gr 0 y Y (show SRow wy 0 y Y from hry) hvY)
      obtain ⟨ya,yc,rfl⟩:=hry.form
      have HI:=hide hI
      have HY:=hide hY
      have HLT:=hide hlt
      have HVY:=hide hvY
      clear hI hlt hnl hrl hY hry hvY
      generalize hcc:hbs.getD row.length 0=c at *
      have HCC:=hide hcc
      clear hcc hc256
      go_upto_region 10 with fail
      go_cut [10] from 35 to 75 (fun cx wx=>∃ (ca:Option Addr) (cn cc:Nat) (C:List ByteArray) (rs2:List Rn),cx=.slice ca cn cc∧Hid (OnJ rs0 U b wy rs1 wx (.slice ca cn cc) C rs2 (derL c (stB rs1 Y))))
      case first =>
       go_region_with (go_at_call 91;refine (unhide HON _).mono ?_;rintro e w3 ⟨v3,C,rs2,rfl,h3⟩;have h4:=onj_base h3;obtain ⟨ca,cc,rfl⟩:=h4.row.form;have HC4:=hide h4;clear h3 h4)
       all_goals
        go_wp2_with fail
        go_meet
        exact ⟨ca,_,cc,C,rs2,rfl,unhide HC4⟩
      case rest =>
       rename World=>w3
       obtain ⟨ca,cn,cc,C,rs2,rfl,HC3⟩:=hcut
       have hC:=unhide HC3
       have hI3:=(unhide HI).next hC.trk
       have HSA:=hide (state_any (unhide HT) w rs w3 _ _ _ _ _ _ _ _ _ hI3.fn (.slice ca cn cc) C hC.row (fun q hq=>fun e=>by
        have h1:=hC.new q hq
        have h2:=(World.ownsRow.lt (unhide HI).fn.tr q e).2
        omega) hC.vs 0 hbs hI3.rx.bn (unhide H256) (unhide HBL) (by have:=hI3.few;omega) (hI3.tn (unhide HM) (unhide HBL) (Nat.le_of_lt (unhide HLT))))
       have HEX:Hid (stB rs2 C=derL (hbs.getD row.length 0) (stB rs2 Y)):=by
        show _=_
        rw [hC.eq,unhide HCC,(hC.trk.set (unhide HI).fn.gr (unhide HVY)).2]
       have HI3:=hide hI3
       have HVC:=hide hC.vs
       clear HC3 hC hI3 HI HON f0 f1 f2 hgf hSI hiI hcy hgl ch hgn
       go_wp2_with fail
       refine (unhide HSA).mono ?_
       rintro e w4 hsa
       obtain ⟨k,sa',sc',St',us',ta',tc',T',rs3,rfl,hfn,hrx,hfd,h25,hnl4,htl⟩:=(unhide HI3).found (unhide HS) (unhide HL) (unhide HLT) (unhide HY) (unhide HEX) (unhide HVC) hsa
       have e2:=hfn.c2
       have hgf4:=hfn.lt
       have HLEN:=hide (unhide HI3).len
       clear hsa HSA HI3 HEX HVC
       by_cases h24:St'.length≤24
       ·have hSI:(St'.length:Int)≤24:=by omega
        have HFN:=hide (hfn.below ((Below.refl _ _).alloc (Nat.le_refl _) (.cells #[.int .i64 (k:Int)] 3)))
        have HRX:=hide (hrx.kp (KpN.below ((Below.refl _ _).alloc (Nat.le_refl _) (.cells #[.int .i64 (k:Int)] 3))))
        have HFD:=hide hfd
        have H24:=hide h24
        have HTL:=hide htl
        have HNL4:=hide hnl4
        have HWS:Hid (w.heap.size≤w4.heap.size):=hfn.fv.size
        clear hfn hrx hfd h24 h25 htl hnl4
        go_wp2_with (at_builtin;refine app1 rfl (.tmp 72) (.tmp 74) rfl w.heap.size _ row rfl (unhide HRX).rm w4.heap.size k rfl (new_cell rfl) (by have:=unhide HLT;have:=unhide HBL;omega) (by have:=unhide HWS;simp;omega) (w4.heap.size+1) (by simp) ?_;intro g5 cap5 w8 ho hgrow hlies hlt5;have HP9:=hide (SsI.pushR (unhide HFN) (unhide HRX) (unhide HFD) (unhide HLEN) (unhide H24) (unhide HTL) hgrow ho (hlies.imp (fun e=>e) (fun e=>by rw [e];simp)));clear ho hgrow hlies)
        go_roundw
        case rel=>exact ⟨sa',sc',St',us',ta',tc',T',rs3,some ⟨g5,0,none⟩,cap5,row++[k],by simp,by first | (simp;done) | go_num,by rw [List.length_append];exact unhide HLT,unhide HNL4,unhide HP9⟩
        case measure=>have:=unhide HLT;simp [intOf];omega
       ·have hSI:¬(St'.length:Int)≤24:=by omega
        have hSJ:(24:Int) < (St'.length:Int):=by omega
        have HFV:=hide hfn.fv
        have HMY:Hid (ManyStates L):=hfd.many (by rw [List.length_map];omega)
        clear hfn hrx hfd h24 h25 htl hnl4
        go_wp2_with fail
        refine bodyPost_ret (v:=.tuple #[.slice none 0 0,.bool false]) (by simp [results,Tryz.results53,go_sem]) rfl ?_
        exact .inl ⟨unhide HFV,unhide HMY,rfl⟩
     ·have hj2:row.length=hbs.length:=by omega
      have hjI:¬(row.length:Int) < (hbs.length:Int):=by omega
      have HJ2:=hide hj2
      have HI:=hide hI
      have HXA:=hide (hI.below ((Below.refl _ _).alloc (Nat.le_refl _) (.cells #[.slice va row.length vc] 33)))
      have HWS:Hid (w.heap.size≤wy.heap.size):=hI.fn.fv.size
      have HN24:Hid (Nx.length < 24):=by have:=hI.few;show _ < _;omega
      have hN24:(Nx.length:Int) < 24:=by have:=hI.few;omega
      clear hI hlt hnl hrl hj2
      go_wp2_with (at_builtin;refine appNn rfl (.tmp 76) (.tmp 78) rfl w.heap.size _ Nx.length ns rfl (unhide HXA).rx.no wy.heap.size _ rfl rfl (new_cell rfl) (by have:=unhide HN24;omega) (by have:=unhide HWS;simp;omega) (wy.heap.size+1) (by simp) ?_;intro g5 cap5 w8 ho hgrow hlies hlt5;have HP9:=hide ((unhide HXA).pushN (unhide HJ2) hgrow ho);clear ho hgrow hlies)
      go_roundw
      case rel=>exact ⟨sa,sc,St,us,ta,tc,T,rs1,some ⟨g5,0,none⟩,cap5,Nx++[row],_,by simp,by first | (simp;done) | go_num,unhide HP9⟩
      case measure=>have:=unhide HN24;simp [intOf];omega
   ·have hi2:Nx.length=St.length:=by omega
    have hiI:¬(Nx.length:Int) < (St.length:Int):=by omega
    have HI:=hide hI
    have HI2:=hide hi2
    clear hI hlt hnl hi2
    go_wp2_with fail
    refine bodyPost_ret (v:=.tuple #[.slice na Nx.length nc,.bool true]) (by simp [results,Tryz.results53,go_sem]) rfl ?_
    exact .inr ⟨sa,sc,St,us,ta,tc,T,rs1,na,nc,Nx,ns,rfl,unhide HI2,unhide HI⟩
end Mc
end Go.Proofs.YtjooemengpeaaaaGreat
namespace Go.Proofs.YtjooemengpeaaaaGreat
namespace Mc
open Go.RowKit
attribute [local go_sem ↓] Go.wp_at_zero Go.wp_at_succ
section
variable {n : Nat} {p : ByteArray} {rs0 : List Rn} {k : Nat} {R : Re}
theorem root_lt (h:rfF n 0 p 0 0 []=some (rs0,(k:Int))) (hp:p.size≤60):k < rs0.length∧rs0.length≤121∧WfT rs0:=by
 have h3:=rfF_wf n 0 p 0 0 [] (rs0,(k:Int)) h (fun k r h=>by simp at h) (fun h=>by omega)
 have h4:=tree_small h hp
 have h5:=ctsT_len rs0
 have h6:(k:Int) < (rs0.length:Int):=h3.2.2
 exact ⟨by omega,by omega,h3.1⟩
theorem trc_of (h:rfF n 0 p 0 0 []=some (rs0,(k:Int))) (hp:p.size≤60) (hd:Dr rs0 R (k:Int)) (hw:R.wt≤12):TrC rs0 ([Nm.o k] ::uni rs0 R k):=by
 obtain ⟨h1,h2,h3⟩:=root_lt h hp
 have hl:=uni_len rs0 R k
 refine ⟨tree_small h hp,h3,?_,by rw [List.length_cons];omega,fun u hu=>?_⟩
 ·intro τ hτ α x β σ e hx
  rcases List.mem_cons.1 hτ with rfl | hτ
  ·have e2:α=[]∧x=Nm.o k∧β=[]:=by
    cases α with
    | nil=>simp at e;exact ⟨rfl,e.1.symm,e.2⟩
    | cons a α=>simp at e
   obtain ⟨rfl,rfl,rfl⟩:=e2
   cases hx with
   | orig h' hσ =>
    rw [List.append_nil,Dr.same hd h']
    exact List.mem_cons_of_mem _ hσ
  ·exact List.mem_cons_of_mem _ (uni_closed rs0 R k hd τ hτ α x β σ e hx)
 ·rcases List.mem_cons.1 hu with rfl | hu
  ·simp
  ·have g1:=uni_dep rs0 R k u hu
   have g2:=rdep_le h3 hd
   omega
theorem root_set (h:rfF n 0 p 0 0 []=some (rs0,(k:Int))) (hp:p.size≤60) (hd:Dr rs0 R (k:Int)) (hw:R.wt≤12):VSet rs0 rs0 ([Nm.o k] ::uni rs0 R k) [oneB k]∧EqB (stB rs0 [oneB k]) R.L:=by
 obtain ⟨h1,h2,h3⟩:=root_lt h hp
 have hb:bytesN (oneB k)=[k]:=bytesN_oneB (by omega)
 refine ⟨⟨List.pairwise_singleton _ _,fun s hs=>?_,fun s hs j hj=>?_⟩,fun w _=>?_⟩
 ·rw [List.mem_singleton.1 hs]
  refine ⟨fun j hj=>?_,?_⟩
  ·rw [hb,List.mem_singleton] at hj;omega
  ·unfold nmS
   rw [hb,List.map_singleton]
   unfold nmOf
   rw [if_pos h1]
   exact List.mem_cons_self
 ·rw [List.mem_singleton.1 hs,hb,List.mem_singleton] at hj
  subst hj
  exact .inl ⟨h1,R,hd,hw⟩
 ·have e:tmL rs0 [k]=R.L:=by
   show catL (LN rs0 k) epsL=_
   rw [LN_eq hd]
   exact Lang.ext fun u=>⟨fun ⟨a,c,e1,e2,e3⟩=>by
    have e3':c=[]:=e3
    subst e3'
    rw [List.append_nil] at e1;rw [e1];exact e2,fun h=>⟨u,[],(List.append_nil u).symm,h,rfl⟩⟩
  constructor
  ·rintro ⟨s,hs,ht⟩
   rw [List.mem_singleton.1 hs,hb,e] at ht
   exact ht
  ·intro ht
   exact ⟨oneB k,List.mem_singleton.2 rfl,by rw [hb,e];exact ht⟩
end
def nxF (Nx:List (List Nat)) (i c:Nat):Nat:=(Nx.getD i []).getD c 0
theorem flat_at {M:Nat}:∀ {Nx:List (List Nat)},(∀ r∈Nx,r.length=M)→∀ {i c:Nat},i < Nx.length→c < M→Nx.flatten.getD (i * M+c) 0=nxF Nx i c
 | [],_,i,c,hi,_=>by simp at hi
 | r ::Nx,hl,0,c,_,hc=>by
  have:=hl r (by simp)
  unfold nxF
  rw [List.flatten_cons,List.getD_eq_getElem?_getD,List.getElem?_append_left (by omega),List.getD_cons_zero,List.getD_eq_getElem?_getD]
  simp
 | r ::Nx,hl,i+1,c,hi,hc=>by
  have h1:=hl r (by simp)
  have ih:=flat_at (Nx:=Nx) (fun r hr=>hl r (by simp [hr])) (i:=i) (by simpa using hi) hc
  unfold nxF at ih ⊢
  rw [List.getD_cons_succ,←ih,List.flatten_cons,List.getD_eq_getElem?_getD,List.getElem?_append_right (by rw [h1,Nat.add_mul];omega),List.getD_eq_getElem?_getD]
  congr 2
  rw [h1,Nat.add_mul];omega
theorem tab_of' {L:List Nat→Prop} {S:Nat} {nx:Nat→Nat→Nat} {gr:Nat→Bool} {fs:List Nat} {cls:Nat→Nat} (hm:MinDfa L S nx gr) (hc:Sorted 256 (ElT S nx) fs cls) (h1:S≤24) (h2:fs.length≤24) :
  TabOf L S fs.length nx gr cls (fun k c=>nx k (fs.getD c 0)) :=
 ⟨hm,⟨hc.lt,hc.iff,fun _ hb _ hcc=>hc.grow hb hcc,fun c hcc=>⟨_,(hc.head c hcc).1,(hc.head c hcc).2⟩⟩,h1,h2,fun i b hi hb=>(hc.iff _ _ (hc.head _ (hc.lt b hb)).1 hb).1 (hc.head _ (hc.lt b hb)).2 i hi⟩
theorem many_of' {L:List Nat→Prop} {S:Nat} {nx:Nat→Nat→Nat} {gr:Nat→Bool} {fs:List Nat} {cls:Nat→Nat} (hm:MinDfa L S nx gr) (hc:Sorted 256 (ElT S nx) fs cls) (h2:24 < fs.length):ManyClasses L:=by
 refine hm.many (fun i=>fs.getD i 0) (fun i hi=>(hc.head i (by omega)).1) (fun i j hij hj=>?_)
 have g:=hc.apart hij (show j < fs.length by omega)
 refine Classical.byContradiction fun hno=>g fun k hk=>?_
 exact Classical.byContradiction fun hne=>hno ⟨k,hk,hne⟩
structure NnR (w:World) (v:Value) (Nx:List (List Nat)):Prop where
 ex:∃ ns,w.ownsRow 0 33 1 v Nx.length ns∧Rwt w 0 ns Nx
theorem own_zero {w:World} {B e z n:Nat} {v:Value} {xs:List Value} (h:w.ownsRow B e z v n xs):w.ownsRow 0 e z v n xs:=by
 refine ⟨h.1,?_⟩
 rcases h.2 with h | ⟨g,cap,cur,h1,h2,h3⟩
 ·exact .inl h
 ·exact .inr ⟨g,cap,cur,h1,Nat.zero_le _,h3⟩
theorem RwI.nn {w wr:World} {bv:Value} {hbs:List Nat} {na:Option Addr} {nc:Nat} {Nx:List (List Nat)} {ns:List Value} {va:Option Addr} {vc:Nat} {row:List Nat} (h:RwI w wr bv hbs na nc Nx ns va vc row):NnR wr (.slice na Nx.length nc) Nx:=⟨ns,own_zero h.no,h.nr.len,fun k u r hu hr=>(h.nr.row k u r hu hr).less (Nat.zero_le _)⟩
theorem NnR.kp {w w':World} {v:Value} {Nx:List (List Nat)} (h:NnR w v Nx) (k:KpN w w'):NnR w' v Nx:=by
 obtain ⟨ns,h1,h2⟩:=h.ex
 exact ⟨ns,k.own h1 (.inr rfl),h2.kp k⟩
theorem NnR.form {w:World} {v:Value} {Nx:List (List Nat)} (h:NnR w v Nx):∃ a c,v=.slice a Nx.length c:=by
 obtain ⟨ns,h1,-⟩:=h.ex
 rcases h1.2 with ⟨e,h0⟩ | ⟨g,cap,cur,e,_⟩
 ·exact ⟨none,0,by rw [e,h0]⟩
 ·exact ⟨_,_,e⟩
theorem NnR.at {w:World} {na:Option Addr} {nc:Nat} {Nx:List (List Nat)} (h:NnR w (.slice na Nx.length nc) Nx) {M:Nat} (hl:∀ r∈Nx,r.length=M) {i:Nat} (hi:i < Nx.length) (hM:0 < M):∃ g gi ci,na=some ⟨g,0,none⟩∧g < w.heap.size∧gi < w.heap.size∧w.cell? ⟨g,i,none⟩=some (.slice (some ⟨gi,0,none⟩) M ci)∧∀ c,c < M→w.cell? ⟨gi,c,none⟩=some (.int .i64 ((nxF Nx i c:Nat):Int)):=by
 obtain ⟨ns,h1,h2⟩:=h.ex
 have hr:=List.getElem?_eq_getElem hi
 obtain ⟨u,hu,hnr⟩:=h2.at hr
 obtain ⟨g,cap,he⟩:=own_form h1 (by omega)
 simp only [Value.slice.injEq,true_and] at he
 obtain ⟨rfl,rfl⟩:=he
 have hcell:=h1.cells (g:=g) rfl i u hu
 rw [add0] at hcell
 have hlen:=hl _ (List.getElem_mem hi)
 obtain ⟨gi,ci,rfl,-⟩:=hnr.at (k:=0) (by omega)
 have hgi:=(World.ownsRow.lt hnr gi rfl).2
 rw [hlen] at hcell
 refine ⟨g,gi,ci,rfl,(h1.lt g rfl).2,hgi,hcell,fun c hc=>?_⟩
 obtain ⟨g',c',e,hc'⟩:=hnr.at (k:=c) (by omega)
 simp only [Value.slice.injEq,Option.some.injEq,Addr.mk.injEq,and_true,true_and] at e
 obtain ⟨rfl,rfl⟩:=e
 rw [hc']
 unfold nxF
 rw [show Nx.getD i []=Nx[i] from by rw [List.getD_eq_getElem?_getD,hr];rfl]
set_option maxRecDepth 20000 in
set_option maxHeartbeats 2000000 in
theorem sameColumn_any (w:World) (v:Value) (Nx:List (List Nat)) (h:NnR w v Nx) (hN:Nx.length≤24) (M:Nat) (hl:∀ r∈Nx,r.length=M) (hM:M≤256) (x y:Nat) (hx:x < M) (hy:y < M) :
  Calls Tryz.prog 54 #[v,.int .i64 (x:Int),.int .i64 (y:Int)] w fun e w'=>(∃ z,e=.returned (.bool z)∧(z=true↔∀ i,i < Nx.length→nxF Nx i x=nxF Nx i y))∧∃ n,w'=w.drewN n:=by
 obtain ⟨na,nc,rfl⟩:=h.form
 have hNI:(Nx.length:Int)≤24:=by omega
 have hMI:(M:Int)≤256:=by omega
 have hxI:(x:Int) < (M:Int):=by omega
 have hyI:(y:Int) < (M:Int):=by omega
 have hx0:(0:Int)≤(x:Int):=by omega
 have hy0:(0:Int)≤(y:Int):=by omega
 have hx1:((x:Int)).toNat=x:=by omega
 have hy1:((y:Int)).toNat=y:=by omega
 have HA:=hide (fun i (hi:i < Nx.length)=>h.at hl hi (by omega))
 have HX:=hide hx
 have HY:=hide hy
 clear h hN hl hM hx hy
 go_enter Tryz.func54,Tryz.ntmps54
 go_wp2_with fail
 go_loopw [7] (fun ix wr=>∃ i:Nat,ix=.int .i64 (i:Int)∧Hid (i≤Nx.length∧(∃ n,wr=w.drewN n)∧∀ k,k < i→nxF Nx k x=nxF Nx k y)) (fun ix _=>Nx.length - (intOf ix).toNat)
 case atStart=>exact ⟨0,rfl,Nat.zero_le _,⟨0,rfl⟩,fun k hk=>by omega⟩
 case round =>
  rename World=>wr
  obtain ⟨i,rfl,HH⟩:=hrel
  obtain ⟨hi,⟨n,rfl⟩,hall⟩:=unhide HH
  clear HH
  by_cases hlt:i < Nx.length
  ·have hiI:(i:Int) < (Nx.length:Int):=by omega
   have hi0:(0:Int)≤(i:Int):=by omega
   have hi1:((i:Int)).toNat=i:=by omega
   obtain ⟨g,gi,ci,rfl,hg,hgi,k0,hc⟩:=unhide HA i hlt
   have k1:=hc x (unhide HX)
   have k2:=hc y (unhide HY)
   have HLT:=hide hlt
   have HALL:=hide hall
   clear hi hall hlt hc
   by_cases he:nxF Nx i x=nxF Nx i y
   ·have HS:Hid (∀ k,k < i+1→nxF Nx k x=nxF Nx k y):=fun k hk=>by
     by_cases e:k=i
     ·subst e;exact he
     ·exact unhide HALL k (by omega)
    rw [←he] at k2
    clear he HALL
    generalize nxF Nx i x=z at *
    go_wp2_with fail
    go_quiet (fail)
    go_wp2_with fail
    go_roundw
    case rel=>exact ⟨i+1,by go_num,unhide HLT,⟨n+nq,by first | rfl | simp⟩,unhide HS⟩
    case measure=>have:=unhide HLT;simp [intOf];omega
   ·have HF:Hid (¬∀ k,k < Nx.length→nxF Nx k x=nxF Nx k y):=fun h=>he (h i (unhide HLT))
    obtain ⟨z1,hz1⟩:∃ z,nxF Nx i x=z:=⟨_,rfl⟩
    obtain ⟨z2,hz2⟩:∃ z,nxF Nx i y=z:=⟨_,rfl⟩
    rw [hz1] at k1
    rw [hz2] at k2
    have hne:¬(z1:Int)=(z2:Int):=by rw [hz1,hz2] at he;omega
    clear he hz1 hz2 HALL
    go_wp2_with fail
    go_quiet (fail)
    go_wp2_with fail
    go_ret
    exact ⟨⟨false,rfl,by simpa using unhide HF⟩,n+nq,by first | rfl | simp⟩
  ·have hi2:i=Nx.length:=by omega
   subst hi2
   have HALL:=hide hall
   clear hi hall hlt
   go_wp2_with fail
   go_ret
   exact ⟨⟨true,rfl,by simpa using unhide HALL⟩,n,rfl⟩
def colB (Nx:List (List Nat)) (x y:Nat):Bool:=(List.range Nx.length).all fun i=>nxF Nx i x == nxF Nx i y
theorem colB_iff (Nx:List (List Nat)) (x y:Nat):colB Nx x y=true↔∀ i,i < Nx.length→nxF Nx i x=nxF Nx i y:=by
 unfold colB
 rw [List.all_eq_true]
 exact ⟨fun h i hi=>by simpa using h i (List.mem_range.2 hi),fun h i hi=>by simpa using h i (List.mem_range.1 hi)⟩
theorem sameColumn_c (w:World) (v:Value) (Nx:List (List Nat)) (h:NnR w v Nx) (hN:Nx.length≤24) (M:Nat) (hl:∀ r∈Nx,r.length=M) (hM:M≤256) (x y:Nat) (hx:x < M) (hy:y < M) :
  Calls Tryz.prog 54 #[v,.int .i64 (x:Int),.int .i64 (y:Int)] w fun e w'=>e=.returned (.bool (colB Nx x y))∧∃ n,w'=w.drewN n :=
 (sameColumn_any w v Nx h hN M hl hM x y hx hy).mono fun e w1 h1=>by
  obtain ⟨⟨z,rfl,hz⟩,h2⟩:=h1
  refine ⟨?_,h2⟩
  rw [show z=colB Nx x y from Bool.eq_iff_iff.2 (hz.trans (colB_iff Nx x y).symm)]
end Mc
end Go.Proofs.YtjooemengpeaaaaGreat
namespace Go.Proofs.YtjooemengpeaaaaGreat
namespace Mc
open Go.RowKit
theorem strN_app (a b:List Nat):strN (a++b)=strN a++strN b:=by
 apply ByteArray.ext
 show ((a++b).map UInt8.ofNat).toArray=(strN a++strN b).data
 rw [ByteArray.data_append]
 show _=(a.map UInt8.ofNat).toArray++(b.map UInt8.ofNat).toArray
 simp
theorem infoUb:(Tryz.prog.info? 5).map (fun i=>(i.zero,i.size,i.bytes))=some (some (.int .u8 0),1,1):=by kernel_rfl
theorem appUb {ops:Array Oper} {rest:List Oper} {o:Oper} {a:Act} {W:World} {Q:Exit→Act→World→Prop} (hgd:o.guard=none) (s x:Operand)
  (ho:o.op=.call { callee:=.builtin .append,args:=#[s,x],argTypes:=#[71,71] }) (B:Nat) (v:Value) (xs:List Nat) (hs:a.eval s=v) (hown:URow W B v xs) (g0:Nat) (y:Nat)
  (hx:a.eval x=.slice (some ⟨g0,0,none⟩) 1 1) (hc:W.cell? ⟨g0,0,none⟩=some (.int .u8 (y:Int))) (hlen:xs.length≤3000000) (hB:B≤W.heap.size) (H:Nat) (hH:W.heap.size=H)
  (h:∀ g cap w',w'.ownsRow B 5 1 (.slice (some ⟨g,0,none⟩) (xs.length+1) cap) (xs.length+1) (byteCells xs++[.int .u8 (y:Int)])→W.grownBy w' v.ownBlock→(v.ownBlock=some g∨g=H)→g < w'.heap.size→wpList Tryz.prog ops Q rest (a.put o.dst (.slice (some ⟨g,0,none⟩) (xs.length+1) cap)) w'):wpList Tryz.prog ops Q (o ::rest) a W:=by
 obtain ⟨i,i0,i1,i2,i3⟩:=info_of infoUb
 exact wpList_append_lies W hgd s x 71 ho B 5 i (.int .u8 0) 1 1 Tryz.underlying71 i0 i1 i2 i3 rfl (by decide) v xs.length (byteCells xs) hs hown ⟨g0,0,none⟩ 1 1 [.int .u8 (y:Int)] hx rfl (one_cells hc) (by intro u hu;simp at hu;subst hu;rfl) (by decide) (by unfold maxLen;omega) (by omega) hB H hH h
structure ClI (w wr:World) (ha:Option Addr) (hc:Nat) (hd:List Nat) (ca:Option Addr) (cc:Nat) (cs:List Nat):Prop where
 below:Below w.heap.size w wr
 hr:NR wr w.heap.size (.slice ha hd.length hc) hd
 cr:URow wr w.heap.size (.slice ca cs.length cc) cs
section
variable {w wr w2 : World} {ha : Option Addr} {hc : Nat} {hd : List Nat} {ca : Option Addr} {cc : Nat} {cs : List Nat}
theorem ClI.start (w:World):ClI w w none 0 [] none 0 []:=⟨Below.refl _ _,NR.nil _ _,World.ownsRow_nil _ _ _ _⟩
theorem ClI.drewN (h:ClI w wr ha hc hd ca cc cs) (n:Nat):ClI w (wr.drewN n) ha hc hd ca cc cs:=⟨below_drewN h.below n,h.hr,h.cr⟩
theorem ClI.alloc (h:ClI w wr ha hc hd ca cc cs) (o:Obj):ClI w (wr.alloc o) ha hc hd ca cc cs:=⟨h.below.alloc h.below.size _,(Fr.ofAlloc wr o).own h.hr (by simp),(Fr.ofAlloc wr o).own h.cr (by simp)⟩
theorem ClI.apart (h:ClI w wr ha hc hd ca cc cs) {q:Nat} (h1:(Value.slice ha hd.length hc).ownBlock=some q) (h2:(Value.slice ca cs.length cc).ownBlock=some q):False:=by
 obtain ⟨x,hx⟩:=own_tyT h.hr h1
 obtain ⟨y,hy⟩:=own_tyT h.cr h2
 rw [hx] at hy
 simp at hy
theorem ClI.pushH (h:ClI w wr ha hc hd ca cc cs) {g cap y:Nat} (hgrow:wr.grownBy w2 (.slice ha hd.length hc:Value).ownBlock) (ho:w2.ownsRow w.heap.size 3 1 (.slice (some ⟨g,0,none⟩) (hd.length+1) cap) (hd.length+1) (ncs hd++[.int .i64 (y:Int)])):ClI w w2 (some ⟨g,0,none⟩) cap (hd++[y]) ca cc cs:=by
 refine ⟨h.below.grown hgrow h.below.size (fun q hq=>(World.ownsRow.lt h.hr q hq).1),?_,(Fr.ofGrown hgrow).own h.cr (fun q hq hm=>h.apart (Option.mem_toList.1 hm) hq)⟩
 rw [List.length_append]
 exact NR.of ho
theorem ClI.pushC (h:ClI w wr ha hc hd ca cc cs) {g cap y:Nat} (hgrow:wr.grownBy w2 (.slice ca cs.length cc:Value).ownBlock) (ho:w2.ownsRow w.heap.size 5 1 (.slice (some ⟨g,0,none⟩) (cs.length+1) cap) (cs.length+1) (byteCells cs++[.int .u8 (y:Int)])):ClI w w2 ha hc hd (some ⟨g,0,none⟩) cap (cs++[y]):=by
 refine ⟨h.below.grown hgrow h.below.size (fun q hq=>(World.ownsRow.lt h.cr q hq).1),(Fr.ofGrown hgrow).own h.hr (fun q hq hm=>h.apart hq (Option.mem_toList.1 hm)),?_⟩
 rw [List.length_append]
 exact URow.of ho
end
theorem FnI.start {rs0 rs:List Rn} (U:List (List Nm)) {b gf:Nat} {w:World} {bv:Value} (hrt:RtS w b rs) (hg:GrowT rs0 rs) (him:w.heap[gf]?=some (.cells #[.pointer (some ⟨b,0,none⟩),bv,.slice none 0 0,.slice none 0 0] 114 (0,0))):FnI rs0 U b gf w rs w bv none 0 [] [] none 0 [] rs :=
 ⟨Fv.refl _ _ _,hrt,hg,⟨[],by simp⟩,RtS_lt hrt,(Array.getElem?_eq_some_iff.1 him).1,him,World.ownsRow_nil _ _ _ _,Sws.nil,World.ownsRow_nil _ _ _ _,SepS.nil _,(fun X hX=>by cases hX),(fun s hs=>by cases hs)⟩
theorem Fv.belowOf {b gf:Nat} {w0 w w':World} {rs:List Rn} (h:Fv b gf w w') (h0:Below w0.heap.size w0 w) (hb:w0.heap.size≤b) (hg:w0.heap.size≤gf) (hrt:RtS w b rs):Below w0.heap.size w0 w':=by
 refine ⟨h.os.trans h0.os,h.tape.trans h0.tape,h.output.trans h0.output,Nat.le_trans h0.size h.size,fun k hk=>?_⟩
 rw [h.keep k (Nat.lt_of_lt_of_le hk h0.size) (by omega) (by omega) (fun ⟨v,fr,g1,g2⟩=>?_)]
 ·exact h0.block k hk
 ·obtain ⟨v',g3,g4⟩:=hrt
  rw [g3] at g1
  simp at g1
  obtain ⟨rfl,-⟩:=g1
  have:=(World.ownsRow.lt g4 k g2).1
  omega
theorem Fv.kd {b gf gk:Nat} {w w':World} {rs:List Rn} {cs cf:Array Value} (h:Fv b gf w w') (hrt:RtS w b rs) (hf:w.heap[gf]?=some (.cells cf 114 (0,0))) (hk:w.heap[gk]?=some (.cells cs 62 (0,0))):w'.heap[gk]?=some (.cells cs 62 (0,0)):=by
 obtain ⟨v',g3,g4⟩:=hrt
 rw [h.keep gk (Array.getElem?_eq_some_iff.1 hk).1 (fun e=>?_) (fun e=>?_) (fun ⟨v,fr,g1,g2⟩=>?_)]
 ·exact hk
 ·subst e;rw [g3] at hk;simp at hk
 ·subst e;rw [hf] at hk;simp at hk
 ·rw [g3] at g1
  simp at g1
  obtain ⟨rfl,-⟩:=g1
  obtain ⟨x,hx⟩:=own_tyT g4 g2
  rw [hx] at hk
  simp at hk
theorem ssi_dfa {rs0:List Rn} {U:List (List Nm)} {b gf:Nat} {w:World} {rs:List Rn} {L:Lang} {hbs:List Nat} {bv:Value} {wr:World} {sa:Option Addr} {sc:Nat} {St:List (List ByteArray)} {us:List Value} {ta:Option Addr} {tc:Nat} {T:List ByteArray} {rs1:List Rn} {na:Option Addr} {nc:Nat} {Nx:List (List Nat)} {ns:List Value} {rsA:List Rn} {kd:Nat→Nat} (hs:Sorted 256 (alkB rsA) hbs kd) (hL:SameA rsA L) (h:SsI rs0 U b gf w rs L hbs bv wr sa sc St us ta tc T rs1 na nc Nx ns none 0 []) (hl:Nx.length=St.length) {gr:Nat→Bool} (hg:∀ i X,St[i]?=some X→(gr i=true↔stB rs1 X [])) :
  MinDfa L St.length (fun i b=>Nx.flatten.getD (i * hbs.length+kd b) 0) gr:=by
 have hfd:=h.fd
 simp only [List.length_nil,Nat.add_zero,List.append_nil] at hfd
 rw [hl] at hfd
 have hfd2:FoundI hbs.length hbs L (St.map (stB rs1)) ((St.map (stB rs1)).length * hbs.length) Nx.flatten:=by rw [List.length_map];exact hfd
 have:=FoundI.dfa (gr:=gr) hs hfd2 (fun i A c hA hc=>by
  obtain ⟨u,u1,u2⟩:=hfd.reach i A hA
  have g:=hs.head _ (hs.lt c hc)
  exact hL.der u2 hc g.1 ((hs.iff _ _ hc g.1).1 g.2.symm)) (fun i A hA=>by
  rw [List.getElem?_map] at hA
  obtain ⟨X,hX,rfl⟩:=Option.map_eq_some_iff.1 hA
  exact hg i X hX)
 rw [List.length_map] at this
 exact this
theorem sorted_few {N:Nat} {E:Nat→Nat→Prop} {hs:List Nat} {kd:Nat→Nat} (h:Sorted N E hs kd):hs.length≤N:=by
 have key:∀ j,j < hs.length→j≤hs.getD j 0:=fun j=>by
  induction j with
  | zero=>intro _;exact Nat.zero_le _
  | succ j ih =>
   intro hj
   have:=ih (by omega)
   have:=h.incr j (j+1) (by omega) hj
   omega
 by_cases h0:hs.length=0
 ·omega
 ·have h1:=key (hs.length - 1) (by omega)
  have h2:=(h.head (hs.length - 1) (by omega)).1
  omega
theorem elt_iff {Nx:List (List Nat)} {M:Nat} (hl:∀ r∈Nx,r.length=M) {kd:Nat→Nat} (hk:∀ b,b < 256→kd b < M) {x y:Nat} (hx:x < 256) (hy:y < 256):colB Nx (kd x) (kd y)=true↔ElT Nx.length (fun i b=>Nx.flatten.getD (i * M+kd b) 0) y x:=by
 rw [colB_iff]
 constructor
 ·intro h i hi
  show Nx.flatten.getD (i * M+kd y) 0=Nx.flatten.getD (i * M+kd x) 0
  rw [flat_at hl hi (hk y hy),flat_at hl hi (hk x hx)]
  exact (h i hi).symm
 ·intro h i hi
  have:=h i hi
  simp only [flat_at hl hi (hk y hy),flat_at hl hi (hk x hx)] at this
  exact this.symm
end Mc
end Go.Proofs.YtjooemengpeaaaaGreat
namespace Go.Proofs.YtjooemengpeaaaaGreat
open Go.RowKit
set_option maxHeartbeats 400000 in
theorem RefPattern_long (w:World) (t:ByteArray) (ht:60 < t.size) :
  Calls Tryz.prog 50 #[.string t] w fun e w'=>e=.returned (.tuple #[.int .i64 1,.int .i64 0])∧Below w.heap.size w w':=by
 have ht':(60:Int) < (t.size:Int):=by omega
 go_enter Tryz.func50,Tryz.ntmps50
 go_wp2
 go_ret2
 exact ⟨rfl,Below.refl _ _⟩
theorem below_trans' {w w1 w2:World} (h:Below w.heap.size w w1) (k:Below w1.heap.size w1 w2):Below w.heap.size w w2:=h.trans (k.mono h.size)
set_option maxHeartbeats 1000000 in
theorem RefPattern_any (w:World) (t:ByteArray) (y:St) (ht:t.size≤60) (h:RefOk t y) :
  Calls Tryz.prog 50 #[.string t] w fun e w'=>e=.returned (.tuple #[.int .i64 (readErr t y).1,.int .i64 (readErr t y).2])∧Below w.heap.size w w':=by
 have ht':(t.size:Int)≤60:=by omega
 have HP:=hide (place_any w t ht)
 by_cases hb:y.s.bad=true∨y.s.k < t.size
 ·have hp:=h.1 hb
  have he:=readErr_bad hb
  rw [he]
  have hp0:0≤placeS t:=by rw [hp];omega
  have HE:=hide hp
  clear h hb he hp
  generalize placeS t=pl at *
  go_enter Tryz.func50,Tryz.ntmps50
  go_wp2_with fail
  refine (unhide HP).mono ?_
  rintro e w1 ⟨rfl,hw1⟩
  go_wp2
  go_ret2
  exact ⟨by rw [←unhide HE];rfl,hw1⟩
 ·obtain ⟨hp,n,r,m,W,h1,h2,h3,h4⟩:=h.2 hb
  have hb1:y.s.bad=false:=by
   cases hbb:y.s.bad
   ·rfl
   ·exact absurd (Or.inl hbb) hb
  have hb2:¬y.s.k < t.size:=fun hh=>hb (Or.inr hh)
  have HT:=hide (fun w1=>tree_any t w1 n r ht h2 h1)
  have HW:=hide (fun b w1 hrt=>weight_any r.1 h2 b m r.2 W w1 hrt h3)
  have hpn:placeS t < 0:=by rw [hp];omega
  clear hp h1 h2 h3 h hb
  generalize placeS t=pl at *
  by_cases hbig:12 < W
  ·have he:=readErr_big (t:=t) (y:=y) hb1 hb2 (by rw [h4];split<;>omega)
   rw [he]
   clear he h4
   go_enter Tryz.func50,Tryz.ntmps50
   go_wp2_with fail
   refine (unhide HP).mono ?_
   rintro e w1 ⟨rfl,hw1⟩
   go_wp2_with fail
   refine (unhide HT w1).mono ?_
   rintro e w2 ⟨rfl,hw2,hr2⟩
   go_wp2_with fail
   refine (unhide HW _ w2 hr2).mono ?_
   rintro e w3 ⟨rfl,hw3⟩
   go_wp2
   go_ret2
   exact ⟨rfl,below_trans' (below_trans' hw1 hw2) hw3⟩
  ·have h5:lastW (weighAll y.ns)=W:=by rw [h4];split<;>omega
   have he:=readErr_ok (t:=t) (y:=y) hb1 hb2 (by rw [h5];exact hbig)
   rw [he,h5]
   have hbig':W≤12:=by omega
   clear he h4 h5 hbig
   go_enter Tryz.func50,Tryz.ntmps50
   go_wp2_with fail
   refine (unhide HP).mono ?_
   rintro e w1 ⟨rfl,hw1⟩
   go_wp2_with fail
   refine (unhide HT w1).mono ?_
   rintro e w2 ⟨rfl,hw2,hr2⟩
   go_wp2_with fail
   refine (unhide HW _ w2 hr2).mono ?_
   rintro e w3 ⟨rfl,hw3⟩
   go_wp2
   go_ret2
   exact ⟨rfl,below_trans' (below_trans' hw1 hw2) hw3⟩
end Go.Proofs.YtjooemengpeaaaaGreat
