/-
  The document's answer: a table: what is kept on the way.
  The document's answer: Pattern. The law Patterns, where the document's answer agrees.
-/
import Derived.Test.YtobfpgoepaeknaaGreatPO35
import Derived.Test.YtobfpgoepaeknaaGreatPO16
import Derived.Test.YtobfpgoepaeknaaGreatPO27
namespace Go.Proofs.YtobfpgoepaeknaaGreat
namespace Mc
open Go.RowKit
theorem strN_app (a b:List Nat):strN (a++b)=strN a++strN b:=by
 apply ByteArray.ext
 show ((a++b).map UInt8.ofNat).toArray=(strN a++strN b).data
 rw [ByteArray.data_append]
 show _=(a.map UInt8.ofNat).toArray++(b.map UInt8.ofNat).toArray
 simp
theorem infoUb:(Tryz.prog.info? 5).map (fun i=>(i.zero,i.size,i.bytes))=some (some (.int .u8 0),1,1):=by kernel_rfl
theorem appUb {ops:Array Oper} {rest:List Oper} {o:Oper} {a:Act} {W:World} {Q:Exit→Act→World→Prop} (hgd:o.guard=none) (s x:Operand)
  (ho:o.op=.call { callee:=.builtin .append,args:=#[s,x],argTypes:=#[66,66] }) (B:Nat) (v:Value) (xs:List Nat) (hs:a.eval s=v) (hown:URow W B v xs) (g0:Nat) (y:Nat)
  (hx:a.eval x=.slice (some ⟨g0,0,none⟩) 1 1) (hc:W.cell? ⟨g0,0,none⟩=some (.int .u8 (y:Int))) (hlen:xs.length≤3000000) (hB:B≤W.heap.size) (H:Nat) (hH:W.heap.size=H)
  (h:∀ g cap w',w'.ownsRow B 5 1 (.slice (some ⟨g,0,none⟩) (xs.length+1) cap) (xs.length+1) (byteCells xs++[.int .u8 (y:Int)])→W.grownBy w' v.ownBlock→(v.ownBlock=some g∨g=H)→g < w'.heap.size→wpList Tryz.prog ops Q rest (a.put o.dst (.slice (some ⟨g,0,none⟩) (xs.length+1) cap)) w'):wpList Tryz.prog ops Q (o ::rest) a W:=by
 obtain ⟨i,i0,i1,i2,i3⟩:=info_of infoUb
 exact wpList_append_lies W hgd s x 66 ho B 5 i (.int .u8 0) 1 1 Tryz.underlying66 i0 i1 i2 i3 rfl (by decide) v xs.length (byteCells xs) hs hown ⟨g0,0,none⟩ 1 1 [.int .u8 (y:Int)] hx rfl (one_cells hc) (by intro u hu;simp at hu;subst hu;rfl) (by decide) (by unfold maxLen;omega) (by omega) hB H hH h
structure ClI (w wr:World) (ha:Option Addr) (hc:Nat) (hd:List Nat) (ca:Option Addr) (cc:Nat) (cs:List Nat):Prop where
 below:Below w.heap.size w wr
 hr:NR wr w.heap.size (.slice ha hd.length hc) hd
 cr:URow wr w.heap.size (.slice ca cs.length cc) cs
section
variable {w wr w2 : World} {ha : Option Addr} {hc : Nat} {hd : List Nat} {ca : Option Addr} {cc : Nat} {cs : List Nat}
theorem ClI.start (w:World):ClI w w none 0 [] none 0 []:=⟨Below.refl _ _,NR.nil _ _,World.ownsRow_nil _ _ _ _⟩
theorem ClI.drewN (h:ClI w wr ha hc hd ca cc cs) (n:Nat):ClI w (wr.drewN n) ha hc hd ca cc cs:=⟨below_drewN h.below n,h.hr,h.cr⟩
theorem ClI.alloc (h:ClI w wr ha hc hd ca cc cs) (o:Obj):ClI w (wr.alloc o) ha hc hd ca cc cs:=⟨h.below.alloc h.below.size _,(Fr.ofAlloc wr o).own h.hr (by simp),(Fr.ofAlloc wr o).own h.cr (by simp)⟩
theorem ClI.apart (h:ClI w wr ha hc hd ca cc cs) {q:Nat} (h1:(Value.slice ha hd.length hc).ownBlock=some q) (h2:(Value.slice ca cs.length cc).ownBlock=some q):False:=by
 obtain ⟨x,hx⟩:=own_tyT h.hr h1
 obtain ⟨y,hy⟩:=own_tyT h.cr h2
 rw [hx] at hy
 simp at hy
theorem ClI.pushH (h:ClI w wr ha hc hd ca cc cs) {g cap y:Nat} (hgrow:wr.grownBy w2 (.slice ha hd.length hc:Value).ownBlock) (ho:w2.ownsRow w.heap.size 3 1 (.slice (some ⟨g,0,none⟩) (hd.length+1) cap) (hd.length+1) (ncs hd++[.int .i64 (y:Int)])):ClI w w2 (some ⟨g,0,none⟩) cap (hd++[y]) ca cc cs:=by
 refine ⟨h.below.grown hgrow h.below.size (fun q hq=>(World.ownsRow.lt h.hr q hq).1),?_,(Fr.ofGrown hgrow).own h.cr (fun q hq hm=>h.apart (Option.mem_toList.1 hm) hq)⟩
 rw [List.length_append]
 exact NR.of ho
theorem ClI.pushC (h:ClI w wr ha hc hd ca cc cs) {g cap y:Nat} (hgrow:wr.grownBy w2 (.slice ca cs.length cc:Value).ownBlock) (ho:w2.ownsRow w.heap.size 5 1 (.slice (some ⟨g,0,none⟩) (cs.length+1) cap) (cs.length+1) (byteCells cs++[.int .u8 (y:Int)])):ClI w w2 ha hc hd (some ⟨g,0,none⟩) cap (cs++[y]):=by
 refine ⟨h.below.grown hgrow h.below.size (fun q hq=>(World.ownsRow.lt h.cr q hq).1),(Fr.ofGrown hgrow).own h.hr (fun q hq hm=>h.apart hq (Option.mem_toList.1 hm)),?_⟩
 rw [List.length_append]
 exact URow.of ho
end
theorem FnI.start {rs0 rs:List Rn} (U:List (List Nm)) {b gf:Nat} {w:World} {bv:Value} (hrt:RtS w b rs) (hg:GrowT rs0 rs) (him:w.heap[gf]?=some (.cells #[.pointer (some ⟨b,0,none⟩),bv,.slice none 0 0,.slice none 0 0] 62 (0,0))):FnI rs0 U b gf w rs w bv none 0 [] [] none 0 [] rs :=
 ⟨Fv.refl _ _ _,hrt,hg,⟨[],by simp⟩,RtS_lt hrt,(Array.getElem?_eq_some_iff.1 him).1,him,World.ownsRow_nil _ _ _ _,Sws.nil,World.ownsRow_nil _ _ _ _,SepS.nil _,(fun X hX=>by cases hX),(fun s hs=>by cases hs)⟩
theorem Fv.belowOf {b gf:Nat} {w0 w w':World} {rs:List Rn} (h:Fv b gf w w') (h0:Below w0.heap.size w0 w) (hb:w0.heap.size≤b) (hg:w0.heap.size≤gf) (hrt:RtS w b rs):Below w0.heap.size w0 w':=by
 refine ⟨h.os.trans h0.os,h.tape.trans h0.tape,h.output.trans h0.output,Nat.le_trans h0.size h.size,fun k hk=>?_⟩
 rw [h.keep k (Nat.lt_of_lt_of_le hk h0.size) (by omega) (by omega) (fun ⟨v,fr,g1,g2⟩=>?_)]
 ·exact h0.block k hk
 ·obtain ⟨v',g3,g4⟩:=hrt
  rw [g3] at g1
  simp at g1
  obtain ⟨rfl,-⟩:=g1
  have:=(World.ownsRow.lt g4 k g2).1
  omega
theorem Fv.kd {b gf gk:Nat} {w w':World} {rs:List Rn} {cs cf:Array Value} (h:Fv b gf w w') (hrt:RtS w b rs) (hf:w.heap[gf]?=some (.cells cf 62 (0,0))) (hk:w.heap[gk]?=some (.cells cs 44 (0,0))):w'.heap[gk]?=some (.cells cs 44 (0,0)):=by
 obtain ⟨v',g3,g4⟩:=hrt
 rw [h.keep gk (Array.getElem?_eq_some_iff.1 hk).1 (fun e=>?_) (fun e=>?_) (fun ⟨v,fr,g1,g2⟩=>?_)]
 ·exact hk
 ·subst e;rw [g3] at hk;simp at hk
 ·subst e;rw [hf] at hk;simp at hk
 ·rw [g3] at g1
  simp at g1
  obtain ⟨rfl,-⟩:=g1
  obtain ⟨x,hx⟩:=own_tyT g4 g2
  rw [hx] at hk
  simp at hk
theorem ssi_dfa {rs0:List Rn} {U:List (List Nm)} {b gf:Nat} {w:World} {rs:List Rn} {L:Lang} {hbs:List Nat} {bv:Value} {wr:World} {sa:Option Addr} {sc:Nat} {St:List (List ByteArray)} {us:List Value} {ta:Option Addr} {tc:Nat} {T:List ByteArray} {rs1:List Rn} {na:Option Addr} {nc:Nat} {Nx:List (List Nat)} {ns:List Value} {rsA:List Rn} {kd:Nat→Nat} (hs:Sorted 256 (alkB rsA) hbs kd) (hL:SameA rsA L) (h:SsI rs0 U b gf w rs L hbs bv wr sa sc St us ta tc T rs1 na nc Nx ns none 0 []) (hl:Nx.length=St.length) {gr:Nat→Bool} (hg:∀ i X,St[i]?=some X→(gr i=true↔stB rs1 X [])) :
  MinDfa L St.length (fun i b=>Nx.flatten.getD (i * hbs.length+kd b) 0) gr:=by
 have hfd:=h.fd
 simp only [List.length_nil,Nat.add_zero,List.append_nil] at hfd
 rw [hl] at hfd
 have hfd2:FoundI hbs.length hbs L (St.map (stB rs1)) ((St.map (stB rs1)).length * hbs.length) Nx.flatten:=by rw [List.length_map];exact hfd
 have:=FoundI.dfa (gr:=gr) hs hfd2 (fun i A c hA hc=>by
  obtain ⟨u,u1,u2⟩:=hfd.reach i A hA
  have g:=hs.head _ (hs.lt c hc)
  exact hL.der u2 hc g.1 ((hs.iff _ _ hc g.1).1 g.2.symm)) (fun i A hA=>by
  rw [List.getElem?_map] at hA
  obtain ⟨X,hX,rfl⟩:=Option.map_eq_some_iff.1 hA
  exact hg i X hX)
 rw [List.length_map] at this
 exact this
theorem sorted_few {N:Nat} {E:Nat→Nat→Prop} {hs:List Nat} {kd:Nat→Nat} (h:Sorted N E hs kd):hs.length≤N:=by
 have key:∀ j,j < hs.length→j≤hs.getD j 0:=fun j=>by
  induction j with
  | zero=>intro _;exact Nat.zero_le _
  | succ j ih =>
   intro hj
   have:=ih (by omega)
   have:=h.incr j (j+1) (by omega) hj
   omega
 by_cases h0:hs.length=0
 ·omega
 ·have h1:=key (hs.length - 1) (by omega)
  have h2:=(h.head (hs.length - 1) (by omega)).1
  omega
theorem elt_iff {Nx:List (List Nat)} {M:Nat} (hl:∀ r∈Nx,r.length=M) {kd:Nat→Nat} (hk:∀ b,b < 256→kd b < M) {x y:Nat} (hx:x < 256) (hy:y < 256):colB Nx (kd x) (kd y)=true↔ElT Nx.length (fun i b=>Nx.flatten.getD (i * M+kd b) 0) y x:=by
 rw [colB_iff]
 constructor
 ·intro h i hi
  show Nx.flatten.getD (i * M+kd y) 0=Nx.flatten.getD (i * M+kd x) 0
  rw [flat_at hl hi (hk y hy),flat_at hl hi (hk x hx)]
  exact (h i hi).symm
 ·intro h i hi
  have:=h i hi
  simp only [flat_at hl hi (hk y hy),flat_at hl hi (hk x hx)] at this
  exact this.symm
end Mc
end Go.Proofs.YtobfpgoepaeknaaGreat
namespace Go.Proofs.YtobfpgoepaeknaaGreat
open Go.RowKit
set_option maxHeartbeats 400000 in
theorem RefPattern_long (w:World) (t:ByteArray) (ht:60 < t.size) :
  Calls Tryz.prog 21 #[.string t] w fun e w'=>e=.returned (.tuple #[.int .i64 1,.int .i64 0])∧Below w.heap.size w w':=by
 have ht':(60:Int) < (t.size:Int):=by omega
 go_enter Tryz.func21,Tryz.ntmps21
 go_wp2
 go_ret2
 exact ⟨rfl,Below.refl _ _⟩
theorem below_trans' {w w1 w2:World} (h:Below w.heap.size w w1) (k:Below w1.heap.size w1 w2):Below w.heap.size w w2:=h.trans (k.mono h.size)
set_option maxHeartbeats 1000000 in
theorem RefPattern_any (w:World) (t:ByteArray) (y:St) (ht:t.size≤60) (h:RefOk t y) :
  Calls Tryz.prog 21 #[.string t] w fun e w'=>e=.returned (.tuple #[.int .i64 (readErr t y).1,.int .i64 (readErr t y).2])∧Below w.heap.size w w':=by
 have ht':(t.size:Int)≤60:=by omega
 have HP:=hide (place_any w t ht)
 by_cases hb:y.s.bad=true∨y.s.k < t.size
 ·have hp:=h.1 hb
  have he:=readErr_bad hb
  rw [he]
  have hp0:0≤placeS t:=by rw [hp];omega
  have HE:=hide hp
  clear h hb he hp
  generalize placeS t=pl at *
  go_enter Tryz.func21,Tryz.ntmps21
  go_wp2_with fail
  refine (unhide HP).mono ?_
  rintro e w1 ⟨rfl,hw1⟩
  go_wp2
  go_ret2
  exact ⟨by rw [←unhide HE];rfl,hw1⟩
 ·obtain ⟨hp,n,r,m,W,h1,h2,h3,h4⟩:=h.2 hb
  have hb1:y.s.bad=false:=by
   cases hbb:y.s.bad
   ·rfl
   ·exact absurd (Or.inl hbb) hb
  have hb2:¬y.s.k < t.size:=fun hh=>hb (Or.inr hh)
  have HT:=hide (fun w1=>tree_any t w1 n r ht h2 h1)
  have HW:=hide (fun b w1 hrt=>weight_any r.1 h2 b m r.2 W w1 hrt h3)
  have hpn:placeS t < 0:=by rw [hp];omega
  clear hp h1 h2 h3 h hb
  generalize placeS t=pl at *
  by_cases hbig:12 < W
  ·have he:=readErr_big (t:=t) (y:=y) hb1 hb2 (by rw [h4];split<;>omega)
   rw [he]
   clear he h4
   go_enter Tryz.func21,Tryz.ntmps21
   go_wp2_with fail
   refine (unhide HP).mono ?_
   rintro e w1 ⟨rfl,hw1⟩
   go_wp2_with fail
   refine (unhide HT w1).mono ?_
   rintro e w2 ⟨rfl,hw2,hr2⟩
   go_wp2_with fail
   refine (unhide HW _ w2 hr2).mono ?_
   rintro e w3 ⟨rfl,hw3⟩
   go_wp2
   go_ret2
   exact ⟨rfl,below_trans' (below_trans' hw1 hw2) hw3⟩
  ·have h5:lastW (weighAll y.ns)=W:=by rw [h4];split<;>omega
   have he:=readErr_ok (t:=t) (y:=y) hb1 hb2 (by rw [h5];exact hbig)
   rw [he,h5]
   have hbig':W≤12:=by omega
   clear he h4 h5 hbig
   go_enter Tryz.func21,Tryz.ntmps21
   go_wp2_with fail
   refine (unhide HP).mono ?_
   rintro e w1 ⟨rfl,hw1⟩
   go_wp2_with fail
   refine (unhide HT w1).mono ?_
   rintro e w2 ⟨rfl,hw2,hr2⟩
   go_wp2_with fail
   refine (unhide HW _ w2 hr2).mono ?_
   rintro e w3 ⟨rfl,hw3⟩
   go_wp2
   go_ret2
   exact ⟨rfl,below_trans' (below_trans' hw1 hw2) hw3⟩
end Go.Proofs.YtobfpgoepaeknaaGreat
