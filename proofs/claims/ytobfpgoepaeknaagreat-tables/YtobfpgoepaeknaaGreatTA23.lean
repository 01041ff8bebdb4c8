/-
  table.same: are two states alike, as far as the kinds tell?
  table.split: the kinds of states, one step finer.
  table.fold: the kinds of alike states.
  table.folded.next, table.leadAlike: where letters lead from kinds.
-/
import Derived.Test.YtobfpgoepaeknaaGreatTA22
namespace Go.Proofs.YtobfpgoepaeknaaGreat
open Go.RowKit
structure Small (M:Nat) (grs:List Bool) (nxs:List Nat):Prop where
 m:M≤256
 g:grs.length≤10000
 n:nxs.length≤3000000
set_option maxHeartbeats 1000000 in
theorem tsame_any (w:World) (g M:Nat) (F:Nat→Nat) (grs:List Bool) (nxs:List Nat) (h:GraphB w g M F grs nxs) (hs:Small M grs nxs) (B:Nat) (kv:Value) (ks:List Nat) (hK:NRow w B kv ks) (hk:ks.length≤10000) (a b:Nat) (ha:a≤10000) (hb:b≤10000) :
  Calls Tryz.prog 149 #[.pointer (some ⟨g,0,none⟩),kv,.int .i64 (a:Int),.int .i64 (b:Int)] w fun e w'=>(∃ y,e=.returned (.bool y)∧(y=true↔EsL (fun i=>grs.getD i false) (nlM nxs M) M (fun i=>ks.getD i 0) a b))∧w'=w:=by
 have HA:Hid (∀ i:Nat,Calls Tryz.prog 71 #[kv,.int .i64 (i:Int)] w fun e w'=>e=.returned (.int .i64 ((ks.getD i 0:Nat):Int))∧w'=w):=fun i=>at_any w B kv ks i hK (by omega)
 have HN:Hid (∀ i c:Nat,i≤10000→c≤256→Calls Tryz.prog 117 #[.pointer (some ⟨g,0,none⟩),.int .i64 (i:Int),.int .i64 (c:Int)] w fun e w'=>e=.returned (.int .i64 ((nlM nxs M i c:Nat):Int))∧w'=w):=fun i c hi hc=>Next_any w g M F grs nxs h i c hs.m hi hc hs.n
 have HG:Hid (∀ i:Nat,Calls Tryz.prog 73 #[.pointer (some ⟨g,0,none⟩),.int .i64 (i:Int)] w fun e w'=>e=.returned (.bool (grs.getD i false))∧w'=w):=fun i=>Granted_any w g M F grs nxs h i hs.g
 have HL:=hide (Letters_any w g M F grs nxs h)
 have HM:=hide hs.m
 have HE:Hid (EsL (fun i=>grs.getD i false) (nlM nxs M) M (fun i=>ks.getD i 0) a b↔(ks.getD a 0=ks.getD b 0∧grs.getD a false=grs.getD b false∧∀ l,l < M→ks.getD (nlM nxs M a l) 0=ks.getD (nlM nxs M b l) 0)):=Iff.rfl
 have HAA:=hide ha
 have HBB:=hide hb
 have hMI:(M:Int)≤256:=by have:=hs.m;omega
 obtain ⟨ka,kc,rfl⟩:=hK.form
 generalize EsL (fun i=>grs.getD i false) (nlM nxs M) M (fun i=>ks.getD i 0) a b=E at *
 have HAa:=hide (unhide HA a)
 have HAb:=hide (unhide HA b)
 have HGa:=hide (unhide HG a)
 have HGb:=hide (unhide HG b)
 generalize ks.getD a 0=x at *
 generalize ks.getD b 0=y at *
 generalize grs.getD a false=p at *
 generalize grs.getD b false=q at *
 clear h hs hK hk ha hb HG
 by_cases hxy:x=y
 ·subst hxy
  by_cases hpq:p=q
  ·subst hpq
   go_enter Tryz.func149,Tryz.ntmps149
   go_wp2_with fail
   refine (unhide HAa).mono ?_
   rintro e w1 ⟨rfl,hww⟩
   obtain rfl:w=w1:=hww.symm
   clear hww
   go_wp2_with fail
   refine (unhide HAb).mono ?_
   rintro e w1 ⟨rfl,hww⟩
   obtain rfl:w=w1:=hww.symm
   clear hww
   go_wp2_with fail
   refine (unhide HGa).mono ?_
   rintro e w1 ⟨rfl,hww⟩
   obtain rfl:w=w1:=hww.symm
   clear hww
   go_wp2_with fail
   refine (unhide HGb).mono ?_
   rintro e w1 ⟨rfl,hww⟩
   obtain rfl:w=w1:=hww.symm
   clear hww
   go_wp2_with fail
   go_loopw [9] (fun lx wr=>∃ l:Nat,lx=.int .i64 (l:Int)∧Hid (l≤M)∧Hid (∀ l',l' < l→ks.getD (nlM nxs M a l') 0=ks.getD (nlM nxs M b l') 0)∧wr=w) (fun lx _=>M - (intOf lx).toNat)
   case atStart=>exact ⟨0,rfl,Nat.zero_le _,fun l' hl'=>absurd hl' (Nat.not_lt_zero _),rfl⟩
   case round =>
    rename World=>wr
    obtain ⟨l,rfl,HL1,HL2,hwr⟩:=hrel
    obtain rfl:w=wr:=hwr.symm
    clear hwr
    go_wp2_with fail
    refine (unhide HL).mono ?_
    rintro e w1 ⟨rfl,hww⟩
    obtain rfl:w=w1:=hww.symm
    clear hww
    by_cases hlM:l < M
    ·have hlI:(l:Int) < (M:Int):=by omega
     have HLM:=hide hlM
     have HN1:=hide (unhide HN a l (unhide HAA) (by have:=unhide HM;omega))
     have HN2:=hide (unhide HN b l (unhide HBB) (by have:=unhide HM;omega))
     have HA1:=hide (unhide HA (nlM nxs M a l))
     have HA2:=hide (unhide HA (nlM nxs M b l))
     have HSN:Hid (ks.getD (nlM nxs M a l) 0=ks.getD (nlM nxs M b l) 0→∀ l',l' < l+1→ks.getD (nlM nxs M a l') 0=ks.getD (nlM nxs M b l') 0):=fun he l' hl'=>by
      by_cases hq:l'=l
      ·subst hq;exact he
      ·exact unhide HL2 l' (by omega)
     have HNO:Hid (ks.getD (nlM nxs M a l) 0≠ks.getD (nlM nxs M b l) 0→¬E):=fun hne hE=>hne (((unhide HE).1 hE).2.2 l hlM)
     generalize nlM nxs M a l=s at *
     generalize nlM nxs M b l=t at *
     generalize ks.getD s 0=c at *
     generalize ks.getD t 0=d at *
     clear hlM
     go_wp2_with fail
     refine (unhide HN1).mono ?_
     rintro e w1 ⟨rfl,hww⟩
     obtain rfl:w=w1:=hww.symm
     clear hww
     go_wp2_with fail
     refine (unhide HA1).mono ?_
     rintro e w1 ⟨rfl,hww⟩
     obtain rfl:w=w1:=hww.symm
     clear hww
     go_wp2_with fail
     refine (unhide HN2).mono ?_
     rintro e w1 ⟨rfl,hww⟩
     obtain rfl:w=w1:=hww.symm
     clear hww
     go_wp2_with fail
     refine (unhide HA2).mono ?_
     rintro e w1 ⟨rfl,hww⟩
     obtain rfl:w=w1:=hww.symm
     clear hww
     by_cases hcd:c=d
     ·subst hcd
      go_wp2_with fail
      go_roundw
      case rel=>exact ⟨l+1,by go_num,unhide HLM,unhide HSN (by first | rfl | trivial),by first | rfl | trivial⟩
      case measure=>have:=unhide HLM;simp [intOf];omega
     ·have hcI:¬(c:Int)=(d:Int):=by omega
      have HCD:=hide hcd
      clear hcd
      go_wp2_with fail
      go_ret
      exact ⟨⟨false,rfl,by simp;exact unhide HNO (unhide HCD)⟩,rfl⟩
    ·have hl2:l=M:=by have:=unhide HL1;omega
     subst hl2
     go_wp2_with fail
     go_ret
     exact ⟨⟨true,rfl,by simp;exact (unhide HE).2 ⟨by first | rfl | trivial,by first | rfl | trivial,unhide HL2⟩⟩,rfl⟩
  ·have HNE:Hid (¬E):=fun hE=>hpq ((unhide HE).1 hE).2.1
   have hpq2:(p == q)=false:=by cases p<;>cases q<;>simp at hpq ⊢
   clear hpq
   go_enter Tryz.func149,Tryz.ntmps149
   go_wp2_with fail
   refine (unhide HAa).mono ?_
   rintro e w1 ⟨rfl,hww⟩
   obtain rfl:w=w1:=hww.symm
   clear hww
   go_wp2_with fail
   refine (unhide HAb).mono ?_
   rintro e w1 ⟨rfl,hww⟩
   obtain rfl:w=w1:=hww.symm
   clear hww
   go_wp2_with fail
   refine (unhide HGa).mono ?_
   rintro e w1 ⟨rfl,hww⟩
   obtain rfl:w=w1:=hww.symm
   clear hww
   go_wp2_with fail
   refine (unhide HGb).mono ?_
   rintro e w1 ⟨rfl,hww⟩
   obtain rfl:w=w1:=hww.symm
   clear hww
   go_wp2_with fail
   go_ret
   exact ⟨⟨false,rfl,by simp;exact unhide HNE⟩,rfl⟩
 ·have HNE:Hid (¬E):=fun hE=>hxy ((unhide HE).1 hE).1
  have hxI:¬(x:Int)=(y:Int):=by omega
  clear hxy
  go_enter Tryz.func149,Tryz.ntmps149
  go_wp2_with fail
  refine (unhide HAa).mono ?_
  rintro e w1 ⟨rfl,hww⟩
  obtain rfl:w=w1:=hww.symm
  clear hww
  go_wp2_with fail
  refine (unhide HAb).mono ?_
  rintro e w1 ⟨rfl,hww⟩
  obtain rfl:w=w1:=hww.symm
  clear hww
  go_wp2_with fail
  go_ret
  exact ⟨⟨false,rfl,by simp;exact unhide HNE⟩,rfl⟩
end Go.Proofs.YtobfpgoepaeknaaGreat
namespace Go.Proofs.YtobfpgoepaeknaaGreat
open Go.RowKit
structure SpI (w wr:World) (kv hv:Value) (ks hs:List Nat):Prop where
 below:Below w.heap.size w wr
 bR:wr.heap[w.heap.size]?=some (.cells #[.slice none 0 0,.slice none 0 0] 138 (0,0))
 bF:wr.heap[w.heap.size+1]?=some (.cells #[kv,hv] 138 (0,0))
 rk:NRow wr w.heap.size kv ks
 rh:NRow wr w.heap.size hv hs
 dj:Dj kv hv
section sp
variable {w wr w2 : World} {kv hv : Value} {ks hs : List Nat}
theorem SpI.lt (h:SpI w wr kv hv ks hs):w.heap.size+1 < wr.heap.size:=(Array.getElem?_eq_some_iff.1 h.bF).1
theorem SpI.alloc (h:SpI w wr kv hv ks hs) (o:Obj):SpI w (wr.alloc o) kv hv ks hs:=by
 have l:=h.lt
 have k:Below wr.heap.size wr (wr.alloc o):=(Below.refl _ _).alloc (Nat.le_refl _) _
 exact ⟨h.below.trans (k.mono h.below.size),(k.block _ (by omega)).trans h.bR,(k.block _ (by omega)).trans h.bF,h.rk.below k,h.rh.below k,h.dj⟩
theorem SpI.heads (h:SpI w wr kv hv ks hs) (hgrow:wr.grownBy w2 hv.ownBlock) {g cap y:Nat} (ho:w2.ownsRow w.heap.size 3 1 (.slice (some ⟨g,0,none⟩) (hs.length+1) cap) (hs.length+1) (natCells hs++[.int .i64 (y:Int)])) (hl:hv.ownBlock=some g∨g=wr.heap.size) :
  SpI w (w2.setCell ⟨w.heap.size+1,1,none⟩ (.slice (some ⟨g,0,none⟩) (hs.length+1) cap)) kv (.slice (some ⟨g,0,none⟩) (hs.length+1) cap) ks (hs++[y]):=by
 have e1:=own_off h.rh h.bR (by decide)
 have e2:=own_off h.rh h.bF (by decide)
 have g1:=grown_at hgrow h.bR (fun e=>e1 _ e rfl)
 have g2:=grown_at hgrow h.bF (fun e=>e2 _ e rfl)
 refine ⟨(h.below.grown hgrow h.below.size (fun k hk=>(h.rh.lt k hk).1)).setCell (by simp) _,?_,by rw [heap_setCell_same _ _ _ _ _ _ g2];rfl,keep2 hgrow g2 h.rk h.dj (by decide),own_set_any (NRow.of ho) g2 (by decide) _ _,h.dj.lies hl (fun q hq=>(h.rk.lt q hq).2)⟩
 rw [Below.heap_setCell _ _ _ _ (by simp)];exact g1
theorem SpI.kinds (h:SpI w wr kv hv ks hs) (hgrow:wr.grownBy w2 kv.ownBlock) {g cap y:Nat} (ho:w2.ownsRow w.heap.size 3 1 (.slice (some ⟨g,0,none⟩) (ks.length+1) cap) (ks.length+1) (natCells ks++[.int .i64 (y:Int)])) (hl:kv.ownBlock=some g∨g=wr.heap.size) :
  SpI w (w2.setCell ⟨w.heap.size+1,0,none⟩ (.slice (some ⟨g,0,none⟩) (ks.length+1) cap)) (.slice (some ⟨g,0,none⟩) (ks.length+1) cap) hv (ks++[y]) hs:=by
 have e1:=own_off h.rk h.bR (by decide)
 have e2:=own_off h.rk h.bF (by decide)
 have g1:=grown_at hgrow h.bR (fun e=>e1 _ e rfl)
 have g2:=grown_at hgrow h.bF (fun e=>e2 _ e rfl)
 refine ⟨(h.below.grown hgrow h.below.size (fun k hk=>(h.rk.lt k hk).1)).setCell (by simp) _,?_,by rw [heap_setCell_same _ _ _ _ _ _ g2];rfl,own_set_any (NRow.of ho) g2 (by decide) _ _,keep2 hgrow g2 h.rh h.dj.symm (by decide),(h.dj.symm.lies hl (fun q hq=>(h.rh.lt q hq).2)).symm⟩
 rw [Below.heap_setCell _ _ _ _ (by simp)];exact g1
end sp
theorem own_put2 {w:World} {B e z:Nat} {v:Value} {n:Nat} {xs:List Value} {b:Nat} {cs:Array Value} {ty:TypeId} (h:w.ownsRow B e z v n xs) (hb:w.heap[b]?=some (.cells cs ty (0,0))) (hne:e≠ty) (x y:Value):((w.setCell ⟨b,0,none⟩ x).setCell ⟨b,1,none⟩ y).ownsRow B e z v n xs :=
 own_set_any (own_set_any h hb hne _ _) (heap_setCell_same _ _ _ _ _ _ hb) hne _ _
theorem below_put2 {B b:Nat} {a w:World} (h:Below B a w) (hb:B≤b) (x y:Value):Below B a ((w.setCell ⟨b,0,none⟩ x).setCell ⟨b,1,none⟩ y):=(h.setCell (by simpa using hb) _).setCell (by simpa using hb) _
def SplitPost (E:Nat→Nat→Prop) (n0:Nat) (ks hs:List Nat):Prop:=(hs.length=25∧∃ n kd,n≤n0∧Sorted n E hs kd)∨(hs.length≤24∧ks.length=n0∧Sorted n0 E hs (fun i=>ks.getD i 0))
set_option maxRecDepth 20000 in
set_option maxHeartbeats 2000000 in
theorem split_any (w:World) (g M:Nat) (F:Nat→Nat) (grs:List Bool) (nxs:List Nat) (h:GraphB w g M F grs nxs) (hs:Small M grs nxs) (B:Nat) (kv:Value) (ks0:List Nat) (hK:NRow w B kv ks0) (hk:ks0.length≤10000) :
  Calls Tryz.prog 114 #[.pointer (some ⟨g,0,none⟩),kv] w fun e w'=>∃ kv2 hv ks hs,e=.returned (.agg #[kv2,hv])∧Below w.heap.size w w'∧NRow w' w.heap.size kv2 ks∧NRow w' w.heap.size hv hs∧SplitPost (EsL (fun i=>grs.getD i false) (nlM nxs M) M (fun i=>ks0.getD i 0)) ks0.length ks hs:=by
 have HSAME:Hid (∀ (W:World),Below w.heap.size w W→∀ a b:Nat,a≤10000→b≤10000→Calls Tryz.prog 149 #[.pointer (some ⟨g,0,none⟩),kv,.int .i64 (a:Int),.int .i64 (b:Int)] W fun e w'=>(∃ y,e=.returned (.bool y)∧(y=true↔EsL (fun i=>grs.getD i false) (nlM nxs M) M (fun i=>ks0.getD i 0) a b))∧w'=W) :=
  fun W hW a b ha hb=>tsame_any W g M F grs nxs (h.below hW) hs B kv ks0 (hK.below hW) hk a b ha hb
 have HEQ:Hid (Equivalence (EsL (fun i=>grs.getD i false) (nlM nxs M) M (fun i=>ks0.getD i 0))):=EsL_eqv _ _ _ _
 generalize EsL (fun i=>grs.getD i false) (nlM nxs M) M (fun i=>ks0.getD i 0)=E at *
 obtain ⟨ka,kc,rfl⟩:=hK.form
 have hkI:(ks0.length:Int)≤10000:=by omega
 have HKL:=hide hk
 generalize ks0.length=n0 at *
 have H0:Hid (SpI w ((w.alloc (.cells #[.slice none 0 0,.slice none 0 0] 138)).alloc (.cells #[.slice none 0 0,.slice none 0 0] 138)) (.slice none 0 0) (.slice none 0 0) [] []) :=
  ⟨((Below.refl _ _).alloc (Nat.le_refl _) _).alloc (by simp) _,heap_alloc2_old w _ _,heap_alloc2_new w _ _,World.ownsRow_nil _ _ _ _,World.ownsRow_nil _ _ _ _,Dj.nil _⟩
 obtain ⟨i,i0,i1,i2,i3⟩:=info_of info3
 have HI:=hide (And.intro i0 (And.intro i1 (And.intro i2 i3)))
 clear i0 i1 i2 i3 h hs hK hk
 go_enter Tryz.func114,Tryz.ntmps114
 go_wp2_with fail
 go_loopw [6] (fun sx wr=>∃ (s:Nat) (kv2 hv:Value) (ks hs:List Nat),sx=.int .i64 (s:Int)∧Hid (s≤n0∧SpI w wr kv2 hv ks hs∧ks.length=s∧hs.length≤24∧Sorted s E hs (fun i=>ks.getD i 0))) (fun sx _=>n0 - (intOf sx).toNat)
 case atStart=>exact ⟨0,_,_,[],[],rfl,Nat.zero_le _,unhide H0,rfl,by simp,Sorted.nil _ _⟩
 case round =>
  rename World=>wr
  obtain ⟨s,kv2,hv,ks,hs,rfl,HH⟩:=hrel
  clear H0
  by_cases hlt:s < n0
  ·have hltI:(s:Int) < (n0:Int):=by omega
   have HLT:=hide hlt
   obtain ⟨-,hI,hkl,hhl,hso⟩:=unhide HH
   obtain ⟨ha,hc,rfl⟩:=hI.rh.form
   obtain ⟨kka,kkc,rfl⟩:=hI.rk.form
   have HI1:=hide hI
   have HHL:=hide hhl
   have HSO:=hide hso
   have HKS:=hide hkl
   have hhI:(hs.length:Int)≤24:=by omega
   have HSM:Hid (∀ b:Nat,b≤10000→Calls Tryz.prog 149 #[.pointer (some ⟨g,0,none⟩),.slice ka n0 kc,.int .i64 (s:Int),.int .i64 (b:Int)] wr fun e w'=>(∃ y,e=.returned (.bool y)∧(y=true↔E s b))∧w'=wr):=fun b hb=>unhide HSAME wr hI.below s b (by have:=unhide HKL;omega) hb
   clear hlt HH hI hkl hhl hso
   go_wp2_with fail
   go_loopw [7] (fun kx wx=>∃ k:Nat,kx=.int .i64 (k:Int)∧k≤hs.length∧Hid (∀ j,j < k→¬E s (hs.getD j 0))∧wx=wr) (fun kx _=>hs.length - (intOf kx).toNat)
   case atStart=>exact ⟨0,rfl,Nat.zero_le _,fun j hj=>absurd hj (Nat.not_lt_zero _),rfl⟩
   case round =>
    rename World=>wx
    obtain ⟨k,rfl,hk,HNO,hwx⟩:=hrel
    obtain rfl:wr=wx:=hwx.symm
    clear hwx
    have c1:wr.cell? ⟨w.heap.size+1,1,none⟩=some (.slice ha hs.length hc):=by rw [cell_of_row _ _ _ _ _ _ (unhide HI1).bF];rfl
    have c0:wr.cell? ⟨w.heap.size+1,0,none⟩=some (.slice kka ks.length kkc):=by rw [cell_of_row _ _ _ _ _ _ (unhide HI1).bF];rfl
    have z0:=frozen_of_row wr (w.heap.size+1) 0 _ _ (unhide HI1).bF
    have z1:=frozen_of_row wr (w.heap.size+1) 1 _ _ (unhide HI1).bF
    have hl1:=(unhide HI1).lt
    have HOK:=hide (World.ownsRow.alloc (unhide HI1).rk (Obj.cells #[.int .i64 (k:Int)] 3))
    have HSK:=hide ((unhide HI1).alloc (Obj.cells #[.int .i64 (k:Int)] 3))
    have HSZ:Hid (w.heap.size≤wr.heap.size):=(unhide HI1).below.size
    have HKN:Hid (ks.length≤10000):=by have:=unhide HKS;have:=unhide HLT;have:=unhide HKL;show _≤_;omega
    by_cases hkl:k < hs.length
    ·obtain ⟨gh,ch,he,hx⟩:=(unhide HI1).rh.at hkl
     simp only [Value.slice.injEq,true_and] at he
     obtain ⟨rfl,rfl⟩:=he
     have hkI2:(k:Int) < (hs.length:Int):=by omega
     have HKL2:=hide hkl
     have hxb:hs.getD k 0≤10000:=by
      have:=((unhide HSO).head k hkl).1
      have:=unhide HKL
      have:=unhide HLT
      omega
     have HC:=hide (unhide HSM _ hxb)
     have HNO2:Hid (¬E s (hs.getD k 0)→∀ j,j < k+1→¬E s (hs.getD j 0)):=fun hne j hj=>by
      by_cases e:j=k
      ·subst e;exact hne
      ·exact unhide HNO j (by omega)
     have HYES:Hid (E s (hs.getD k 0)→Sorted (s+1) E hs (fun i=>(ks++[k]).getD i 0)):=fun hE=>(unhide HSO).old (unhide HEQ) hkl hE (fun a ha=>getD_snoc_old (by rw [unhide HKS];exact ha)) (by rw [←unhide HKS];exact getD_snoc_new _ _)
     generalize hs.getD k 0=x at *
     clear hkl hxb
     go_wp2_with fail
     refine (unhide HC).mono ?_
     rintro e w1 ⟨⟨y,rfl,hy⟩,hww⟩
     obtain rfl:wr=w1:=hww.symm
     clear hww
     cases y
     ·have HN:Hid (¬E s x):=fun hE=>by have:=hy.2 hE;cases this
      clear hy
      go_wp2_with fail
      go_roundw
      case rel=>exact ⟨k+1,by go_num,unhide HKL2,unhide HNO2 (unhide HN),by first | rfl | trivial⟩
      case measure=>have:=unhide HKL2;simp [intOf];omega
     ·have HY:=hide (hy.1 rfl)
      clear hy
      have hkne:¬(k:Int)=(hs.length:Int):=by omega
      go_wp2_with (at_builtin;refine wpList_append_lies _ rfl (.tmp 51) (.tmp 53) 37 rfl w.heap.size 3 i (.int .i64 0) 1 8 Tryz.underlying37 (unhide HI).1 (unhide HI).2.1 (unhide HI).2.2.1 (unhide HI).2.2.2 rfl (by decide) _ _ _ rfl (unhide HOK) ⟨wr.heap.size,0,none⟩ 1 1 [.int .i64 (k:Int)] rfl rfl (cell_one_new _ _ _) (by intro u hu;simp at hu;subst hu;rfl) (by decide) (by have:=unhide HKN;unfold maxLen;omega) (by have:=unhide HKN;omega) (by have:=unhide HSZ;simp;omega) (wr.heap.size+1) (by simp) ?_;intro g5 cap5 w8 ho hgrow hlies hlt5;have hb3:w8.heap[w.heap.size+1]?=_:=grown_at hgrow (unhide HSK).bF (fun e=>own_off (unhide HSK).rk (unhide HSK).bF (by decide) _ e rfl);have y8:w8.cell? ⟨w.heap.size+1,0,none⟩=some (.slice kka ks.length kkc):=(by rw [cell_of_row _ _ _ _ _ _ hb3];rfl);have z8:=frozen_of_row w8 (w.heap.size+1) 0 _ _ hb3;have HN:=hide (SpI.kinds (unhide HSK) hgrow ho (hlies.elim Or.inl (fun e=>Or.inr (by rw [e];simp))));clear hb3 ho hgrow hlies)
      go_roundw
      case rel=>exact ⟨s+1,_,_,_,_,by go_num,unhide HLT,unhide HN,by simp [unhide HKS],unhide HHL,unhide HYES (unhide HY)⟩
      case measure=>have:=unhide HLT;simp [intOf];omega
    ·have hk2:k=hs.length:=by omega
     subst hk2
     have HOH:=hide (World.ownsRow.alloc (unhide HI1).rh (Obj.cells #[.int .i64 (s:Int)] 3))
     have HSH:=hide ((unhide HI1).alloc (Obj.cells #[.int .i64 (s:Int)] 3))
     have HNEW:Hid (Sorted (s+1) E (hs++[s]) (fun i=>(ks++[hs.length]).getD i 0)):=(unhide HSO).new (unhide HEQ) (unhide HNO) (fun a ha=>getD_snoc_old (by rw [unhide HKS];exact ha)) (by rw [←unhide HKS];exact getD_snoc_new _ _)
     clear HOK HSK
     go_upto_region 10 with (at_builtin;refine wpList_append_lies _ rfl (.tmp 40) (.tmp 42) 37 rfl w.heap.size 3 i (.int .i64 0) 1 8 Tryz.underlying37 (unhide HI).1 (unhide HI).2.1 (unhide HI).2.2.1 (unhide HI).2.2.2 rfl (by decide) _ _ _ rfl (unhide HOH) ⟨wr.heap.size,0,none⟩ 1 1 [.int .i64 (s:Int)] rfl rfl (cell_one_new _ _ _) (by intro u hu;simp at hu;subst hu;rfl) (by decide) (by have:=unhide HHL;unfold maxLen;omega) (by have:=unhide HHL;omega) (by have:=unhide HSZ;simp;omega) (wr.heap.size+1) (by simp) ?_;intro g5 cap5 w8 ho hgrow hlies hlt5;have hb3:w8.heap[w.heap.size+1]?=_:=grown_at hgrow (unhide HSH).bF (fun e=>own_off (unhide HSH).rh (unhide HSH).bF (by decide) _ e rfl);have y8:w8.cell? ⟨w.heap.size+1,1,none⟩=some (.slice ha hs.length hc):=(by rw [cell_of_row _ _ _ _ _ _ hb3];rfl);have z8:=frozen_of_row w8 (w.heap.size+1) 1 _ _ hb3;have HN:=hide (SpI.heads (unhide HSH) hgrow ho (hlies.elim Or.inl (fun e=>Or.inr (by rw [e];simp))));clear hb3 ho hgrow hlies)
     generalize hW:w8.setCell ⟨w.heap.size+1,1,none⟩ (.slice (some ⟨g5,0,none⟩) (hs.length+1) cap5)=W at *
     clear hW y8 z8 c0 c1 z0 z1 HSZ hl1
     have c1:W.cell? ⟨w.heap.size+1,1,none⟩=some (.slice (some ⟨g5,0,none⟩) (hs.length+1) cap5):=by rw [cell_of_row _ _ _ _ _ _ (unhide HN).bF];rfl
     have c0:W.cell? ⟨w.heap.size+1,0,none⟩=some (.slice kka ks.length kkc):=by rw [cell_of_row _ _ _ _ _ _ (unhide HN).bF];rfl
     have hl1:=(unhide HN).lt
     have HSZ:Hid (w.heap.size≤W.heap.size):=(unhide HN).below.size
     by_cases h24:hs.length=24
     ·have h25:(24:Int) < (hs.length:Int)+1:=by omega
      have H24:=hide h24
      clear h24
      have r0:W.cell? ⟨w.heap.size,0,none⟩=some (.slice none 0 0):=by rw [cell_of_row _ _ _ _ _ _ (unhide HN).bR];rfl
      have r1:W.cell? ⟨w.heap.size,1,none⟩=some (.slice none 0 0):=by rw [cell_of_row _ _ _ _ _ _ (unhide HN).bR];rfl
      have f0:=frozen_of_row W w.heap.size 0 _ _ (unhide HN).bR
      have f1:=frozen_of_row W w.heap.size 1 _ _ (unhide HN).bR
      go_wp2_with fail
      refine bodyPost_ret (v:=.agg #[.slice kka ks.length kkc,.slice (some ⟨g5,0,none⟩) (hs.length+1) cap5]) (by simp [results,Tryz.results114,go_sem, *]) rfl
       ⟨_,_,_,_,rfl,below_put2 (unhide HN).below (Nat.le_refl _) _ _,own_put2 (unhide HN).rk (unhide HN).bR (by decide) _ _,own_put2 (unhide HN).rh (unhide HN).bR (by decide) _ _,.inl ⟨by simp [unhide H24],_,_,unhide HLT,unhide HNEW⟩⟩
     ·have h25:(hs.length:Int)+1≤24:=by omega
      have H24:Hid (hs.length+1≤24):=by show _≤_;omega
      have HOK:=hide (World.ownsRow.alloc (unhide HN).rk (Obj.cells #[.int .i64 ((hs.length:Nat):Int)] 3))
      have HSK:=hide ((unhide HN).alloc (Obj.cells #[.int .i64 ((hs.length:Nat):Int)] 3))
      clear h24 HN
      go_wp2_with (at_builtin;refine wpList_append_lies _ rfl (.tmp 51) (.tmp 53) 37 rfl w.heap.size 3 i (.int .i64 0) 1 8 Tryz.underlying37 (unhide HI).1 (unhide HI).2.1 (unhide HI).2.2.1 (unhide HI).2.2.2 rfl (by decide) _ _ _ rfl (unhide HOK) ⟨W.heap.size,0,none⟩ 1 1 [.int .i64 ((hs.length:Nat):Int)] rfl rfl (cell_one_new _ _ _) (by intro u hu;simp at hu;subst hu;rfl) (by decide) (by have:=unhide HKN;unfold maxLen;omega) (by have:=unhide HKN;omega) (by have:=unhide HSZ;simp;omega) (W.heap.size+1) (by simp) ?_;intro g6 cap6 w9 ho hgrow hlies hlt5;have hb3:w9.heap[w.heap.size+1]?=_:=grown_at hgrow (unhide HSK).bF (fun e=>own_off (unhide HSK).rk (unhide HSK).bF (by decide) _ e rfl);have y8:w9.cell? ⟨w.heap.size+1,0,none⟩=some (.slice kka ks.length kkc):=(by rw [cell_of_row _ _ _ _ _ _ hb3];rfl);have z8:=frozen_of_row w9 (w.heap.size+1) 0 _ _ hb3;have HN:=hide (SpI.kinds (unhide HSK) hgrow ho (hlies.elim Or.inl (fun e=>Or.inr (by rw [e];simp))));clear hb3 ho hgrow hlies)
      go_roundw
      case rel=>exact ⟨s+1,_,_,_,_,by go_num,unhide HLT,unhide HN,by simp [unhide HKS],by rw [List.length_append];exact unhide H24,unhide HNEW⟩
      case measure=>have:=unhide HLT;simp [intOf];omega
  ·obtain ⟨hsn,hI,hkl,hhl,hso⟩:=unhide HH
   have hs2:s=n0:=by omega
   subst hs2
   obtain ⟨ha,hc,rfl⟩:=hI.rh.form
   obtain ⟨kka,kkc,rfl⟩:=hI.rk.form
   have HN:=hide hI
   have HR:Hid (SplitPost E s ks hs):=.inr ⟨hhl,hkl,hso⟩
   clear hsn hI hkl hhl hso HH hlt
   have c1:wr.cell? ⟨w.heap.size+1,1,none⟩=some (.slice ha hs.length hc):=by rw [cell_of_row _ _ _ _ _ _ (unhide HN).bF];rfl
   have c0:wr.cell? ⟨w.heap.size+1,0,none⟩=some (.slice kka ks.length kkc):=by rw [cell_of_row _ _ _ _ _ _ (unhide HN).bF];rfl
   have r0:wr.cell? ⟨w.heap.size,0,none⟩=some (.slice none 0 0):=by rw [cell_of_row _ _ _ _ _ _ (unhide HN).bR];rfl
   have r1:wr.cell? ⟨w.heap.size,1,none⟩=some (.slice none 0 0):=by rw [cell_of_row _ _ _ _ _ _ (unhide HN).bR];rfl
   have f0:=frozen_of_row wr w.heap.size 0 _ _ (unhide HN).bR
   have f1:=frozen_of_row wr w.heap.size 1 _ _ (unhide HN).bR
   go_wp2_with fail
   refine bodyPost_ret (v:=.agg #[.slice kka ks.length kkc,.slice ha hs.length hc]) (by simp [results,Tryz.results114,go_sem, *]) rfl
    ⟨_,_,_,_,rfl,below_put2 (unhide HN).below (Nat.le_refl _) _ _,own_put2 (unhide HN).rk (unhide HN).bR (by decide) _ _,own_put2 (unhide HN).rh (unhide HN).bR (by decide) _ _,unhide HR⟩
end Go.Proofs.YtobfpgoepaeknaaGreat
namespace Go.Proofs.YtobfpgoepaeknaaGreat
open Go.RowKit
structure FoldI (N:Nat) (nx:Nat→Nat→Nat) (gr:Nat→Bool) (r:Nat) (ks hs:List Nat):Prop where
 len:ks.length=N
 told:ToldK N nx gr (fun i=>ks.getD i 0)
 lo:r≤hs.length
 hi:hs.length≤24
 ex:hs=[]∨∃ E,Sorted N E hs (fun i=>ks.getD i 0)
theorem FoldI.start (N:Nat) (nx:Nat→Nat→Nat) (gr:Nat→Bool):FoldI N nx gr 0 (List.replicate N 0) [] :=
 ⟨by simp,ToldK.zero fun a ha=>by simp [List.getD_eq_getElem?_getD,ha],Nat.zero_le _,by simp,.inl rfl⟩
def FoldPost (L:List Nat→Prop) (N:Nat) (nx:Nat→Nat→Nat) (gr:Nat→Bool) (ks hs:List Nat):Prop :=
 (24 < hs.length∧ManyStates L)∨(hs.length≤24∧ks.length=N∧(∃ E,Sorted N E hs (fun i=>ks.getD i 0))∧MinDfa L hs.length (fun k b=>ks.getD (nx (hs.getD k 0) b) 0) (fun k=>gr (hs.getD k 0)))
theorem FoldI.step {L:List Nat→Prop} {N:Nat} {nx:Nat→Nat→Nat} {gr:Nat→Bool} {r:Nat} {ks hs ks2 hs2:List Nat} (hd:BfsDfa L N nx gr) (h:FoldI N nx gr r ks hs) (hp:SplitPost (Espl nx gr (fun i=>ks.getD i 0)) N ks2 hs2) :
  (hs2.length=hs.length→FoldPost L N nx gr ks2 hs2)∧(24 < hs2.length→FoldPost L N nx gr ks2 hs2)∧(hs2.length≠hs.length→hs2.length≤24→FoldI N nx gr (r+1) ks2 hs2):=by
 have hi:=h.hi
 have lo:=h.lo
 rcases hp with ⟨h1,n,kd,hn,hs'⟩ | ⟨h1,h2,h3⟩
 ·have hm:ManyStates L:=hd.many h.told hn hs' (by omega)
  exact ⟨fun _=>.inl ⟨by omega,hm⟩,fun _=>.inl ⟨by omega,hm⟩,fun _ hle=>by omega⟩
 ·refine ⟨fun he=>?_,fun hlt=>by omega,fun hne _=>?_⟩
  ·have hp:=(h3.zero hd.pos).1
   rcases h.ex with rfl | ⟨E,hE⟩
   ·rw [he] at hp;simp at hp
   ·exact .inr ⟨h1,h2,⟨_,h3⟩,hd.least h.told hE h3 he.symm⟩
  ·refine ⟨h2,h.told.next hd.lt h3,?_,h1,.inr ⟨_,h3⟩⟩
   have hp:=(h3.zero hd.pos).1
   rcases h.ex with rfl | ⟨E,hE⟩
   ·simp at lo;omega
   ·have:=hE.size_le h3 (fun a b ha hb e=>((h3.iff a b ha hb).1 e).1)
    omega
structure FoI (w wr:World) (gf:Nat) (kv hv:Value) (ks hs:List Nat):Prop where
 below:Below w.heap.size w wr
 bR:wr.heap[w.heap.size]?=some (.cells #[.slice none 0 0,.slice none 0 0] 138 (0,0))
 bF:wr.heap[gf]?=some (.cells #[kv,hv] 138 (0,0))
 hf:w.heap.size < gf
 rk:NRow wr w.heap.size kv ks
 rh:NRow wr w.heap.size hv hs
section fo
variable {w wr w1 : World} {gf : Nat} {kv hv : Value} {ks hs : List Nat}
theorem FoI.lt (h:FoI w wr gf kv hv ks hs):gf < wr.heap.size:=(Array.getElem?_eq_some_iff.1 h.bF).1
theorem FoI.next (h:FoI w wr gf kv hv ks hs) (k:Below wr.heap.size wr w1):FoI w w1 gf kv hv ks hs:=by
 have l:=h.lt
 have l2:=h.hf
 exact ⟨h.below.trans (k.mono h.below.size),(k.block _ (by omega)).trans h.bR,(k.block _ l).trans h.bF,l2,h.rk.below k,h.rh.below k⟩
theorem FoI.put (h:FoI w wr gf kv hv ks hs) {B:Nat} {kv2 hv2:Value} {ks2 hs2:List Nat} (hk:NRow wr B kv2 ks2) (hh:NRow wr B hv2 hs2) (hB:w.heap.size≤B):FoI w ((wr.setCell ⟨gf,0,none⟩ kv2).setCell ⟨gf,1,none⟩ hv2) gf kv2 hv2 ks2 hs2:=by
 have l2:=h.hf
 refine ⟨below_put2 h.below (by omega) _ _,?_,?_,l2,own_put2 (ownsRow_less hk hB) h.bF (by decide) _ _,own_put2 (ownsRow_less hh hB) h.bF (by decide) _ _⟩
 ·rw [Below.heap_setCell _ _ _ _ (by simp;omega),Below.heap_setCell _ _ _ _ (by simp;omega)];exact h.bR
 ·rw [heap_setCell_same _ _ _ _ _ _ (heap_setCell_same _ _ _ _ _ _ h.bF)];rfl
end fo
theorem below_then {w W:World} (h:Below w.heap.size w W) (o:Obj):Below w.heap.size w (W.alloc o):=h.trans (((Below.refl _ _).alloc (Nat.le_refl _) o).mono h.size)
set_option maxRecDepth 20000 in
set_option maxHeartbeats 2000000 in
theorem fold_any (w:World) (g:Nat) (hb:List Nat) (F:Nat→Nat) (grs:List Bool) (nxs:List Nat) (h:GraphB w g hb.length F grs nxs) (hs:Small hb.length grs nxs) (E0:Nat→Nat→Prop) (hl:Sorted 256 E0 hb F)
  (L:List Nat→Prop) (hd:BfsDfa L grs.length (fun i b=>nlM nxs hb.length i (F b)) (fun i=>grs.getD i false)) :
  Calls Tryz.prog 69 #[.pointer (some ⟨g,0,none⟩)] w fun e w'=>∃ kv hv ks hs,e=.returned (.agg #[kv,hv])∧Below w.heap.size w w'∧NRow w' w.heap.size kv ks∧NRow w' w.heap.size hv hs∧FoldPost L grs.length (fun i b=>nlM nxs hb.length i (F b)) (fun i=>grs.getD i false) ks hs:=by
 have HSP:Hid (∀ (W:World),Below w.heap.size w W→∀ (kv:Value) (ks:List Nat),NRow W w.heap.size kv ks→ks.length≤10000 →
   Calls Tryz.prog 114 #[.pointer (some ⟨g,0,none⟩),kv] W fun e w'=>∃ kv2 hv ks2 hs2,e=.returned (.agg #[kv2,hv])∧Below W.heap.size W w'∧NRow w' W.heap.size kv2 ks2∧NRow w' W.heap.size hv hs2∧SplitPost (Espl (fun i b=>nlM nxs hb.length i (F b)) (fun i=>grs.getD i false) (fun i=>ks.getD i 0)) ks.length ks2 hs2):=fun W hW kv ks hk hkl=>by
  have:=split_any W g hb.length F grs nxs (h.below hW) hs w.heap.size kv ks hk hkl
  rw [EsL_eq hl] at this
  exact this
 have HST:Hid (∀ W,Below w.heap.size w W→Calls Tryz.prog 113 #[.pointer (some ⟨g,0,none⟩)] W fun e w'=>e=.returned (.int .i64 ((grs.length:Nat):Int))∧w'=W):=fun W hW=>States_any W g hb.length F grs nxs (h.below hW)
 have HD:=hide hd
 have HNL:=hide hs.g
 have hnI:(grs.length:Int)≤10000:=by have:=hs.g;omega
 generalize (fun i b=>nlM nxs hb.length i (F b))=nx at *
 generalize (fun i=>grs.getD i false)=gr at *
 generalize grs.length=N at *
 have HF0:=hide (FoldI.start N nx gr)
 have h0:FoI w (((w.alloc (.cells #[.slice none 0 0,.slice none 0 0] 138)).alloc (.cells (madeCells #[.int .i64 0] N) 3)).alloc (.cells #[.slice (some ⟨w.heap.size+1,0,none⟩) N N,.slice none 0 0] 138)) (w.heap.size+1+1) (.slice (some ⟨w.heap.size+1,0,none⟩) N N) (.slice none 0 0) (List.replicate N 0) []:=by
  have t:=three_blocks w (.cells #[.slice none 0 0,.slice none 0 0] 138) (.cells (madeCells #[.int .i64 0] N) 3) (.cells #[.slice (some ⟨w.heap.size+1,0,none⟩) N N,.slice none 0 0] 138)
  refine ⟨three_below w _ _ _,t.1,t.2.2,by omega,?_,World.ownsRow_nil _ _ _ _⟩
  have hr:=NRow.new (w:=w.alloc (.cells #[.slice none 0 0,.slice none 0 0] 138)) (B:=w.heap.size) (n:=N) (by simp) (by have:=unhide HNL;unfold maxLen;omega)
  have:=World.ownsRow.alloc hr (.cells #[.slice (some ⟨w.heap.size+1,0,none⟩) N N,.slice none 0 0] 138)
  unfold NRow
  simpa using this
 have H0:=hide h0
 obtain ⟨i,i0,i1,i2,i3⟩:=info_of info3
 have HI:=hide (And.intro i0 (And.intro i1 (And.intro i2 i3)))
 clear i0 i1 i2 i3 h hs hl hd h0
 go_enter Tryz.func69,Tryz.ntmps69
 go_wp2_with (first
  | (go_at_call 113;refine (unhide HST _ (by exact (Below.refl _ _).alloc (Nat.le_refl _) _)).mono ?_;rintro e w' ⟨rfl,hww⟩;obtain rfl:_=w':=hww.symm)
  | (refine wpList_make_row _ rfl _ _ 37 rfl 3 i (.int .i64 0) Tryz.underlying37 (unhide HI).1 (unhide HI).2.1 (unhide HI).2.2.1 rfl .i64 .i64 N rfl rfl (by rw [(unhide HI).2.2.2];have:=unhide HNL;omega) (by have:=unhide HNL;omega) ?_))
 go_loopw [4] (fun rx wr=>∃ (r:Nat) (kv hv:Value) (ks hs:List Nat),rx=.int .i64 (r:Int)∧Hid (FoI w wr (w.heap.size+1+1) kv hv ks hs∧FoldI N nx gr r ks hs)) (fun rx _=>25 - (intOf rx).toNat)
 case atStart=>exact ⟨0,_,_,_,_,rfl,unhide H0,unhide HF0⟩
 case round =>
  rename World=>wr
  obtain ⟨r,kv,hv,ks,hs,rfl,HH⟩:=hrel
  obtain ⟨hI,hF⟩:=unhide HH
  clear HH H0 HF0
  obtain ⟨ka,kc,rfl⟩:=hI.rk.form
  obtain ⟨ha,hc,rfl⟩:=hI.rh.form
  by_cases hr:r≤24
  ·have hrI:(r:Int)≤24:=by omega
   have HR:=hide hr
   have c0:wr.cell? ⟨w.heap.size+1+1,0,none⟩=some (.slice ka ks.length kc):=by rw [cell_of_row _ _ _ _ _ _ hI.bF];rfl
   have HC:=hide (unhide HSP wr hI.below _ ks hI.rk (by rw [hF.len];exact unhide HNL))
   have HI1:=hide hI
   have HF1:=hide hF
   clear hI hF hr
   go_wp2_with fail
   refine (unhide HC).mono ?_
   rintro e w1 ⟨kv2,hv2,ks2,hs2,rfl,hbel,hk2,hh2,hpost⟩
   obtain ⟨ka2,kc2,rfl⟩:=hk2.form
   obtain ⟨ha2,hc2,rfl⟩:=hh2.form
   have HSTEP:=hide ((unhide HF1).step (unhide HD) (by rw [(unhide HF1).len] at hpost;exact hpost))
   have HW:Hid (w.heap.size≤wr.heap.size):=(unhide HI1).below.size
   have hnx:=(unhide HI1).next hbel
   have HN:=hide hnx
   have HK2:=hide hk2
   have HH2:=hide hh2
   have d0:w1.cell? ⟨w.heap.size+1+1,0,none⟩=some (.slice ka ks.length kc):=by rw [cell_of_row _ _ _ _ _ _ hnx.bF];rfl
   have d1:w1.cell? ⟨w.heap.size+1+1,1,none⟩=some (.slice ha hs.length hc):=by rw [cell_of_row _ _ _ _ _ _ hnx.bF];rfl
   have e0:=frozen_of_row w1 (w.heap.size+1+1) 0 _ _ hnx.bF
   have e1:=frozen_of_row w1 (w.heap.size+1+1) 1 _ _ hnx.bF
   have r0:w1.cell? ⟨w.heap.size,0,none⟩=some (.slice none 0 0):=by rw [cell_of_row _ _ _ _ _ _ hnx.bR];rfl
   have r1:w1.cell? ⟨w.heap.size,1,none⟩=some (.slice none 0 0):=by rw [cell_of_row _ _ _ _ _ _ hnx.bR];rfl
   have f0:=frozen_of_row w1 w.heap.size 0 _ _ hnx.bR
   have f1:=frozen_of_row w1 w.heap.size 1 _ _ hnx.bR
   have l1:w.heap.size+1+1 < w1.heap.size:=hnx.lt
   have l2:w.heap.size < w1.heap.size:=by omega
   clear hbel hk2 hh2 hpost hnx HC HI1 HF1 c0
   by_cases heq:hs2.length=hs.length
   ·have HP:=hide ((unhide HSTEP).1 heq)
    have heqI:(hs2.length:Int)=(hs.length:Int):=by omega
    clear HSTEP heq
    go_wp2_with fail
    refine bodyPost_ret (v:=.agg #[.slice ka2 ks2.length kc2,.slice ha2 hs2.length hc2]) (by simp [results,Tryz.results69,go_sem, *]) rfl
     ⟨_,_,_,_,rfl,below_then (below_put2 (unhide HN).below (Nat.le_refl _) _ _) _,World.ownsRow.alloc (own_put2 (ownsRow_less (unhide HK2) (unhide HW)) (unhide HN).bR (by decide) _ _) _,World.ownsRow.alloc (own_put2 (ownsRow_less (unhide HH2) (unhide HW)) (unhide HN).bR (by decide) _ _) _,unhide HP⟩
   ·have heqI:¬(hs2.length:Int)=(hs.length:Int):=by omega
    have HPUT:=hide ((unhide HN).put (unhide HK2) (unhide HH2) (unhide HW))
    by_cases h24:hs2.length≤24
    ·have HNX:=hide ((unhide HSTEP).2.2 heq h24)
     have h24I:(hs2.length:Int)≤24:=by omega
     clear HSTEP heq h24
     go_wp2_with fail
     go_roundw
     case rel=>exact ⟨r+1,_,_,_,_,by go_num,(unhide HPUT).next ((Below.refl _ _).alloc (Nat.le_refl _) _),unhide HNX⟩
     case measure=>have:=unhide HR;simp [intOf];omega
    ·have HP:=hide ((unhide HSTEP).2.1 (by omega))
     have h24I:(24:Int) < (hs2.length:Int):=by omega
     clear HSTEP heq h24
     go_wp2_with fail
     refine bodyPost_ret (v:=.agg #[.slice ka2 ks2.length kc2,.slice ha2 hs2.length hc2]) (by simp [results,Tryz.results69,go_sem, *]) rfl
      ⟨_,_,_,_,rfl,below_then (below_put2 (unhide HPUT).below (Nat.le_refl _) _ _) _,World.ownsRow.alloc (own_put2 (unhide HPUT).rk (unhide HPUT).bR (by decide) _ _) _,World.ownsRow.alloc (own_put2 (unhide HPUT).rh (unhide HPUT).bR (by decide) _ _) _,unhide HP⟩
  ·exfalso
   have:=hF.lo
   have:=hF.hi
   omega
end Go.Proofs.YtobfpgoepaeknaaGreat
namespace Go.Proofs.YtobfpgoepaeknaaGreat
open Go.RowKit
attribute [local go_sem ↓] Go.wp_at_zero Go.wp_at_succ
def nfT (ks hs nxs:List Nat) (M k l:Nat):Nat:=ks.getD (nlM nxs M (hs.getD k 0) l) 0
structure FoldB (w:World) (gf:Nat) (ks hs:List Nat):Prop where
 ex:∃ ka kc ha hc,w.heap[gf]?=some (.cells #[.slice ka ks.length kc,.slice ha hs.length hc] 138 (0,0))∧NRow w 0 (.slice ka ks.length kc) ks∧NRow w 0 (.slice ha hs.length hc) hs
theorem FoldB.below {w w':World} {gf:Nat} {ks hs:List Nat} (h:FoldB w gf ks hs) (hb:Below w.heap.size w w'):FoldB w' gf ks hs:=by
 obtain ⟨ka,kc,ha,hc,h1,h2,h3⟩:=h.ex
 exact ⟨ka,kc,ha,hc,by rw [hb.block _ (Array.getElem?_eq_some_iff.1 h1).1];exact h1,h2.below hb,h3.below hb⟩
structure SmallF (ks hs:List Nat):Prop where
 k:ks.length≤10000
 h:hs.length≤24
 x:∀ k,hs.getD k 0≤10000
set_option maxHeartbeats 1000000 in
theorem next_any (w:World) (g gf M:Nat) (F:Nat→Nat) (grs:List Bool) (nxs ks hs:List Nat) (h:GraphB w g M F grs nxs) (hf:FoldB w gf ks hs) (sm:Small M grs nxs) (sf:SmallF ks hs) (k l:Nat) (hl:l≤256) :
  Calls Tryz.prog 74 #[.pointer (some ⟨gf,0,none⟩),.pointer (some ⟨g,0,none⟩),.int .i64 (k:Int),.int .i64 (l:Int)] w fun e w'=>e=.returned (.int .i64 ((nfT ks hs nxs M k l:Nat):Int))∧w'=w.drew:=by
 obtain ⟨ka,kc,ha,hc,h1,h2,h3⟩:=hf.ex
 have c0:w.cell? ⟨gf,0,none⟩=some (.slice ka ks.length kc):=by rw [cell_of_row _ _ _ _ _ _ h1];rfl
 have c1:w.cell? ⟨gf,1,none⟩=some (.slice ha hs.length hc):=by rw [cell_of_row _ _ _ _ _ _ h1];rfl
 have HA:=hide (at_any w 0 _ hs k h3 (by have:=sf.h;omega))
 have HN:Hid (Calls Tryz.prog 117 #[.pointer (some ⟨g,0,none⟩),.int .i64 ((hs.getD k 0:Nat):Int),.int .i64 (l:Int)] w.drew fun e w'=>e=.returned (.int .i64 ((nlM nxs M (hs.getD k 0) l:Nat):Int))∧w'=w.drew):=Next_any w.drew g M F grs nxs h.drew _ l sm.m (sf.x k) hl sm.n
 have HK:Hid (Calls Tryz.prog 71 #[.slice ka ks.length kc,.int .i64 ((nlM nxs M (hs.getD k 0) l:Nat):Int)] w.drew fun e w'=>e=.returned (.int .i64 ((nfT ks hs nxs M k l:Nat):Int))∧w'=w.drew):=at_any w.drew 0 _ ks _ h2.drew (by have:=sf.k;omega)
 generalize nfT ks hs nxs M k l=r at *
 generalize nlM nxs M (hs.getD k 0) l=m at *
 generalize hs.getD k 0=x at *
 clear h hf sm sf h1 h2 h3 hl
 go_enter Tryz.func74,Tryz.ntmps74
 go_wp2_with fail
 refine (unhide HA).mono ?_
 rintro e w1 ⟨rfl,hww⟩
 obtain rfl:w=w1:=hww.symm
 clear hww
 go_wp2_with fail
 go_region_with (first
  | (go_at_call 117;refine (unhide HN).mono ?_;rintro e w2 ⟨rfl,hww⟩;obtain rfl:w.drew=w2:=hww.symm)
  | (go_at_call 71;refine (unhide HK).mono ?_;rintro e w2 ⟨rfl,hww⟩;obtain rfl:w.drew=w2:=hww.symm))
 all_goals
  go_wp2_with fail
  go_ret
  exact ⟨rfl,rfl⟩
set_option maxHeartbeats 1000000 in
theorem leadAlike_any (w:World) (g gf M:Nat) (F:Nat→Nat) (grs:List Bool) (nxs ks hs:List Nat) (h:GraphB w g M F grs nxs) (hf:FoldB w gf ks hs) (sm:Small M grs nxs) (sf:SmallF ks hs) (a b:Nat) (ha:a≤256) (hb:b≤256) :
  Calls Tryz.prog 116 #[.pointer (some ⟨g,0,none⟩),.pointer (some ⟨gf,0,none⟩),.int .i64 (a:Int),.int .i64 (b:Int)] w fun e w'=>(∃ y,e=.returned (.bool y)∧(y=true↔ElT hs.length (nfT ks hs nxs M) a b))∧Below w.heap.size w w':=by
 have HN:Hid (∀ W,Below w.heap.size w W→∀ k l:Nat,l≤256→Calls Tryz.prog 74 #[.pointer (some ⟨gf,0,none⟩),.pointer (some ⟨g,0,none⟩),.int .i64 (k:Int),.int .i64 (l:Int)] W fun e w'=>e=.returned (.int .i64 ((nfT ks hs nxs M k l:Nat):Int))∧w'=W.drew) :=
  fun W hW k l hl=>next_any W g gf M F grs nxs ks hs (h.below hW) (hf.below hW) sm sf k l hl
 have HF:=hide hf
 have HS:=hide sf.h
 have hsI:(hs.length:Int)≤24:=by have:=sf.h;omega
 have HA:=hide ha
 have HB:=hide hb
 clear h hf sm sf ha hb
 go_enter Tryz.func116,Tryz.ntmps116
 go_wp2_with fail
 go_loopw [9] (fun kx wr=>∃ k:Nat,kx=.int .i64 (k:Int)∧Hid (k≤hs.length∧Below w.heap.size w wr∧∀ k',k' < k→nfT ks hs nxs M k' a=nfT ks hs nxs M k' b)) (fun kx _=>hs.length - (intOf kx).toNat)
 case atStart=>exact ⟨0,rfl,Nat.zero_le _,Below.refl _ _,fun k' hk'=>absurd hk' (Nat.not_lt_zero _)⟩
 case round =>
  rename World=>wr
  obtain ⟨k,rfl,HH⟩:=hrel
  obtain ⟨hk,hB,hall⟩:=unhide HH
  obtain ⟨ka,kc,ha,hc,h1,-,-⟩:=((unhide HF).below hB).ex
  have c1:wr.cell? ⟨gf,1,none⟩=some (.slice ha hs.length hc):=by rw [cell_of_row _ _ _ _ _ _ h1];rfl
  clear h1 HH
  have HBW:=hide hB
  have HALL:=hide hall
  by_cases hlt:k < hs.length
  ·have hltI:(k:Int) < (hs.length:Int):=by omega
   have HLT:=hide hlt
   have HN1:=hide (unhide HN wr hB k a (unhide HA))
   have HN2:=hide (unhide HN wr.drew hB.drew k b (unhide HB))
   have HSN:Hid (nfT ks hs nxs M k a=nfT ks hs nxs M k b→∀ k',k' < k+1→nfT ks hs nxs M k' a=nfT ks hs nxs M k' b):=fun he k' hk'=>by
    by_cases e:k'=k
    ·subst e;exact he
    ·exact hall k' (by omega)
   have HNO:Hid (nfT ks hs nxs M k a≠nfT ks hs nxs M k b→¬ElT hs.length (nfT ks hs nxs M) a b):=fun hne hE=>hne (hE k hlt)
   clear hlt hk hB hall
   generalize nfT ks hs nxs M k a=x at *
   generalize nfT ks hs nxs M k b=y at *
   go_wp2_with fail
   refine (unhide HN1).mono ?_
   rintro e w1 ⟨rfl,hww⟩
   obtain rfl:wr.drew=w1:=hww.symm
   clear hww
   go_wp2_with fail
   refine (unhide HN2).mono ?_
   rintro e w1 ⟨rfl,hww⟩
   obtain rfl:wr.drew.drew=w1:=hww.symm
   clear hww
   by_cases hxy:x=y
   ·subst hxy
    go_wp2_with fail
    go_roundw
    case rel=>exact ⟨k+1,by go_num,unhide HLT,(unhide HBW).drew.drew,unhide HSN (by first | rfl | trivial)⟩
    case measure=>have:=unhide HLT;simp [intOf];omega
   ·have hxI:¬(x:Int)=(y:Int):=by omega
    have HX:=hide hxy
    clear hxy
    go_wp2_with fail
    go_ret
    exact ⟨⟨false,rfl,by simp;exact unhide HNO (unhide HX)⟩,(unhide HBW).drew.drew⟩
  ·have hk2:k=hs.length:=by omega
   subst hk2
   clear hk hB hall hlt
   go_wp2_with fail
   go_ret
   exact ⟨⟨true,rfl,by simp;exact unhide HALL⟩,unhide HBW⟩
end Go.Proofs.YtobfpgoepaeknaaGreat
