/-
  The document's answer: a table: the walk.
-/
import Derived.Test.YtobfpgoepaeknaaGreatTA26
import Derived.Test.YtobfpgoepaeknaaGreatTA27
namespace Go.Proofs.YtobfpgoepaeknaaGreat
namespace Mc
open Go.RowKit
attribute [local go_sem ↓] Go.wp_at_zero Go.wp_at_succ zvKd
attribute [local go_sem] kdA_size kdA_ne aggcellsT
section
theorem grS_ex (rs1:List Rn) (St:List (List ByteArray)):∃ gr:Nat→Bool,∀ i X,St[i]?=some X→(gr i=true↔stB rs1 X []):=by
 classical
 refine ⟨fun i=>decide (stB rs1 (St.getD i []) []),fun i X h=>?_⟩
 have e:St.getD i []=X:=by rw [List.getD_eq_getElem?_getD,h];rfl
 simp only [e,decide_eq_true_eq]
theorem strN_size (xs:List Nat):(strN xs).size=xs.length:=by show ((xs.map UInt8.ofNat).toArray).size=_;simp
theorem range_snoc {α:Type} (f:Nat→α) (n:Nat):(List.range (n+1)).map f=(List.range n).map f++[f n]:=by rw [List.range_succ,List.map_append];rfl
theorem range_flat {α:Type} (f:Nat→List α) (n:Nat):(List.range (n+1)).flatMap f=(List.range n).flatMap f++f n:=by rw [List.range_succ,List.flatMap_append];simp
end
theorem fn_below {rs0:List Rn} {U:List (List Nm)} {b gf:Nat} {w:World} {rs:List Rn} {L:Lang} {hbs:List Nat} {bv:Value} {wr w2:World} {sa:Option Addr} {sc:Nat} {St:List (List ByteArray)} {us:List Value} {ta:Option Addr} {tc:Nat} {T:List ByteArray} {rs1:List Rn} {na:Option Addr} {nc:Nat} {Nx:List (List Nat)} {ns:List Value} {va:Option Addr} {vc:Nat} {row:List Nat} (h:SsI rs0 U b gf w rs L hbs bv wr sa sc St us ta tc T rs1 na nc Nx ns va vc row) (k:Below wr.heap.size wr w2):FnI rs0 U b gf w rs w2 bv sa sc St us ta tc T rs1:=h.fn.below k
set_option maxRecDepth 20000 in
set_option maxHeartbeats 16000000 in
theorem RTable_ok (w:World) (p:ByteArray) (y:Go.Proofs.YtobfpgoepaeknaaGreat.St) (hp:p.size≤60) (hro:RefOk p y) (h0:(readErr p y).1=0) {n:Nat} {rs0:List Rn} {k:Nat} {R:Re} (hf:rfF n 0 p 0 0 []=some (rs0,(k:Int))) (hd:Dr rs0 R (k:Int)) (hw:R.wt≤12) :
  Calls Tryz.prog 7 #[.string p] w fun e w'=>Below w.heap.size w w'∧TblOk e R.L:=by
 obtain ⟨hk,hr121,hwf⟩:=root_lt hf hp
 have HT:=hide (trc_of hf hp hd hw)
 have HX:=hide (root_set hf hp hd hw)
 have HSA:Hid (SameA rs0 R.L):=hd.sameA
 have hpat:=RefPattern_any w p y hp hro
 rw [h0] at hpat
 generalize (readErr p y).2=pl at hpat
 have HP:=hide hpat
 have HTR:=hide (fun w1=>tree_any p w1 n (rs0,(k:Int)) hp (by show rs0.length≤1000;omega) hf)
 have HK:=hide hk
 have H121:=hide hr121
 clear hp hro h0 hf hd hw hk hr121 hwf hpat
 go_enter Tryz.func7,Tryz.ntmps7
 go_wp2_with fail
 refine (unhide HP).mono ?_
 rintro e w1 ⟨rfl,hw1⟩
 have HB1:=hide hw1
 clear hw1 HP
 go_wp2_with fail
 refine (unhide HTR w1).mono ?_
 rintro e w2 ⟨rfl,hw2,hrt⟩
 have HBY:=hide (tbytes_any w2 w1.heap.size rs0 hrt (by have:=unhide H121;omega))
 have HRT:=hide hrt
 have HB2:=hide (below_trans' (unhide HB1) hw2)
 have HSZ1:Hid (w.heap.size≤w1.heap.size):=(unhide HB1).size
 clear hw2 hrt HB1 HTR
 generalize w1.heap.size=b at *
 clear w1
 go_wp2_with fail
 refine (unhide HBY).mono ?_
 rintro e w3 ⟨va,vc,l,f,rfl,hs,hw3,hn⟩
 have HRT3:=hide (RtS_below (unhide HRT) hw3)
 have HB3:=hide (below_trans' (unhide HB2) hw3)
 have HS:=hide hs
 have HN:=hide hn
 clear HBY HRT HB2 hw3 hs hn
 generalize hka:kdA f=ka at *
 have HKA:=hide hka
 clear hka
 go_wp2_with (refine wpList_store_row0 rfl 44 _ _ rfl rfl w3.heap.size _ rfl rfl 44 _ (heap_alloc_new _ _) (by rw [←unhide HKA,kdA_size];exact infoKd) (by rw [←unhide HKA,kdA_size,kdA_size]) (by rw [←unhide HKA];exact kdA_one f) ?_;rw [setRow_alloc])
 have hB5:Below w3.heap.size w3 ((w3.alloc (.cells ka 44)).alloc (.cells #[.pointer (some ⟨b,0,none⟩),.slice va l.length vc,.slice none 0 0,.slice none 0 0] 62)):=((Below.refl _ _).alloc (Nat.le_refl _) _).alloc (by simp) _
 have hI5:=FnI.start ([Nm.o k] ::uni rs0 R k) (RtS_below (unhide HRT3) hB5) (GrowT.refl rs0) (heap_alloc2_new _ _ _)
 have hK5:((w3.alloc (.cells ka 44)).alloc (.cells #[.pointer (some ⟨b,0,none⟩),.slice va l.length vc,.slice none 0 0,.slice none 0 0] 62)).heap[w3.heap.size]?=some (.cells ka 44 (0,0)):=heap_alloc2_old _ _ _
 have HST:=hide (states_any (unhide HT) _ rs0 _ hI5 l _ ((KpN.below hB5).nr (unhide HN)) (unhide HS) (sorted_few (unhide HS)) (unhide HSA) k (by have:=unhide HK;have:=unhide H121;omega) (unhide HX).1 (unhide HX).2)
 have HB5:=hide (below_trans' (unhide HB3) hB5)
 have HI5:=hide hI5
 have HK5:=hide hK5
 have HSZ5:Hid (w.heap.size≤w3.heap.size):=(unhide HB3).size
 have hkI:(k:Int) < 256:=by have:=unhide HK;have:=unhide H121;omega
 clear hB5 hI5 hK5 HRT3 HB3
 go_wp2_with fail
 refine (unhide HST).mono ?_
 clear HST
 generalize ((w3.alloc (.cells ka 44)).alloc (.cells #[.pointer (some ⟨b,0,none⟩),.slice va l.length vc,.slice none 0 0,.slice none 0 0] 62))=w5 at *
 rintro e w6 (⟨hfv,hmany,rfl⟩ | ⟨sa,sc,St,us,ta,tc,T,rs1,na,nc,Nx,ns,rfl,hlen,hS⟩)
 ·have HB6:=hide (hfv.belowOf (unhide HB5) (unhide HSZ1) (by have:=unhide HSZ5;omega) (unhide HI5).rt)
  have HMY:=hide hmany
  clear hfv hmany
  go_wp2_with fail
  go_ret2
  exact ⟨unhide HB6,.inr ⟨rfl,.inl (unhide HMY)⟩⟩
 ·have HB6:=hide (hS.fn.fv.belowOf (unhide HB5) (unhide HSZ1) (by have:=unhide HSZ5;omega) (unhide HI5).rt)
  have HKD:=hide (hS.fn.fv.kd (unhide HI5).rt (unhide HI5).im (unhide HK5))
  have hN24:Nx.length≤24:=by have:=hS.few;omega
  have hNI:(Nx.length:Int)≤24:=by omega
  have HN24:=hide hN24
  have HNN:=hide hS.rx.nn
  have HLEN:=hide hS.len
  obtain ⟨gr,hgr⟩:=grS_ex rs1 St
  have HGRS:=hide hgr
  clear hgr
  have hdfa:=ssi_dfa (unhide HS) (unhide HSA) hS hlen (gr:=gr) (fun i X hX=>unhide HGRS i X hX)
  rw [←hlen] at hdfa
  have HDF:=hide hdfa
  have HL:=hide hlen
  have HSS:=hide hS
  have HM0:Hid (0 < l.length):=((unhide HS).zero (by omega)).1
  have hMI:(l.length:Int)≤256:=by have:=(sorted_few (unhide HS));omega
  generalize hnx:(fun i b=>Nx.flatten.getD (i * l.length+f b) 0)=nx at *
  have HNX:Hid (∀ x y,x < 256→y < 256→(colB Nx (f x) (f y)=true↔ElT Nx.length nx y x)):=fun x y hx hy=>by rw [←hnx];exact elt_iff (unhide HLEN) (unhide HS).lt hx hy
  have HNV:Hid (∀ i x,i < Nx.length→x < 256→nx i x=nxF Nx i (f x)):=fun i x hi hx=>by rw [←hnx];exact flat_at (unhide HLEN) hi ((unhide HS).lt x hx)
  clear hN24 hdfa hlen hS hnx HX HN HK5 HSZ5 HB5
  generalize w3.heap.size=gk at *
  generalize gk+1=gf at *
  go_wp2_with fail
  go_loopw [13,14,15] (fun hx cx bx wr=>∃ (c:Nat) (ha:Option Addr) (hc:Nat) (hd:List Nat) (ca:Option Addr) (cc:Nat) (cs:List Nat),hx=.slice ha hd.length hc∧cx=.slice ca cs.length cc∧bx=.int .i64 (c:Int)∧Hid (c≤256∧∃ (fs:List Nat) (cl:Nat→Nat),hd=fs.map f∧cs=(List.range c).map cl∧fs.length≤c∧Sorted c (ElT Nx.length nx) fs cl∧ClI w6 wr ha hc hd ca cc cs)) (fun _ _ bx _=>256 - (intOf bx).toNat)
  case atStart=>exact ⟨0,none,0,[],none,0,[],rfl,rfl,rfl,by show 0≤256;decide,[],fun _=>0,rfl,rfl,Nat.le_refl _,Sorted.nil _ _,ClI.start w6⟩
  case round =>
   rename World=>wr
   obtain ⟨c,ha,hc,hd,ca,cc,cs,rfl,rfl,rfl,HH⟩:=hrel
   obtain ⟨hc256,fs,cl,hhd,hcs,hfc,hSo,hI⟩:=unhide HH
   clear HH
   have HI:=hide hI
   have HHD:=hide hhd
   have HCS:=hide hcs
   have HFC:=hide hfc
   have HSO:=hide hSo
   have hdl:hd.length=fs.length:=by rw [hhd,List.length_map]
   have hcl:cs.length=c:=by rw [hcs,List.length_map,List.length_range]
   have HDL:=hide hdl
   have HCL:=hide hcl
   have hdI:(hd.length:Int)≤256:=by omega
   have HSZ:Hid (w6.heap.size≤wr.heap.size):=hI.below.size
   have hkd:wr.heap[gk]?=some (.cells ka 44 (0,0)):=(hI.below.block gk (Array.getElem?_eq_some_iff.1 (unhide HKD)).1).trans (unhide HKD)
   have hgk:=(Array.getElem?_eq_some_iff.1 hkd).1
   by_cases hlt:c < 256
   ·have hcI:(c:Int) < 256:=by omega
    have hc0:(0:Int)≤(c:Int):=by omega
    have hc1:((c:Int)).toNat=c:=by omega
    have k0:wr.cell? ⟨gk,c,none⟩=some (.int .i64 ((f c:Nat):Int)):=by rw [cell_of_row _ _ _ _ _ _ hkd,←unhide HKA];exact kdA_at f hlt
    have HLT:=hide hlt
    clear hc256 hhd hcs hfc hSo hI hdl hcl hkd hlt
    go_wp2_with fail
    go_loopw [16] (fun ix wy=>∃ i:Nat,ix=.int .i64 (i:Int)∧Hid (i≤hd.length∧ClI w6 wy ha hc hd ca cc cs∧∀ j,j < i→¬ElT Nx.length nx c (fs.getD j 0))) (fun ix _=>hd.length - (intOf ix).toNat)
    case atStart=>exact ⟨0,rfl,Nat.zero_le _,unhide HI,fun j hj=>by omega⟩
    case round =>
     clear HI HSZ hgk k0
     rename World=>wr
     obtain ⟨i,rfl,HH⟩:=hrel
     obtain ⟨hi,hI,hno⟩:=unhide HH
     clear HH
     have HI:=hide hI
     have HSZ:Hid (w6.heap.size≤wr.heap.size):=hI.below.size
     have hkd:wr.heap[gk]?=some (.cells ka 44 (0,0)):=(hI.below.block gk (Array.getElem?_eq_some_iff.1 (unhide HKD)).1).trans (unhide HKD)
     have hgk:=(Array.getElem?_eq_some_iff.1 hkd).1
     have k0:wr.cell? ⟨gk,c,none⟩=some (.int .i64 ((f c:Nat):Int)):=by rw [cell_of_row _ _ _ _ _ _ hkd,←unhide HKA];exact kdA_at f (unhide HLT)
     clear hI hkd
     by_cases hlti:i < hd.length
     ·have hiI:(i:Int) < (hd.length:Int):=by omega
      have hi0:(0:Int)≤(i:Int):=by omega
      have hi1:((i:Int)).toNat=i:=by omega
      obtain ⟨gh,ch,he,c1⟩:=(unhide HI).hr.at hlti
      simp only [Value.slice.injEq,true_and] at he
      obtain ⟨rfl,rfl⟩:=he
      have hgh:gh < wr.heap.size:=(World.ownsRow.lt (unhide HI).hr gh rfl).2
      have hfi:fs.getD i 0 < 256:=by have:=((unhide HSO).head i (by have:=unhide HDL;omega)).1;have:=unhide HLT;omega
      have hdv:hd.getD i 0=f (fs.getD i 0):=by
       rw [unhide HHD,List.getD_eq_getElem?_getD,List.getElem?_map,List.getD_eq_getElem?_getD,List.getElem?_eq_getElem (by have:=unhide HDL;omega)];rfl
      have HSC:=hide (fun n=>sameColumn_c (wr.drewN n) _ Nx ((unhide HNN).kp (KpN.below (below_drewN (unhide HI).below n))) (unhide HN24) l.length (unhide HLEN) (sorted_few (unhide HS)) (hd.getD i 0) (f c) (by rw [hdv];exact (unhide HS).lt _ hfi) ((unhide HS).lt c (unhide HLT)))
      have HEL:Hid (colB Nx (hd.getD i 0) (f c)=true↔ElT Nx.length nx c (fs.getD i 0)):=by rw [hdv];exact unhide HNX _ _ hfi (unhide HLT)
      have HLI:=hide hlti
      have HNO:=hide hno
      clear hi hno hlti hfi hdv
      generalize hd.getD i 0=hv at *
      generalize f c=fc at *
      go_wp2_with fail
      generalize colB Nx hv fc=z at *
      go_quiet ((go_at_call 25;exact Calls.quiet_of (unhide HSC _)))
      clear HSC
      cases z
      ·have HNO2:Hid (∀ j,j < i+1→¬ElT Nx.length nx c (fs.getD j 0)):=fun j hj=>by
        by_cases e:j=i
        ·subst e;exact fun h=>by simpa using (unhide HEL).2 h
        ·exact unhide HNO j (by omega)
       go_wp2_with fail
       go_roundw
       case rel=>exact ⟨i+1,by go_num,unhide HLI,(unhide HI).drewN nq,unhide HNO2⟩
       case measure=>have:=unhide HLI;simp [intOf];omega
      ·have HE2:=hide ((unhide HEL).1 rfl)
       have hne:¬(i:Int)=(hd.length:Int):=by omega
       have hi256:i < 256:=by have:=unhide HLI;omega
       have hwr:=wrapB i hi256
       have HXA:=hide (((unhide HI).drewN nq).alloc (Obj.cells #[.int .u8 (i:Int)] 5))
       clear HEL c1 k0 hi256
       go_wp2_with (at_builtin;refine appUb rfl (.tmp 83) (.tmp 86) rfl w6.heap.size _ cs rfl (unhide HXA).cr wr.heap.size i rfl (new_cell rfl) (by have:=unhide HCL;have:=unhide HLT;omega) (by have:=unhide HSZ;simp;omega) (wr.heap.size+1) (by simp) ?_;intro g5 cap5 w8 ho hgrow hlies hlt5;have HP9:=hide ((unhide HXA).pushC hgrow ho);clear ho hgrow hlies)
       go_roundw
       case rel=>exact ⟨c+1,some ⟨gh,0,none⟩,_,hd,some ⟨g5,0,none⟩,cap5,cs++[i],rfl,by simp,by go_num,unhide HLT,fs,(fun j=>if j=c then i else cl j),unhide HHD,(by rw [range_snoc,unhide HCS,if_pos rfl];exact congrArg (·++[i]) (List.map_congr_left fun j hj=>(if_neg (by have:=List.mem_range.1 hj;omega)).symm)),(by have:=unhide HFC;omega),(unhide HSO).old (ElT_eqv _ _) (by have:=unhide HLI;have:=unhide HDL;omega) (unhide HE2) (fun a ha=>if_neg (by omega)) (if_pos rfl),unhide HP9⟩
       case measure=>have:=unhide HLT;simp [intOf];omega
     ·have hi2:i=hd.length:=by omega
      subst hi2
      have HNO:=hide hno
      have hw256:hd.length < 256:=by have:=unhide HDL;have:=unhide HFC;have:=unhide HLT;omega
      have hwr:=wrapB hd.length hw256
      have HXA:=hide ((unhide HI).alloc (Obj.cells #[.int .i64 ((f c:Nat):Int)] 3))
      have HFCV:Hid (∀ fc,fc=f c→hd++[fc]=(fs++[c]).map f):=fun fc e=>by rw [List.map_append,←unhide HHD,e];rfl
      have HF9:Hid (∃ fc,fc=f c):=⟨_,rfl⟩
      clear hi hno hlti
      obtain ⟨fc,hfc⟩:=unhide HF9
      rw [←hfc] at k0 HXA
      have HFD:=hide (unhide HFCV fc hfc)
      clear HFCV HF9 hfc
      go_wp2_with (first
       | (at_builtin;refine app1 rfl (.tmp 77) (.tmp 81) rfl w6.heap.size _ hd rfl (unhide HXA).hr wr.heap.size fc rfl (new_cell rfl) (by omega) (by have:=unhide HSZ;simp;omega) (wr.heap.size+1) (by simp) ?_;intro g5 cap5 w8 ho hgrow hlies hlt5;have HP8:=hide ((unhide HXA).pushH hgrow ho);clear ho hgrow hlies)
       | (at_builtin;refine appUb rfl (.tmp 83) (.tmp 86) rfl w6.heap.size _ cs rfl ((unhide HP8).alloc (Obj.cells #[.int .u8 (hd.length:Int)] 5)).cr w8.heap.size hd.length rfl (new_cell rfl) (by have:=unhide HCL;have:=unhide HLT;omega) (by have:=(unhide HP8).below.size;simp;omega) (w8.heap.size+1) (by simp) ?_;intro g6 cap6 w9 ho hgrow hlies hlt6;have HP9:=hide (((unhide HP8).alloc (Obj.cells #[.int .u8 (hd.length:Int)] 5)).pushC hgrow ho);clear ho hgrow hlies))
      go_roundw
      case rel=>exact ⟨c+1,some ⟨g5,0,none⟩,cap5,hd++[fc],some ⟨g6,0,none⟩,cap6,cs++[hd.length],by simp,by simp,by go_num,unhide HLT,fs++[c],(fun j=>if j=c then fs.length else cl j),unhide HFD,(by rw [range_snoc,unhide HCS,if_pos rfl,unhide HDL];exact congrArg (·++[fs.length]) (List.map_congr_left fun j hj=>(if_neg (by have:=List.mem_range.1 hj;omega)).symm)),(by have:=unhide HFC;simp;omega),(unhide HSO).new (ElT_eqv _ _) (fun j hj=>unhide HNO j (by have:=unhide HDL;omega)) (fun a ha=>if_neg (by omega)) (if_pos rfl),unhide HP9⟩
      case measure=>have:=unhide HLT;simp [intOf];omega
   ·have hc2:c=256:=by omega
    subst hc2
    clear hc256 hhd hcs hfc hSo hI hdl hcl hkd hlt hgk
    by_cases h24:hd.length≤24
    ·have hhI:(hd.length:Int)≤24:=by omega
     have hhJ:¬(24:Int) < (hd.length:Int):=by omega
     have htab:=tab_of' (unhide HDF) (unhide HSO) (unhide HN24) (by have:=unhide HDL;omega)
     rw [←unhide HDL] at htab
     have HTAB:=hide htab
     have hcs256:∀ x∈cs,x < 256:=fun x hx=>by
      rw [unhide HCS] at hx
      obtain ⟨q,hq,rfl⟩:=List.mem_map.1 hx
      have:=htab.cols.lt q (List.mem_range.1 hq)
      omega
     obtain ⟨gc,capc,he⟩:=own_slice' (unhide HI).cr (by have:=unhide HCL;omega)
     simp only [Value.slice.injEq,true_and] at he
     obtain ⟨rfl,rfl⟩:=he
     have HXA:=hide ((unhide HI).alloc (Obj.cells #[.int .u8 (Nx.length:Int),.int .u8 (hd.length:Int)] 5))
     have hw1:=wrapB Nx.length (by have:=unhide HN24;omega)
     have hw2:=wrapB hd.length (by omega)
     have hrow:URow (wr.alloc (Obj.cells #[.int .u8 (Nx.length:Int),.int .u8 (hd.length:Int)] 5)) 0 (.slice (some ⟨wr.heap.size,0,none⟩) [Nx.length,hd.length].length 2) [Nx.length,hd.length]:=⟨rfl,.inr ⟨_,2,_,rfl,Nat.zero_le _,heap_alloc_new _ _,Nat.le_refl _,by unfold maxLen;omega,rfl,rfl⟩⟩
     have hcv1:=conv_row hrow (fun x hx=>by have:=unhide HN24;simp at hx;omega)
     have hcv2:=conv_row (unhide HXA).cr hcs256
     have HXS:Hid (∀ s,s=strN [Nx.length,hd.length]++strN cs→s=strN ([Nx.length,hd.length]++(List.range 256).map cl++(List.range 0).map (fun i=>if gr i then 1 else 0))):=fun s hs=>by rw [hs,←strN_app,←unhide HCS];simp
     have HBE:=hide (unhide HXA).below
     have HHR:=hide (unhide HXA).hr
     clear htab hcs256 hrow HXA HSZ HI
     simp only [List.length_cons,List.length_nil] at hcv1
     have hz:¬9223372036854775807 < (strN [Nx.length,hd.length]).size+(strN cs).size:=by rw [strN_size,strN_size];have:=unhide HCL;simp;omega
     generalize strN [Nx.length,hd.length]=s1 at *
     generalize strN cs=s2 at *
     go_wp2_with fail
     generalize wr.alloc (Obj.cells #[.int .u8 (Nx.length:Int),.int .u8 (hd.length:Int)] 5)=wE at *
     clear hcv1 hcv2 hw1 hw2
     go_loopw [18,19] (fun ox ix wx=>∃ (i:Nat) (s:ByteArray),ox=.string s∧ix=.int .i64 (i:Int)∧Hid (i≤Nx.length∧s=strN ([Nx.length,hd.length]++(List.range 256).map cl++(List.range i).map (fun i=>if gr i then 1 else 0))∧Below wE.heap.size wE wx)) (fun _ ix _=>Nx.length - (intOf ix).toNat)
     case atStart=>exact ⟨0,_,rfl,rfl,Nat.zero_le _,unhide HXS _ rfl,Below.refl _ _⟩
     case round =>
      clear HXS
      rename World=>wx
      obtain ⟨i,s,rfl,rfl,HH⟩:=hrel
      obtain ⟨hi,hsx,hB⟩:=unhide HH
      clear HH
      by_cases hlt:i < Nx.length
      ·have hiI:(i:Int) < (Nx.length:Int):=by omega
       have hi0:(0:Int)≤(i:Int):=by omega
       have hi1:((i:Int)).toNat=i:=by omega
       have hfn:=fn_below (unhide HSS) (below_trans' (unhide HBE) hB)
       obtain ⟨X,hX⟩:∃ X,St[i]?=some X:=⟨_,List.getElem?_eq_getElem (by have:=unhide HL;omega)⟩
       obtain ⟨gs,u,rfl,hgs,cu,hru⟩:=hfn.at hX
       have f2:=hfn.c2
       have hgf:=hfn.lt
       have hsI:(i:Int) < (St.length:Int):=by have:=unhide HL;omega
       have hsJ:(St.length:Int)≤24:=by have:=unhide HL;omega
       have HEN:=hide (ends_c (unhide HT) wx rs1 hfn.rt hfn.gr 0 u X hru (hfn.sets X (List.mem_of_getElem? hX)))
       obtain ⟨ua,uc,rfl⟩:=hru.form
       have HGR:Hid (∀ z:Bool,(z=true↔stB rs1 X [])→z=gr i):=fun z hz=>Bool.eq_iff_iff.2 (hz.trans (unhide HGRS _ _ hX).symm)
       have HLT:=hide hlt
       have HB:=hide hB
       have HSX:=hide hsx
       have hz:¬9223372036854775807 < s.size+1:=by rw [hsx,strN_size];simp;omega
       clear hi hlt hfn hX hru hB hsx
       go_wp2_with fail
       refine (unhide HEN).mono ?_
       rintro e w7 ⟨⟨z,rfl,hz⟩,hw7⟩
       have HZ:=hide (unhide HGR z hz)
       have HB7:=hide (below_trans' (unhide HB) hw7)
       clear HEN HGR hz hw7 f2 cu
       cases z
       ·have HNW:Hid (s++⟨#[0]⟩=strN ([Nx.length,hd.length]++(List.range 256).map cl++(List.range (i+1)).map (fun i=>if gr i then 1 else 0))):=by
         show _=_
         rw [range_snoc (fun i=>if gr i then 1 else 0) i,←List.append_assoc,strN_app,←unhide HSX,←unhide HZ];rfl
        go_wp2_with fail
        go_roundw
        case rel=>exact ⟨i+1,_,rfl,by go_num,unhide HLT,unhide HNW,unhide HB7⟩
        case measure=>have:=unhide HLT;simp [intOf];omega
       ·have HNW:Hid (s++⟨#[1]⟩=strN ([Nx.length,hd.length]++(List.range 256).map cl++(List.range (i+1)).map (fun i=>if gr i then 1 else 0))):=by
         show _=_
         rw [range_snoc (fun i=>if gr i then 1 else 0) i,←List.append_assoc,strN_app,←unhide HSX,←unhide HZ];rfl
        go_wp2_with fail
        go_roundw
        case rel=>exact ⟨i+1,_,rfl,by go_num,unhide HLT,unhide HNW,unhide HB7⟩
        case measure=>have:=unhide HLT;simp [intOf];omega
      ·have hi2:i=Nx.length:=by omega
       subst hi2
       have HB:=hide hB
       have HSX:=hide hsx
       clear hi hlt hB hsx
       go_wp2_with fail
       obtain ⟨pre,hpre⟩:∃ pre,pre=[Nx.length,hd.length]++(List.range 256).map cl++(List.range Nx.length).map (fun i=>if gr i then 1 else 0):=⟨_,rfl⟩
       rw [←hpre] at HSX
       have HPRE:=hide hpre
       clear hpre
       go_loopw [18,21] (fun ox ix wx=>∃ (i:Nat) (s:ByteArray),ox=.string s∧ix=.int .i64 (i:Int)∧Hid (i≤Nx.length∧s=strN (pre++(List.range i).flatMap (fun i=>(List.range hd.length).map (fun c=>nx i (fs.getD c 0))))∧Below wE.heap.size wE wx)) (fun _ ix _=>Nx.length - (intOf ix).toNat)
       case atStart=>exact ⟨0,_,rfl,rfl,Nat.zero_le _,by rw [unhide HSX];simp,unhide HB⟩
       case round =>
        clear HSX HB
        rename World=>wx
        obtain ⟨i,s,rfl,rfl,HH⟩:=hrel
        obtain ⟨hi,hsx,hB⟩:=unhide HH
        clear HH
        have HB:=hide hB
        have HSX:=hide hsx
        by_cases hlt:i < Nx.length
        ·have hiI:(i:Int) < (Nx.length:Int):=by omega
         have hi0:(0:Int)≤(i:Int):=by omega
         have hi1:((i:Int)).toNat=i:=by omega
         have HLT:=hide hlt
         obtain ⟨pri,hpri⟩:∃ pri,pri=pre++(List.range i).flatMap (fun i=>(List.range hd.length).map (fun c=>nx i (fs.getD c 0))):=⟨_,rfl⟩
         rw [←hpri] at HSX
         have HPRI:=hide hpri
         clear hi hlt hB hsx hpri
         go_wp2_with fail
         go_loopw [18,22] (fun ox cx wx=>∃ (c:Nat) (s:ByteArray),ox=.string s∧cx=.int .i64 (c:Int)∧Hid (c≤hd.length∧s=strN (pri++(List.range c).map (fun c=>nx i (fs.getD c 0)))∧Below wE.heap.size wE wx)) (fun _ cx _=>hd.length - (intOf cx).toNat)
         case atStart=>exact ⟨0,_,rfl,rfl,Nat.zero_le _,by rw [unhide HSX];simp,unhide HB⟩
         case round =>
          clear HSX HB
          rename World=>wz
          obtain ⟨c,s,rfl,rfl,HH⟩:=hrel
          obtain ⟨hc,hsx,hB⟩:=unhide HH
          clear HH
          by_cases hlt:c < hd.length
          ·have hcI:(c:Int) < (hd.length:Int):=by omega
           have hc0:(0:Int)≤(c:Int):=by omega
           have hc1:((c:Int)).toNat=c:=by omega
           obtain ⟨gn,gi,ci,rfl,hgn,hgi,kn,hkn⟩:=((unhide HNN).kp (KpN.below (below_trans' (unhide HBE) hB))).at (unhide HLEN) (unhide HLT) (unhide HM0)
           obtain ⟨gh,ch,he,kh⟩:=((KpN.below hB).nr (unhide HHR)).at hlt
           simp only [Value.slice.injEq,true_and] at he
           obtain ⟨rfl,rfl⟩:=he
           have hgh:gh < wz.heap.size:=World.block_lt_of_cell? wz ⟨gh,c,none⟩ kh
           have hfi:fs.getD c 0 < 256:=((unhide HSO).head c (by have:=unhide HDL;omega)).1
           have hdv:hd.getD c 0=f (fs.getD c 0):=by
            rw [unhide HHD,List.getD_eq_getElem?_getD,List.getElem?_map,List.getD_eq_getElem?_getD,List.getElem?_eq_getElem (by have:=unhide HDL;omega)];rfl
           have hdM:hd.getD c 0 < l.length:=by rw [hdv];exact (unhide HS).lt _ hfi
           have ki:=hkn _ hdM
           rw [hdv,←unhide HNV i _ (unhide HLT) hfi,←hdv] at ki
           have hq256:nx i (fs.getD c 0) < 256:=by have:=(unhide HTAB).dfa.lt i _ (unhide HLT) hfi;have:=unhide HN24;omega
           have hdMI:(hd.getD c 0:Int) < (l.length:Int):=by omega
           have hdM0:(0:Int)≤(hd.getD c 0:Int):=by omega
           have hdM1:((hd.getD c 0:Int)).toNat=hd.getD c 0:=by omega
           have hwq:=wrapB _ hq256
           have hcv:=conv_cell (wz.alloc (.cells #[.int .u8 ((nx i (fs.getD c 0):Nat):Int)] 5)) wz.heap.size _ hq256 (new_cell rfl)
           have hcv':=conv_cell (wz.alloc (.cells #[.int .u8 ((nx i (fs.getD c 0):Nat):Int)] 5)).drew wz.heap.size _ hq256 (new_cell rfl)
           have HNW:Hid (s++oneB (nx i (fs.getD c 0))=strN (pri++(List.range (c+1)).map (fun c=>nx i (fs.getD c 0)))):=by
            show _=_
            rw [range_snoc (fun c=>nx i (fs.getD c 0)) c,←List.append_assoc,strN_app,←hsx];rfl
           have hz:¬9223372036854775807 < s.size+(oneB (nx i (fs.getD c 0))).size:=by
            have h1:i * hd.length≤24 * 24:=Nat.mul_le_mul (by have:=unhide HLT;have:=unhide HN24;omega) h24
            have h2:(oneB (nx i (fs.getD c 0))).size=1:=rfl
            rw [hsx,strN_size,unhide HPRI,unhide HPRE,h2,List.length_append,List.length_append,flat_len]
            simp
            have:=unhide HN24
            omega
           have HBW:=hide (hB.alloc hB.size (.cells #[.int .u8 ((nx i (fs.getD c 0):Nat):Int)] 5)).drew
           have HLC:=hide hlt
           clear hc hsx hB hlt hkn hfi hdv hdM hq256
           generalize nx i (fs.getD c 0)=q at *
           generalize hd.getD c 0=hq at *
           generalize oneB q=oq at *
           go_wp2_with fail
           go_region
           all_goals
            go_wp2_with fail
            go_roundw
            case rel=>exact ⟨c+1,_,rfl,by go_num,unhide HLC,unhide HNW,unhide HBW⟩
            case measure=>have:=unhide HLC;simp [intOf];omega
          ·have hc2:c=hd.length:=by omega
           subst hc2
           have HSX:Hid (s=strN (pre++(List.range (i+1)).flatMap (fun i=>(List.range hd.length).map (fun c=>nx i (fs.getD c 0))))):=by
            show _=_
            rw [range_flat,←List.append_assoc,←unhide HPRI];exact hsx
           have HB:=hide hB
           clear hc hsx hB hlt
           go_wp2_with fail
           go_roundw
           case rel=>exact ⟨i+1,_,rfl,by go_num,unhide HLT,unhide HSX,unhide HB⟩
           case measure=>have:=unhide HLT;simp [intOf];omega
        ·have hi2:i=Nx.length:=by omega
         subst hi2
         have HBZ:=hide (below_trans' (unhide HB6) (below_trans' (unhide HBE) hB))
         have HFIN:Hid (s=strN (layTab Nx.length hd.length cl gr (fun k c=>nx k (fs.getD c 0)))):=by
          show _=_
          rw [hsx,unhide HPRE];rfl
         clear hi hlt hB hsx
         go_wp2_with fail
         go_ret2
         exact ⟨unhide HBZ,.inl ⟨_,_,_,_,_,_,by rw [unhide HFIN];rfl,unhide HTAB⟩⟩
    ·have hhI:(24:Int) < (hd.length:Int):=by omega
     have HMY:Hid (ManyClasses R.L):=many_of' (unhide HDF) (unhide HSO) (by have:=unhide HDL;omega)
     have HBZ:=hide (below_trans' (unhide HB6) (unhide HI).below)
     clear HI HDF h24
     go_wp2_with fail
     go_ret2
     exact ⟨unhide HBZ,.inr ⟨rfl,.inr (unhide HMY)⟩⟩
end Mc
end Go.Proofs.YtobfpgoepaeknaaGreat
