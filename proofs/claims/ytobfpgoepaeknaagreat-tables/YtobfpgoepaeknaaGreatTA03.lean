/-
  The reader of patterns: pieces, branches, patterns; every pattern is read.
  The weights of nodes: weightAt, weighNode.
  The weight of a tree: weigh.
  pattern.Read and veil.Pattern: what they answer, by the reading of a text.
-/
import Derived.Test.YtobfpgoepaeknaaGreatTA02
import Derived.Test.YtobfpgoepaeknaaGreatTA00
namespace Go.Proofs.YtobfpgoepaeknaaGreat
open Go.RowKit
def LoopOk (c:Nat) (t:ByteArray) (x:St):Prop :=
 x.s.k≤t.size∧x.fs.length≤x.ns.length∧x.ns.length≤960∧(x.s.bad=false→x.ns.length+4 * (t.size - x.s.k)≤c)
theorem not_bad_of_atom {t:ByteArray} {s:S1} (h:atAtomB (s.pk t)=true):s.bad=false:=by
 cases hb:s.bad
 ·rfl
 ·rw [pk_bad hb] at h;simp [atAtomB,isPlainB] at h
theorem not_bad_of_suffix {t:ByteArray} {s:S1} (h:atSuffixB (s.pk t)=true):s.bad=false:=by
 cases hb:s.bad
 ·rfl
 ·rw [pk_bad hb] at h;simp [atSuffixB] at h
set_option maxHeartbeats 400000 in
theorem piece_of_atom (t:ByteArray) (ht:t.size≤60) (m:Nat) (ha:Does 158 6 t m):Does 145 4 t m:=by
 intro w b x h hok hm
 have HA:=hide (ha w b x h hok hm)
 obtain ⟨hk,hfs,hns⟩:=hok
 clear ha
 go_enter Tryz.func145,Tryz.ntmps145
 go_wp2_with fail
 refine (unhide HA).mono ?_
 rintro e w1 ⟨y,i,rfl,hr,hw1⟩
 obtain ⟨g1,l1⟩:Grows t 1 x y∧Slim x y:=Rds.facts hk hr
 have hy:LoopOk 900 t y:=by
  refine ⟨g1.2.1,g1.2.2.1 hfs,?_,fun hb=>?_⟩
  ·have:=g1.2.2.2;have:=g1.2.1;omega
  ·have:=(l1 hb).2;have:=g1.2.1;omega
 have HR:=hide hr
 have HY:=hide hy
 have hlft:left t y.s≤t.size+1:=by unfold left;split<;>omega
 have HLF:=hide hlft
 clear hr hy g1 l1 hlft HA
 go_wp2_with fail
 go_loopg [3] (t.size+1) (fun n p wr=>∃ (j:Int) (z:St),p=.int .i64 j∧Hid (left t z.s≤n∧LoopOk 900 t z∧PostS w wr b t z∧∀ r,Rds t 5 j z r→Rds t 4 0 x r))
 case atStart=>exact ⟨i,y,rfl,unhide HLF,unhide HY,hw1,fun r hr=>Rds.piece (unhide HR) hr⟩
 case round =>
  obtain ⟨j,z,rfl,H⟩:=hrel
  obtain ⟨hl,hz,pz,hcont⟩:=unhide H
  have HL:=hide hl
  have HZ:=hide hz
  have HC:=hide hcont
  have hkz:=hz.1
  have hnz:z.ns.length≤1000:=by have:=hz.2.2.1;omega
  clear hl hz hcont H
  by_cases hc:atSuffixB (z.s.pk t)=true
  ·go_wp2_with fail
   refine (atSuffix_S _ b t z pz.2 ht hkz).mono ?_
   rintro e w2 ⟨rfl,hw2⟩
   go_wp2_with fail
   refine (readSuffix_any _ b t z j hw2.2 ht hkz hnz).mono ?_
   rintro e w3 ⟨rfl,hw3⟩
   obtain ⟨a1,a2,a3,a4,a5⟩:=readSuffixS_facts (whole:=j) hkz hc
   have hbz:=not_bad_of_suffix hc
   have hlt:=left_goes (t:=t) hbz a2 (Or.inr a3)
   have hn3:LoopOk 900 t (readSuffixS t j z):=by
    obtain ⟨z1,z2,z3,z4⟩:=unhide HZ
    have z5:=z4 hbz
    refine ⟨a2,by rw [a4,a5];omega,by rw [a4];omega,fun _=>by rw [a4];omega⟩
   have H3:=hide hn3
   have HLT:=hide hlt
   have HK:=hide (fun r hr=>unhide HC r (Rds.suffix hc hr))
   clear a1 a2 a3 a4 a5 hn3 hlt
   go_wp2
   go_roundg (gk - 1)
   case measure=>have:=unhide HL;have:=unhide HLT;omega
   case rel=>exact ⟨_,_,rfl,by have:=unhide HL;have:=unhide HLT;omega,unhide H3,(pz.trans hw2).trans hw3,unhide HK⟩
  ·have hc':atSuffixB (z.s.pk t)=false:=by simpa using hc
   clear hc
   go_wp2_with fail
   refine (atSuffix_S _ b t z pz.2 ht hkz).mono ?_
   rintro e w2 ⟨rfl,hw2⟩
   have HE:=hide (unhide HC _ (Rds.suffixEnd hc'))
   go_wp2
   go_ret
   exact ⟨_,_,rfl,unhide HE,pz.trans hw2⟩
set_option maxHeartbeats 400000 in
theorem branch_of_piece (t:ByteArray) (ht:t.size≤60) (m:Nat) (ha:Does 145 4 t m):Does 103 2 t m:=by
 intro w b x h hok hm
 have HA:=hide (fun w1 h1=>ha w1 b x h1 hok hm)
 obtain ⟨hk,hfs,hns⟩:=hok
 have HA2:=hide ha
 have hn0:x.ns.length≤1000:=by omega
 clear ha
 by_cases hc:atAtomB (x.s.pk t)=true
 ·go_enter Tryz.func103,Tryz.ntmps103
  go_wp2_with fail
  refine (atAtom_S _ b t x h ht hk).mono ?_
  rintro e w0 ⟨rfl,hw0⟩
  go_wp2_with fail
  refine (unhide HA w0 hw0.2).mono ?_
  rintro e w1 ⟨y,i,rfl,hr,hw1⟩
  have p1:=hw0.trans hw1
  obtain ⟨g1,l1⟩:Grows t 1 x y∧Slim x y:=Rds.facts hk hr
  have hy:LoopOk 900 t y:=by
   refine ⟨g1.2.1,g1.2.2.1 hfs,?_,fun hb=>?_⟩
   ·have:=g1.2.2.2;have:=g1.2.1;omega
   ·have:=(l1 hb).2;have:=g1.2.1;omega
  have hxy:x.s.k≤y.s.k:=g1.1.1
  have HR:=hide (fun r hr'=>Rds.branch (whole:=0) hc hr (r:=r) hr')
  have HY:=hide hy
  have hlft:left t y.s≤t.size+1:=by unfold left;split<;>omega
  have HLF:=hide hlft
  clear hr hy g1 l1 hlft HA hw0 hw1 hc
  go_wp2_with fail
  go_loopg [3] (t.size+1) (fun n p wr=>∃ (j:Int) (z:St),p=.int .i64 j∧Hid (left t z.s≤n∧LoopOk 900 t z∧x.s.k≤z.s.k∧PostS w wr b t z∧∀ r,Rds t 3 j z r→Rds t 2 0 x r))
  case atStart=>exact ⟨i,y,rfl,unhide HLF,unhide HY,hxy,p1,unhide HR⟩
  case round =>
   obtain ⟨j,z,rfl,H⟩:=hrel
   obtain ⟨hl,hz,hxz,pz,hcont⟩:=unhide H
   have HL:=hide hl
   have HZ:=hide hz
   have HC:=hide hcont
   have hkz:=hz.1
   clear hl hz hcont H p1 HLF HY HR
   by_cases hc:atAtomB (z.s.pk t)=true
   ·have hbz:=not_bad_of_atom hc
    obtain ⟨z1,z2,z3,z4⟩:=unhide HZ
    have z5:=z4 hbz
    have hlz:z.s.k < t.size:=by
     apply (S1.pk_lt (t:=t) (s:=z.s) ?_).2
     have:=hc
     simp only [atAtomB,Bool.or_eq_true,beq_iff_eq] at this
     rcases this with (((g | g) | g) | g) | g
     ·omega
     ·omega
     ·omega
     ·omega
     ·exact isPlainB_pos g
    have HOK:=hide (show OkS t z from ⟨hkz,z2,z5⟩)
    have hm':t.size - z.s.k≤m:=by omega
    clear z4
    go_wp2_with fail
    refine (atAtom_S _ b t z pz.2 ht hkz).mono ?_
    rintro e w2 ⟨rfl,hw2⟩
    go_wp2_with fail
    refine (unhide HA2 w2 b z hw2.2 (unhide HOK) hm').mono ?_
    rintro e w3 ⟨y2,i2,rfl,hr2,hw3⟩
    obtain ⟨g1,l1⟩:Grows t 1 z y2∧Slim z y2:=Rds.facts hkz hr2
    have hgo:y2.s.bad=true∨z.s.k < y2.s.k:=by
     cases hb:y2.s.bad
     ·exact Or.inr (l1 hb).1
     ·exact Or.inl rfl
    have HLT:=hide (left_goes (t:=t) hbz g1.2.1 hgo)
    have hn2:y2.ns.length≤1000:=by have:=g1.2.2.2;have:=g1.2.1;omega
    have H3:Hid (LoopOk 900 t (y2.add ⟨2,j,i2,0,0,0⟩)):=by
     refine ⟨g1.2.1,?_,?_,fun hb=>?_⟩
     ·have:=g1.2.2.1 z2;simp only [St.add,List.length_append,List.length_cons,List.length_nil];omega
     ·have:=g1.2.2.2;have:=g1.2.1;simp only [St.add,List.length_append,List.length_cons,List.length_nil];omega
     ·have:=(l1 hb).2;have:=g1.2.1;simp only [St.add,List.length_append,List.length_cons,List.length_nil];omega
    have hxy2:x.s.k≤y2.s.k:=by have:=g1.1.1;omega
    have HK:=hide (fun r hr=>unhide HC r (Rds.join hc hr2 hr))
    clear g1 l1 hgo hr2
    go_wp2_with fail
    refine (add_S _ b t y2 2 j i2 0 0 0 hw3.2 hn2).mono ?_
    rintro e w4 ⟨rfl,hw4⟩
    go_wp2
    go_roundg (gk - 1)
    case measure=>have:=unhide HL;have:=unhide HLT;omega
    case rel=>exact ⟨_,_,rfl,by have:=unhide HL;have:=unhide HLT;show left t y2.s≤gk - 1;omega,unhide H3,hxy2,((pz.trans hw2).trans hw3).trans hw4,unhide HK⟩
   ·have hc':atAtomB (z.s.pk t)=false:=by simpa using hc
    clear hc
    go_wp2_with fail
    refine (atAtom_S _ b t z pz.2 ht hkz).mono ?_
    rintro e w2 ⟨rfl,hw2⟩
    have HE:=hide (unhide HC _ (Rds.joinEnd hc'))
    go_wp2
    go_ret
    exact ⟨_,_,rfl,unhide HE,pz.trans hw2⟩
 ·have hc':atAtomB (x.s.pk t)=false:=by simpa using hc
  clear hc
  go_enter Tryz.func103,Tryz.ntmps103
  go_wp2_with fail
  refine (atAtom_S _ b t x h ht hk).mono ?_
  rintro e w0 ⟨rfl,hw0⟩
  go_wp2_with fail
  refine (add_S _ b t x 0 0 0 0 0 0 hw0.2 hn0).mono ?_
  rintro e w1 ⟨rfl,hw1⟩
  have HE:=hide (Rds.branchNone (whole:=0) hc')
  go_wp2
  go_ret
  exact ⟨_,_,rfl,unhide HE,hw0.trans hw1⟩
set_option maxHeartbeats 400000 in
theorem pattern_of_branch (t:ByteArray) (ht:t.size≤60) (m:Nat) (ha:Does 103 2 t m):Does 58 0 t m:=by
 intro w b x h hok hm
 have HA:=hide (ha w b x h hok hm)
 obtain ⟨hk,hfs,hns⟩:=hok
 have HA2:=hide ha
 clear ha
 go_enter Tryz.func58,Tryz.ntmps58
 go_wp2_with fail
 refine (unhide HA).mono ?_
 rintro e w1 ⟨y,i,rfl,hr,p1⟩
 have g1:Grows t 1 x y:=Rds.facts hk hr
 have hy:LoopOk 901 t y:=by
  refine ⟨g1.2.1,g1.2.2.1 hfs,?_,fun hb=>?_⟩
  ·have:=g1.2.2.2;have:=g1.2.1;omega
  ·have:=g1.2.2.2;have:=g1.2.1;omega
 have hxy:x.s.k≤y.s.k:=g1.1.1
 have HR:=hide (fun r hr'=>Rds.pattern (whole:=0) hr (r:=r) hr')
 have HY:=hide hy
 have hlft:left t y.s≤t.size+1:=by unfold left;split<;>omega
 have HLF:=hide hlft
 clear hr hy g1 hlft HA
 go_wp2_with fail
 go_loopg [3] (t.size+1) (fun n p wr=>∃ (j:Int) (z:St),p=.int .i64 j∧Hid (left t z.s≤n∧LoopOk 901 t z∧x.s.k≤z.s.k∧PostS w wr b t z∧∀ r,Rds t 1 j z r→Rds t 0 0 x r))
 case atStart=>exact ⟨i,y,rfl,unhide HLF,unhide HY,hxy,p1,unhide HR⟩
 case round =>
  obtain ⟨j,z,rfl,H⟩:=hrel
  obtain ⟨hl,hz,hxz,pz,hcont⟩:=unhide H
  have HL:=hide hl
  have HZ:=hide hz
  have HC:=hide hcont
  have hkz:=hz.1
  clear hl hz hcont H p1 HLF HY HR
  by_cases hc:(z.s.pk t == 124)=true
  ·obtain ⟨hbz,hlz⟩:=S1.pk_lt (t:=t) (s:=z.s) (by rw [beq_iff_eq] at hc;omega)
   obtain ⟨z1,z2,z3,z4⟩:=unhide HZ
   have z5:=z4 hbz
   have e1:=takeS_eq hc
   have HOK:Hid (OkS t (z.at (takeS t 124 z.s))):=by
    refine ⟨takeS_le (by omega) hkz,z2,?_⟩
    rw [e1];simp only [St.at];omega
   have hm':t.size - (z.at (takeS t 124 z.s)).s.k≤m:=by rw [e1];simp only [St.at];omega
   have hks:(takeS t 124 z.s).k=z.s.k+1:=by rw [e1]
   have HKS:=hide hks
   have HC':=hide hc
   clear z4 e1 hks
   go_wp2_with fail
   refine (take_S _ b t z 124 pz.2 ht hkz).mono ?_
   rintro e w2 ⟨rfl,hw2⟩
   go_wp2_with fail
   refine (unhide HA2 w2 b _ hw2.2 (unhide HOK) hm').mono ?_
   rintro e w3 ⟨y2,i2,rfl,hr2,hw3⟩
   have g1:Grows t 1 (z.at (takeS t 124 z.s)) y2:=Rds.facts (unhide HOK).1 hr2
   have n1:=g1.2.2.2
   have n2:=g1.1.1
   simp only [St.at,unhide HKS] at n1 n2
   have HLT:=hide (left_goes (t:=t) hbz g1.2.1 (Or.inr (by omega)))
   have hn2:y2.ns.length≤1000:=by have:=g1.2.1;omega
   have H3:Hid (LoopOk 901 t (y2.add ⟨3,j,i2,0,0,0⟩)):=by
    refine ⟨g1.2.1,?_,?_,fun hb=>?_⟩
    ·have:=g1.2.2.1 z2;simp only [St.add,List.length_append,List.length_cons,List.length_nil];omega
    ·have:=g1.2.1;simp only [St.add,List.length_append,List.length_cons,List.length_nil];omega
    ·have:=g1.2.1;simp only [St.add,List.length_append,List.length_cons,List.length_nil];omega
   have hxy2:x.s.k≤y2.s.k:=by omega
   have HK:=hide (fun r hr=>unhide HC r (Rds.alt (unhide HC') hr2 hr))
   clear g1 hr2 n1 n2
   go_wp2_with fail
   refine (add_S _ b t y2 3 j i2 0 0 0 hw3.2 hn2).mono ?_
   rintro e w4 ⟨rfl,hw4⟩
   go_wp2
   go_roundg (gk - 1)
   case measure=>have:=unhide HL;have:=unhide HLT;omega
   case rel=>exact ⟨_,_,rfl,by have:=unhide HL;have:=unhide HLT;show left t y2.s≤gk - 1;omega,unhide H3,hxy2,((pz.trans hw2).trans hw3).trans hw4,unhide HK⟩
  ·have hc':(z.s.pk t == 124)=false:=by simpa using hc
   have t1:z.at (takeS t 124 z.s)=z:=by simp only [takeS,hc'];rfl
   have HT:=hide t1
   clear hc t1
   go_wp2_with fail
   refine (take_S _ b t z 124 pz.2 ht hkz).mono ?_
   rw [unhide HT]
   rintro e w2 ⟨rfl,hw2⟩
   have HE:=hide (unhide HC _ (Rds.altEnd hc'))
   go_wp2
   go_ret
   exact ⟨_,_,rfl,unhide HE,pz.trans hw2⟩
theorem readPattern_any (t:ByteArray) (ht:t.size≤60):∀ m,Does 58 0 t m:=by
 intro m
 induction m using Nat.strongRecOn with
 | _ m ih=>exact pattern_of_branch t ht m (branch_of_piece t ht m (piece_of_atom t ht m (atom_of_pattern t ht m ih)))
end Go.Proofs.YtobfpgoepaeknaaGreat
namespace Go.Proofs.YtobfpgoepaeknaaGreat
open Go.RowKit
def IntRow (w:World) (g:Nat) (ws:List Int):Prop:=∀ j:Nat,j < ws.length→w.cell? ⟨g,j,none⟩=some (.int .i64 (ws.getD j 0))
set_option maxHeartbeats 400000 in
theorem weightAt_any (w:World) (g cap:Nat) (ws:List Int) (i:Int) (h:IntRow w g ws) :
  Calls Tryz.prog 147 #[.slice (some ⟨g,0,none⟩) ws.length cap,.int .i64 i] w fun e w' =>
   e=.returned (.int .i64 (wAt ws i))∧w'=w:=by
 by_cases h0:i < 0
 ·have e1:wAt ws i=0:=by unfold wAt;rw [if_pos (Or.inl h0)]
  rw [e1]
  clear e1
  go_enter Tryz.func147,Tryz.ntmps147
  go_wp2
  go_ret
  exact ⟨rfl,rfl⟩
 ·by_cases h1:(ws.length:Int)≤i
  ·have e1:wAt ws i=0:=by unfold wAt;rw [if_pos (Or.inr h1)]
   rw [e1]
   clear e1
   go_enter Tryz.func147,Tryz.ntmps147
   go_wp2
   go_ret
   exact ⟨rfl,rfl⟩
  ·have e1:wAt ws i=ws.getD i.toNat 0:=by unfold wAt;rw [if_neg (by omega)]
   rw [e1]
   obtain ⟨j,rfl⟩:=Int.eq_ofNat_of_zero_le (by omega:0≤i)
   have hc:=h j (by omega)
   rw [Int.toNat_natCast]
   generalize ws.getD j 0=v at *
   have hj:(j:Int) < (ws.length:Int):=by omega
   clear e1 h h0
   go_enter Tryz.func147,Tryz.ntmps147
   go_wp2
   go_ret
   exact ⟨rfl,rfl⟩
theorem IntRow.alloc {w:World} {g:Nat} {ws:List Int} (h:IntRow w g ws) (o:Obj):IntRow (w.alloc o) g ws:=by
 intro j hj
 have h1:=h j hj
 have hlt:=block_lt_of_cell h1
 rw [World.cell?_of_block (w:=w) (Below.heap_alloc w o g hlt)]
 exact h1
theorem IntRow.drewN {w:World} {g:Nat} {ws:List Int} (h:IntRow w g ws) (n:Nat):IntRow (w.drewN n) g ws:=h
theorem clamp1 {w:Int} (h:w < 1):(1:Int)=clampW w:=by unfold clampW;rw [if_pos h]
theorem clamp2 {w:Int} (_h1:1≤w) (h:13 < w):(13:Int)=clampW w:=by unfold clampW;rw [if_neg (by omega),if_pos h]
theorem clamp3 {w:Int} (h1:1≤w) (h:w≤13):w=clampW w:=by unfold clampW;rw [if_neg (by omega),if_neg (by omega)]
set_option maxHeartbeats 1000000 in
theorem weighNode_any (w:World) (g cap:Nat) (ws:List Int) (k l r lo hi st:Int) (h:IntRow w g ws) (hb:∀ v∈ws,1≤v∧v≤13) (h0:0≤hi) (h9:hi≤9) :
  Calls Tryz.prog 106 #[.agg #[.int .i64 k,.int .i64 l,.int .i64 r,.int .i64 lo,.int .i64 hi,.int .i64 st],.slice (some ⟨g,0,none⟩) ws.length cap] w fun e w' =>
   e=.returned (.int .i64 (weighNd ws ⟨k,l,r,lo,hi,st⟩))∧Below w.heap.size w w':=by
 have HI:=hide (h.alloc (Obj.cells #[.int .i64 k,.int .i64 l,.int .i64 r,.int .i64 lo,.int .i64 hi,.int .i64 st] 186))
 have bl:=wAt_bd hb l
 have br:=wAt_bd hb r
 have B0:Below w.heap.size w (w.alloc (Obj.cells #[.int .i64 k,.int .i64 l,.int .i64 r,.int .i64 lo,.int .i64 hi,.int .i64 st] 186)):=(Below.refl _ _).alloc (Nat.le_refl _) _
 have HB:=hide B0
 have HWL:=hide (fun n=>weightAt_any ((w.alloc (Obj.cells #[.int .i64 k,.int .i64 l,.int .i64 r,.int .i64 lo,.int .i64 hi,.int .i64 st] 186)).drewN n) g cap ws l ((unhide HI).drewN n))
 have HWR:=hide (fun n=>weightAt_any ((w.alloc (Obj.cells #[.int .i64 k,.int .i64 l,.int .i64 r,.int .i64 lo,.int .i64 hi,.int .i64 st] 186)).drewN n) g cap ws r ((unhide HI).drewN n))
 have e0:weighNd ws ⟨k,l,r,lo,hi,st⟩=clampW (if (k == 2 || k == 3)=true then wAt ws l+wAt ws r else if (k == 4 || k == 5 || k == 6)=true then wAt ws l else if (k == 7)=true then wAt ws l * hi else 1):=rfl
 rw [e0]
 clear B0 h hb HI e0
 generalize wAt ws l=a at *
 generalize wAt ws r=c at *
 by_cases c2:(k == 2)=true
 ·rw [if_pos (by simp [c2])]
  go_enter Tryz.func106,Tryz.ntmps106
  go_wp2
  go_quiet ((first
   | (go_at_call_of 147 (Value.int IntKind.i64 l);exact Calls.quiet_of_same (unhide HWL _))
   | (go_at_call_of 147 (Value.int IntKind.i64 r);exact Calls.quiet_of_same (unhide HWR _))))
  go_wp2
  all_goals (go_ret;exact ⟨ret_int (by first | exact clamp1 ‹_› | exact clamp2 ‹_› ‹_› | exact clamp3 ‹_› ‹_›),below_drewN (unhide HB) _⟩)
 ·have c2':(k == 2)=false:=by simpa using c2
  clear c2
  by_cases c3:(k == 3)=true
  ·rw [if_pos (by simp [c3])]
   go_enter Tryz.func106,Tryz.ntmps106
   go_wp2
   go_quiet ((first
   | (go_at_call_of 147 (Value.int IntKind.i64 l);exact Calls.quiet_of_same (unhide HWL _))
   | (go_at_call_of 147 (Value.int IntKind.i64 r);exact Calls.quiet_of_same (unhide HWR _))))
   go_wp2
   all_goals (go_ret;exact ⟨ret_int (by first | exact clamp1 ‹_› | exact clamp2 ‹_› ‹_› | exact clamp3 ‹_› ‹_›),below_drewN (unhide HB) _⟩)
  ·have c3':(k == 3)=false:=by simpa using c3
   clear c3
   rw [if_neg (by simp [c2',c3'])]
   have HW0:=hide (unhide HWL 0)
   by_cases c4:(k == 4)=true
   ·rw [if_pos (by simp [c4])]
    go_enter Tryz.func106,Tryz.ntmps106
    go_wp2_with (go_at_call 147;refine (unhide HW0).mono ?_;rintro e w' ⟨rfl,rfl⟩)
    all_goals (go_ret;exact ⟨ret_int (by first | exact clamp1 ‹_› | exact clamp2 ‹_› ‹_› | exact clamp3 ‹_› ‹_›),below_drewN (unhide HB) _⟩)
   ·have c4':(k == 4)=false:=by simpa using c4
    clear c4
    by_cases c5:(k == 5)=true
    ·rw [if_pos (by simp [c5])]
     go_enter Tryz.func106,Tryz.ntmps106
     go_wp2_with (go_at_call 147;refine (unhide HW0).mono ?_;rintro e w' ⟨rfl,rfl⟩)
     all_goals (go_ret;exact ⟨ret_int (by first | exact clamp1 ‹_› | exact clamp2 ‹_› ‹_› | exact clamp3 ‹_› ‹_›),below_drewN (unhide HB) _⟩)
    ·have c5':(k == 5)=false:=by simpa using c5
     clear c5
     by_cases c6:(k == 6)=true
     ·rw [if_pos (by simp [c6])]
      go_enter Tryz.func106,Tryz.ntmps106
      go_wp2_with (go_at_call 147;refine (unhide HW0).mono ?_;rintro e w' ⟨rfl,rfl⟩)
      all_goals (go_ret;exact ⟨ret_int (by first | exact clamp1 ‹_› | exact clamp2 ‹_› ‹_› | exact clamp3 ‹_› ‹_›),below_drewN (unhide HB) _⟩)
     ·have c6':(k == 6)=false:=by simpa using c6
      clear c6
      rw [if_neg (by simp [c4',c5',c6'])]
      by_cases c7:(k == 7)=true
      ·rw [if_pos c7]
       have m0:0≤a * hi:=Int.mul_nonneg bl.1 h0
       have m1:a * hi≤117:=Int.le_trans (Int.mul_le_mul_of_nonneg_right bl.2 h0) (by omega)
       go_enter Tryz.func106,Tryz.ntmps106
       go_wp2
       go_quiet ((first
   | (go_at_call_of 147 (Value.int IntKind.i64 l);exact Calls.quiet_of_same (unhide HWL _))
   | (go_at_call_of 147 (Value.int IntKind.i64 r);exact Calls.quiet_of_same (unhide HWR _))))
       go_wp2
       all_goals (go_ret;exact ⟨ret_int (by first | exact clamp1 ‹_› | exact clamp2 ‹_› ‹_› | exact clamp3 ‹_› ‹_›),below_drewN (unhide HB) _⟩)
      ·have c7':(k == 7)=false:=by simpa using c7
       clear c7
       rw [if_neg (by simp [c7'])]
       go_enter Tryz.func106,Tryz.ntmps106
       go_wp2
       go_ret
       exact ⟨ret_int (by decide),unhide HB⟩
end Go.Proofs.YtobfpgoepaeknaaGreat
namespace Go.Proofs.YtobfpgoepaeknaaGreat
open Go.RowKit
def intCells (ws:List Int):List Value:=ws.map fun v=>.int .i64 v
theorem node_cells {w:World} {B g cap:Nat} {ns:List Nd} (h:w.ownsRow B 186 6 (.slice (some ⟨g,0,none⟩) ns.length cap) ns.length (nodeCells ns)) (k:Nat) (n:Nd) (hk:ns[k]?=some n) :
  w.cell? ⟨g,k * 6,none⟩=some (.int .i64 n.kind)∧w.cell? ⟨g,k * 6+1,none⟩=some (.int .i64 n.left)∧w.cell? ⟨g,k * 6+2,none⟩=some (.int .i64 n.right) ∧
  w.cell? ⟨g,k * 6+3,none⟩=some (.int .i64 n.low)∧w.cell? ⟨g,k * 6+4,none⟩=some (.int .i64 n.high)∧w.cell? ⟨g,k * 6+5,none⟩=some (.int .i64 n.set):=by
 have key:∀ (l:List Nd) (k:Nat) (j:Nat),j < 6→l[k]?=some n→(nodeCells l)[k * 6+j]?=(ndCells n)[j]?:=by
  intro l
  induction l with
  | nil=>intro k j _ h;simp at h
  | cons a l ih =>
   intro k j hj h
   have e:nodeCells (a ::l)=ndCells a++nodeCells l:=by simp [nodeCells]
   rw [e]
   have hl:(ndCells a).length=6:=rfl
   cases k with
   | zero =>
    simp only [List.getElem?_cons_zero,Option.some.injEq] at h
    subst h
    rw [List.getElem?_append_left (by rw [hl];omega)]
    simp
   | succ k =>
    rw [List.getElem?_append_right (by rw [hl];omega),hl]
    have:=ih k j hj (by simpa using h)
    rw [←this]
    congr 1
    omega
 have cell:∀ j u,(nodeCells ns)[j]?=some u→w.cell? ⟨g,j,none⟩=some u:=by
  intro j u hu
  have:=h.cells (g:=g) rfl j u hu
  have hadd:(⟨g,0,none⟩:Addr).add j=⟨g,j,none⟩:=by unfold Addr.add;split<;>simp_all
  rwa [hadd] at this
 refine ⟨cell _ _ ?_,cell _ _ ?_,cell _ _ ?_,cell _ _ ?_,cell _ _ ?_,cell _ _ ?_⟩
 ·have:=key ns k 0 (by omega) hk;simpa [ndCells] using this
 ·have:=key ns k 1 (by omega) hk;simpa [ndCells] using this
 ·have:=key ns k 2 (by omega) hk;simpa [ndCells] using this
 ·have:=key ns k 3 (by omega) hk;simpa [ndCells] using this
 ·have:=key ns k 4 (by omega) hk;simpa [ndCells] using this
 ·have:=key ns k 5 (by omega) hk;simpa [ndCells] using this
theorem int_row {w:World} {B g cap n:Nat} {ws:List Int} (h:w.ownsRow B 3 1 (.slice (some ⟨g,0,none⟩) n cap) n (intCells ws)):IntRow w g ws:=by
 intro j hj
 have:=h.cells (g:=g) rfl j (.int .i64 (ws.getD j 0)) (by simp [intCells,hj])
 have hadd:(⟨g,0,none⟩:Addr).add j=⟨g,j,none⟩:=by unfold Addr.add;split<;>simp_all
 rwa [hadd] at this
theorem info3:(Tryz.prog.info? 3).map (fun i=>(i.zero,i.size,i.bytes))=some (some (.int .i64 0),1,8):=by kernel_rfl
set_option maxHeartbeats 1000000 in
theorem weigh_any (w:World) (B:Nat) (nv sv:Value) (ns:List Nd) (h:w.ownsRow B 186 6 nv ns.length (nodeCells ns)) (hn:ns.length≤1000) (hne:ns≠[]) (hhi:∀ n∈ns,0≤n.high∧n.high≤9) :
  Calls Tryz.prog 59 #[.agg #[nv,sv]] w fun e w' =>
   e=.returned (.int .i64 (lastW (weighAll ns)))∧Below w.heap.size w w':=by
 obtain ⟨m,hm⟩:∃ m,ns.length=m+1:=⟨ns.length - 1,by have:=List.length_pos_iff.2 hne;omega⟩
 obtain ⟨g,cap,rfl⟩:∃ g cap,nv=.slice (some ⟨g,0,none⟩) ns.length cap:=by
  rw [hm] at h ⊢;exact own_form h
 have hg:=(h.lt g rfl).2
 obtain ⟨i,i0,i1,i2,i3⟩:=info_of info3
 have HI:=hide (And.intro i0 (And.intro i1 (And.intro i2 i3)))
 have H:=hide h
 have HHI:=hide hhi
 have HN:=hide hn
 have hL:(ns.length:Int)≤1000:=by omega
 clear i0 i1 i2 i3 hm hne h hhi hn
 go_enter Tryz.func59,Tryz.ntmps59
 go_wp2
 go_loopw [3,4,5] (fun v la ix wr=>∃ k g2 cap2:Nat,v=.slice (some ⟨g2,0,none⟩) k cap2∧la=.int .i64 (lastW (weighAll (ns.take k)))∧ix=.int .i64 k∧k≤ns.length ∧
  Hid (wr.ownsRow (w.heap.size+1) 3 1 (.slice (some ⟨g2,0,none⟩) k cap2) k (intCells (weighAll (ns.take k)))∧Below w.heap.size w wr∧wr.heap[w.heap.size]?=some (Obj.cells #[.slice (some ⟨g,0,none⟩) ns.length cap,sv] 86 (0,0)))) (fun _ _ ix _=>ns.length - (intOf ix).toNat)
 case atStart =>
  refine ⟨0,w.heap.size+1,0,rfl,rfl,rfl,Nat.zero_le _,?_,?_,?_⟩
  ·have:=World.ownsRow_made (base:=w.heap.size+1) (e:=3) (size:=1) (w.alloc (Obj.cells #[.slice (some ⟨g,0,none⟩) ns.length cap,sv] 86)) #[] 0 (by simp) (by simp) rfl
   simpa [intCells,weighAll] using this
  ·exact ((Below.refl _ _).alloc (Nat.le_refl _) _).alloc (by simp) _
  ·exact heap_alloc2_old _ _ _
 case round =>
  rename_i wr
  obtain ⟨k,g2,cap2,rfl,rfl,rfl,hk,HH⟩:=hrel
  obtain ⟨ho,hbel,hbox⟩:=unhide HH
  have cb:wr.cell? ⟨w.heap.size,0,none⟩=some (.slice (some ⟨g,0,none⟩) ns.length cap):=by rw [cell_of_row _ _ _ _ _ _ hbox];rfl
  by_cases hlt:k < ns.length
  ·obtain ⟨nd,hnd⟩:∃ nd,ns[k]?=some nd:=⟨ns[k],List.getElem?_eq_getElem hlt⟩
   obtain ⟨x0,x1,x2,x3,x4,x5⟩:=node_cells (unhide H) k nd hnd
   have y0:=(hbel.cell (p:=⟨g,k * 6,none⟩) hg).trans x0
   have y1:=(hbel.cell (p:=⟨g,k * 6+1,none⟩) hg).trans x1
   have y2:=(hbel.cell (p:=⟨g,k * 6+2,none⟩) hg).trans x2
   have y3:=(hbel.cell (p:=⟨g,k * 6+3,none⟩) hg).trans x3
   have y4:=(hbel.cell (p:=⟨g,k * 6+4,none⟩) hg).trans x4
   have y5:=(hbel.cell (p:=⟨g,k * 6+5,none⟩) hg).trans x5
   have hlt':(k:Int) < (ns.length:Int):=by omega
   have HND:=hide hnd
   clear hbel hbox ho x0 x1 x2 x3 x4 x5 hnd hlt
   have hlk:(weighAll (ns.take k)).length=k:=by rw [weighAll_len,List.length_take,Nat.min_eq_left hk]
   have hst:weighAll (ns.take (k+1))=weighAll (ns.take k)++[weighNd (weighAll (ns.take k)) nd]:=by
    rw [List.take_add_one,unhide HND,Option.toList_some,weighAll_snoc]
   have hmem:nd∈ns:=List.mem_of_getElem? (unhide HND)
   have hW:=weighNode_any wr g2 cap2 (weighAll (ns.take k)) nd.kind nd.left nd.right nd.low nd.high nd.set (int_row (unhide HH).1) (weighAll_bd _) (unhide HHI nd hmem).1 (unhide HHI nd hmem).2
   rw [hlk] at hW
   have HW:=hide hW
   have HST:=hide hst
   have hv:=clampW_bd (rawW (weighAll (ns.take k)) nd)
   have eN:weighNd (weighAll (ns.take k)) ⟨nd.kind,nd.left,nd.right,nd.low,nd.high,nd.set⟩=weighNd (weighAll (ns.take k)) nd:=rfl
   rw [eN] at HW
   have hk1000:k≤1000:=by have:=unhide HN;omega
   have HK:=hide hk1000
   clear hlk hst hW hmem eN hk1000 hv
   generalize weighNd (weighAll (ns.take k)) nd=v1 at *
   go_wp2_with fail
   refine (unhide HW).mono ?_
   rintro e w2 ⟨rfl,hw2⟩
   have ho2:=(unhide HH).1.kept (grownBy_of_below hw2 none) (Or.inr (by simp [Value.ownBlock]))
   have HO2:=hide (ho2.alloc (Obj.cells #[.int .i64 v1] 3))
   have hb2:Below w.heap.size w w2:=(unhide HH).2.1.trans (hw2.mono (unhide HH).2.1.size)
   have HB2:=hide hb2
   have hbx:w.heap.size < wr.heap.size:=(Array.getElem?_eq_some_iff.1 (unhide HH).2.2).1
   have HX2:=hide ((hw2.block _ hbx).trans (unhide HH).2.2)
   have hs2:=hw2.size
   clear ho2 hb2 hw2 y0 y1 y2 y3 y4 y5 cb
   go_wp2_with (at_builtin;refine wpList_append_own _ rfl (.tmp 21) (.tmp 23) 37 rfl (w.heap.size+1) 3 i (.int .i64 0) 1 8 Tryz.underlying37 (unhide HI).1 (unhide HI).2.1 (unhide HI).2.2.1 (unhide HI).2.2.2 rfl (by decide) _ k _ rfl (unhide HO2) ⟨w2.heap.size,0,none⟩ 1 1 [.int .i64 v1] rfl rfl ?c1 ?c2 ?b1 ?b2 ?b3 ?next)
   case c1=>exact cell_one_new _ _ _
   case c2=>intro u hu;simp at hu;subst hu;rfl
   case b1=>have:=unhide HK;unfold maxLen;omega
   case b2=>have:=unhide HK;omega
   case b3=>have:=(unhide HB2).size;simp;omega
   case next =>
    intro v' w3 ho3 hg3 _
    obtain ⟨g3,cap3,rfl⟩:=own_form ho3
    have HO3:=hide ho3
    have HG3:=hide hg3
    clear ho3 hg3
    go_wp2
    go_roundw
    case rel =>
     refine ⟨k+1,g3,cap3,rfl,?_,by go_num,by omega,?_,?_,?_⟩
     ·rw [unhide HST];simp [lastW]
     ·rw [unhide HST];simpa [intCells] using unhide HO3
     ·exact ((unhide HB2).alloc (by omega) _).grown (unhide HG3) (by simp;omega) (fun k' hk'=>by have:=((unhide HO2).lt k' hk').1;omega)
     ·rw [(unhide HG3).block _ (by simp;omega) (fun e=>by have:=((unhide HO2).lt _ e.symm).1;omega),Below.heap_alloc _ _ _ (by omega)]
      exact unhide HX2
    case measure=>simp [intOf];omega
  ·have hk2:k=ns.length:=by omega
   subst hk2
   have e1:ns.take ns.length=ns:=List.take_of_length_le (Nat.le_refl _)
   have HE:=hide e1
   have HB:=hide hbel
   clear hbel hbox ho e1 HH
   go_wp2
   go_ret
   exact ⟨ret_int (by rw [unhide HE]),unhide HB⟩
end Go.Proofs.YtobfpgoepaeknaaGreat
namespace Go.Proofs.YtobfpgoepaeknaaGreat
open Go.RowKit
set_option maxHeartbeats 400000 in
theorem Read_long (w:World) (t:ByteArray) (ht:60 < t.size) :
  Calls Tryz.prog 35 #[.string t] w fun e w' =>
   e=.returned (.tuple #[.agg #[.slice none 0 0,.slice none 0 0],.int .i64 1,.int .i64 0])∧Below w.heap.size w w':=by
 have ht':(60:Int) < (t.size:Int):=by omega
 go_enter Tryz.func35,Tryz.ntmps35
 go_wp2
 exact bodyPost_ret (v:=.tuple #[.agg #[.slice none 0 0,.slice none 0 0],.int .i64 1,.int .i64 0]) (by simp [results,Tryz.results35,go_sem]) rfl ⟨rfl,(Below.refl _ _).alloc (Nat.le_refl _) _⟩
theorem ownsRow_less {w:World} {B B' e z:Nat} {v:Value} {n:Nat} {xs:List Value} (h:w.ownsRow B e z v n xs) (hB:B'≤B):w.ownsRow B' e z v n xs:=by
 refine ⟨h.1,?_⟩
 rcases h.2 with h2 | ⟨g,cap,cur,hv,hg,r⟩
 ·exact Or.inl h2
 ·exact Or.inr ⟨g,cap,cur,hv,Nat.le_trans hB hg,r⟩
theorem below_set2 {B:Nat} {a w:World} {u v:Value} (h:Below B a w):Below B a ((w.setCell ⟨B,0,none⟩ u).setCell ⟨B,1,none⟩ v) :=
 (h.setCell (p:=⟨B,0,none⟩) (Nat.le_refl _) u).setCell (p:=⟨B,1,none⟩) (Nat.le_refl _) v
theorem own_slice {w:World} {B e z:Nat} {v:Value} {n:Nat} {xs:List Value} (h:w.ownsRow B e z v n xs):∃ a n' c,v=.slice a n' c:=by
 rcases h.2 with ⟨h1,_⟩ | ⟨g,cap,cur,hv,_⟩
 ·exact ⟨_,_,_,h1⟩
 ·exact ⟨_,_,_,hv⟩
theorem readErr_bad {t:ByteArray} {y:St} (h:y.s.bad=true∨y.s.k < t.size):readErr t y=(2,(y.s.k:Int)):=by
 unfold readErr
 rw [if_pos]
 simpa using h
theorem readErr_big {t:ByteArray} {y:St} (h:y.s.bad=false) (h2:¬y.s.k < t.size) (h3:12 < lastW (weighAll y.ns)):readErr t y=(3,0):=by
 unfold readErr
 rw [if_neg (by simp [h];omega),if_pos h3]
theorem readErr_ok {t:ByteArray} {y:St} (h:y.s.bad=false) (h2:¬y.s.k < t.size) (h3:¬12 < lastW (weighAll y.ns)):readErr t y=(0,lastW (weighAll y.ns)):=by
 unfold readErr
 rw [if_neg (by simp [h];omega),if_neg h3]
set_option maxHeartbeats 1000000 in
theorem Read_any (w:World) (t:ByteArray) (ht:t.size≤60) :
  Calls Tryz.prog 35 #[.string t] w fun e w'=>∃ y i nv sv,Rds t 0 0 x0 (y,i) ∧
   (∃ a n c,nv=.slice a n c)∧(∃ a n c,sv=.slice a n c)∧e=.returned (.tuple #[.agg #[nv,sv],.int .i64 (readErr t y).1,.int .i64 (readErr t y).2])∧Below w.heap.size w w' ∧
   ((readErr t y).1=0→w'.ownsRow w.heap.size 186 6 nv y.ns.length (nodeCells y.ns)∧w'.ownsRow w.heap.size 132 256 sv y.fs.length (setsCells y.fs)):=by
 have ht':(t.size:Int)≤60:=by omega
 have R0:RdS ((w.alloc (Obj.cells #[.slice none 0 0,.slice none 0 0] 86)).alloc (Obj.cells #[.string t,.int .i64 0,.bool false,.slice none 0 0,.slice none 0 0] 124)) (w.heap.size+1) t x0:=by
  refine ⟨.slice none 0 0,.slice none 0 0,?_,World.ownsRow_nil _ _ _ _,World.ownsRow_nil _ _ _ _⟩
  exact heap_alloc2_new _ _ _
 have HP:=hide (readPattern_any t ht t.size _ _ x0 R0 ⟨Nat.zero_le _,Nat.le_refl _,by simp [x0];omega⟩ (Nat.sub_le _ _))
 have HT0:=hide (heap_alloc2_old w (Obj.cells #[.slice none 0 0,.slice none 0 0] 86) (Obj.cells #[.string t,.int .i64 0,.bool false,.slice none 0 0,.slice none 0 0] 124))
 have HB0:=hide (((Below.refl w.heap.size w).alloc (Nat.le_refl _) (Obj.cells #[.slice none 0 0,.slice none 0 0] 86)).alloc (by simp) (Obj.cells #[.string t,.int .i64 0,.bool false,.slice none 0 0,.slice none 0 0] 124))
 clear R0
 go_enter Tryz.func35,Tryz.ntmps35
 go_wp2_with fail
 refine (unhide HP).mono ?_
 rintro e w1 ⟨y,i,rfl,hr,hb1,nv,sv,h1,h2,h3⟩
 have hy:=Rds.facts (x:=x0) (Nat.zero_le _) hr
 have hky:y.s.k≤t.size:=hy.2.1
 have hny:y.ns.length≤1000:=by have:=hy.2.2.2;simp [x0] at this;omega
 obtain ⟨fu,hfu⟩:=hr
 have hdo:=rdF_ok t fu 0 0 x0 (y,i) hfu (by intro n hn;simp [x0] at hn)
 have hne:y.ns≠[]:=by have:=hdo.2;intro e;rw [e] at this;simp [lays] at this
 have HR:=hide (show Rds t 0 0 x0 (y,i) from ⟨fu,hfu⟩)
 have hT1:=(hb1.block w.heap.size (by omega)).trans (unhide HT0)
 have HT1:=hide hT1
 have hB1:=(unhide HB0).trans (hb1.mono (by omega))
 have HB1:=hide hB1
 have t0:w1.cell? ⟨w.heap.size,0,none⟩=some (.slice none 0 0):=by rw [cell_of_row _ _ _ _ _ _ hT1];rfl
 have t1:w1.cell? ⟨w.heap.size,1,none⟩=some (.slice none 0 0):=by rw [cell_of_row _ _ _ _ _ _ hT1];rfl
 have u0:w1.frozen? ⟨w.heap.size,0,none⟩=false:=frozen_of_row _ _ _ _ _ hT1
 have u1:w1.frozen? ⟨w.heap.size,1,none⟩=false:=frozen_of_row _ _ _ _ _ hT1
 obtain ⟨c0,c1,c2,c3,c4⟩:=h1.cells
 obtain ⟨na,nn,nc,rfl⟩:=own_slice h2
 obtain ⟨sa,sn,sc,rfl⟩:=own_slice h3
 have H2:=hide h2
 have H3:=hide h3
 have HD:=hide hdo.1
 have hs1:=hB1.size
 have hk60:(y.s.k:Int)≤60:=by omega
 clear hy hfu hdo hT1 hB1 h1 h2 h3 hb1 HP HT0 HB0
 by_cases hbad:y.s.bad=true
 ·have HE:=hide (readErr_bad (t:=t) (y:=y) (Or.inl hbad))
  go_wp2
  go_region
  all_goals go_wp2
  all_goals
   refine bodyPost_ret (v:=.tuple #[.agg #[.slice none 0 0,.slice none 0 0],.int .i64 2,.int .i64 (y.s.k:Int)]) (by simp [results,Tryz.results35,go_sem,t0,t1]) rfl ?_
   exact ⟨y,i,_,_,unhide HR,⟨_,_,_,rfl⟩,⟨_,_,_,rfl⟩,by rw [unhide HE],(by first | exact below_set2 (unhide HB1) | exact (below_set2 (unhide HB1)).drew),fun h=>by rw [unhide HE] at h;cases h⟩
 ·have hbad':y.s.bad=false:=by simpa using hbad
  clear hbad
  by_cases hlt:y.s.k < t.size
  ·have HE:=hide (readErr_bad (t:=t) (y:=y) (Or.inr hlt))
   have hlt':(y.s.k:Int) < (t.size:Int):=by omega
   clear hlt
   go_wp2
   go_region
   all_goals go_wp2
   all_goals
    refine bodyPost_ret (v:=.tuple #[.agg #[.slice none 0 0,.slice none 0 0],.int .i64 2,.int .i64 (y.s.k:Int)]) (by simp [results,Tryz.results35,go_sem,t0,t1]) rfl ?_
    exact ⟨y,i,_,_,unhide HR,⟨_,_,_,rfl⟩,⟨_,_,_,rfl⟩,by rw [unhide HE],(by first | exact below_set2 (unhide HB1) | exact (below_set2 (unhide HB1)).drew),fun h=>by rw [unhide HE] at h;cases h⟩
  ·have hlt':(t.size:Int)≤(y.s.k:Int):=by omega
   have HW:=hide (weigh_any w1 _ _ (.slice sa sn sc) y.ns (unhide H2) hny hne (unhide HD))
   have HLT:=hide hlt
   clear hlt
   go_wp2_with fail
   refine (unhide HW).mono ?_
   rintro e w2 ⟨rfl,hw2⟩
   have hsz:w.heap.size < w1.heap.size:=(Array.getElem?_eq_some_iff.1 (unhide HT1)).1
   have hbl:w.heap.size+1 < w1.heap.size:=block_lt_of_cell c0
   have t0':=(hw2.cell (p:=⟨w.heap.size,0,none⟩) hsz).trans t0
   have t1':=(hw2.cell (p:=⟨w.heap.size,1,none⟩) hsz).trans t1
   have u0':=(hw2.frozen (p:=⟨w.heap.size,0,none⟩) hsz).trans u0
   have u1':=(hw2.frozen (p:=⟨w.heap.size,1,none⟩) hsz).trans u1
   have d3:=(hw2.cell (p:=⟨w.heap.size+1,3,none⟩) hbl).trans c3
   have d4:=(hw2.cell (p:=⟨w.heap.size+1,4,none⟩) hbl).trans c4
   have hw2':Below w.heap.size w w2:=(unhide HB1).trans (hw2.mono (by omega))
   have HB2:=hide hw2'
   have hg2:=grownBy_of_below hw2 none
   have HN2:=hide ((unhide H2).kept hg2 (by cases (Value.slice na nn nc).ownBlock<;>simp))
   have HS2:=hide ((unhide H3).kept hg2 (by cases (Value.slice sa sn sc).ownBlock<;>simp))
   clear t0 t1 u0 u1 c0 c1 c2 c3 c4 hw2 hw2' hg2 HB1 HT1 HW
   by_cases hbig:12 < lastW (weighAll y.ns)
   ·have HE:=hide (readErr_big (t:=t) (y:=y) hbad' (unhide HLT) hbig)
    generalize lastW (weighAll y.ns)=lw at *
    go_wp2
    refine bodyPost_ret (v:=.tuple #[.agg #[.slice none 0 0,.slice none 0 0],.int .i64 3,.int .i64 0]) (by simp [results,Tryz.results35,go_sem,t0',t1']) rfl ?_
    exact ⟨y,i,_,_,unhide HR,⟨_,_,_,rfl⟩,⟨_,_,_,rfl⟩,by rw [unhide HE],below_set2 (unhide HB2),fun h=>by rw [unhide HE] at h;cases h⟩
   ·have HE:=hide (readErr_ok (t:=t) (y:=y) hbad' (unhide HLT) hbig)
    have hbig':lastW (weighAll y.ns)≤12:=by omega
    clear hbig
    generalize lastW (weighAll y.ns)=lw at *
    go_wp2
    refine bodyPost_ret (v:=.tuple #[.agg #[.slice na nn nc,.slice sa sn sc],.int .i64 0,.int .i64 lw]) (by simp [results,Tryz.results35,go_sem,t0',t1']) rfl ?_
    refine ⟨y,i,_,_,unhide HR,⟨_,_,_,rfl⟩,⟨_,_,_,rfl⟩,by rw [unhide HE],below_set2 (unhide HB2),fun _=>⟨?_,?_⟩⟩
    ·exact ownsRow_less (ownsRow_setCell_below (ownsRow_setCell_below (unhide HN2) (by simp;omega) _) (by simp;omega) _) (by omega)
    ·exact ownsRow_less (ownsRow_setCell_below (ownsRow_setCell_below (unhide HS2) (by simp;omega) _) (by simp;omega) _) (by omega)
end Go.Proofs.YtobfpgoepaeknaaGreat
