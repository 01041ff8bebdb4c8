/-
  The automaton's Match; veil.Match.
  veil.Match.
  Plain mathematics: an automaton of few spots has few states and few classes.
  table.OfPattern.
-/
import Derived.Test.YtobfpgoepaeknaaGreatM18
import Derived.Test.YtobfpgoepaeknaaGreatM19
import Derived.Test.YtobfpgoepaeknaaGreatM21
namespace Go.Proofs.YtobfpgoepaeknaaGreat
open Go.RowKit
attribute [local go_sem ↓] Go.wp_at_zero Go.wp_at_succ
def runTo (p:Part) (s:List Nat) (k:Nat):Nat:=runN p 1 (s.take k)
theorem runN_snoc (p:Part):∀ (w:List Nat) (x b:Nat),runN p x (w++[b])=stepN p (runN p x w) b
 | [],_,_=>rfl
 | a ::w,x,b=>by rw [List.cons_append,runN,runN_snoc p w];rfl
theorem runTo_step (p:Part) (s:List Nat) (k:Nat) (h:k < s.length):runTo p s (k+1)=stepN p (runTo p s k) s[k]:=by
 unfold runTo
 rw [List.take_add_one,List.getElem?_eq_getElem h]
 exact runN_snoc p _ 1 _
theorem runTo_lt {p:Part} (hp:p.Ok) (hl:p.next.length≤50) (s:List Nat):∀ k,runTo p s k < top
 | 0=>by unfold runTo top;simp [runN]
 | k+1=>by
  by_cases h:k < s.length
  ·rw [runTo_step p s k h]
   unfold stepN
   exact Nat.lt_trans (ledN_lt _ _ _ _) (pow_top (by rw [hp.1];omega))
  ·have e:runTo p s (k+1)=runTo p s k:=by unfold runTo;rw [List.take_of_length_le (by omega),List.take_of_length_le (by omega)]
   rw [e];exact runTo_lt hp hl s k
set_option maxHeartbeats 1000000 in
theorem AMatch_any (w:World) (g:Nat) (p:Part) (s:ByteArray) (h:AutB w g p) (hp:p.Ok) (hl:p.next.length≤50) (hs:s.size≤16) :
  Calls Tryz.prog 37 #[.pointer (some ⟨g,0,none⟩),.string s] w fun e w'=>(∃ b,e=.returned (.bool b)∧(b=true↔runN p 1 (bytesN s) &&& p.last≠0))∧Below w.heap.size w w':=by
 have HA:=hide h
 have HT:=hide (runTo_lt hp hl (bytesN s))
 have HP:=hide hp
 have HL:=hide hl
 have HS:=hide hs
 have hsI:(s.size:Int)≤16:=by omega
 clear hp hl hs h
 go_enter Tryz.func37,Tryz.ntmps37
 go_wp2
 go_loopw [5,6] (fun rx ix wr=>∃ k r:Nat,ix=.int .i64 (k:Int)∧rx=.int .i64 (r:Int)∧k≤s.size∧Hid (r=runTo p (bytesN s) k∧Below w.heap.size w wr)) (fun _ ix _=>s.size - (intOf ix).toNat)
 case atStart=>exact ⟨0,1,rfl,rfl,Nat.zero_le _,rfl,Below.refl _ _⟩
 case round =>
  rename World=>wr
  obtain ⟨k,r,rfl,rfl,hk,HH⟩:=hrel
  have HB:=hide ((unhide HA).below (unhide HH).2)
  by_cases hlt:k < s.size
  ·have hlt':(k:Int) < (s.size:Int):=by omega
   have hbt:s[k].toNat < 256:=s[k].toNat_lt
   have hr:r < top:=by rw [(unhide HH).1];exact unhide HT k
   have HC:=hide (fun wr' (hb:AutB wr' g p)=>reach_any wr' g p r hb (unhide HP) (unhide HL) hr)
   have hl2:k < (bytesN s).length:=by rw [bytesN_len];exact hlt
   have HSN:Hid (runTo p (bytesN s) (k+1)=reachP p r &&& fitP p s[k].toNat):=by
    show _=_
    rw [runTo_step p (bytesN s) k hl2,bytesN_at s k hlt hl2,(unhide HH).1,stepN_fit]
   have e1:=i64_and_nat _ _ (reachP_lt (unhide HP) (unhide HL) r) (fitP_lt (unhide HP) (unhide HL) s[k].toNat)
   obtain ⟨nv,h1,h2⟩:=unhide HB
   have y0:wr.cell? ⟨g,1+s[k].toNat,none⟩=some (.int .i64 ((fitP p s[k].toNat:Nat):Int)):=by rw [cell_of_row _ _ _ _ _ _ h1,autA_b _ _ _ hbt]
   have hbI:(s[k].toNat:Int) < 256:=by omega
   clear hr hbt hl2 h1 h2
   go_wp2
   go_region_with (go_at_call 65;refine (unhide HC _ (by exact (unhide HB).drew)).mono ?_;rintro e w2 ⟨rfl,rfl⟩)
   all_goals
    go_wp2
    go_roundw
    case rel=>exact ⟨k+1,_,by go_num,rfl,by omega,(unhide HSN).symm,(unhide HH).2.drew⟩
    case measure=>simp [intOf];omega
  ·have hk2:k=s.size:=by omega
   subst hk2
   have hr:r < top:=by rw [(unhide HH).1];exact unhide HT _
   have HG:=hide (grants_any wr g p r (unhide HB) (unhide HP) (unhide HL) hr)
   have HR:Hid (r=runN p 1 (bytesN s)):=by
    have:=(unhide HH).1
    unfold runTo at this
    rw [←bytesN_len,List.take_length] at this
    exact this
   clear hr
   go_wp2_with fail
   refine (unhide HG).mono ?_
   rintro e w2 ⟨rfl,rfl⟩
   go_wp2
   go_ret
   refine ⟨⟨_,rfl,?_⟩,(unhide HH).2⟩
   rw [←unhide HR];simp
end Go.Proofs.YtobfpgoepaeknaaGreat
namespace Go.Proofs.YtobfpgoepaeknaaGreat
open Go.RowKit
attribute [local go_sem ↓] Go.wp_at_zero Go.wp_at_succ zvA
attribute [local go_sem] zcA_size zcA_ne
theorem Dn.pos {ns:List Nd} {fs:List (Nat→Bool)} {R:Re} {i:Int} (h:Dn ns fs R i):0 < ns.length:=by
 have:=h.lt;omega
theorem read_ok {p:ByteArray} {y:St} {i:Int} (h60:p.size≤60) (hr:Rds p 0 0 x0 (y,i)) (h0:(readErr p y).1=0) :
  ∃ R n rs k S,Dn y.ns y.fs R ((y.ns.length:Int) - 1)∧R.wt≤12∧rfF n 0 p 0 0 []=some (rs,k)∧Dr rs S k∧R.L=S.L∧y.ns.length≤1000∧y.fs.length≤1000:=by
 have hn:¬(y.s.bad=true∨y.s.k < p.size):=fun h=>by rw [readErr_bad h] at h0;cases h0
 have hb:y.s.bad=false:=by
  cases hbb:y.s.bad
  ·rfl
  ·exact absurd (Or.inl hbb) hn
 have hk:¬y.s.k < p.size:=fun h=>hn (Or.inr h)
 have hw:¬12 < lastW (weighAll y.ns):=fun h=>by rw [readErr_big hb hk h] at h0;cases h0
 obtain ⟨R,n,rs,k,S,d,rfl,e,f,g,hv⟩:=read_meets p y i h60 hr hn
 have hy:=Rds.facts (x:=x0) (Nat.zero_le _) hr
 have hky:y.s.k≤p.size:=hy.2.1
 have hny:y.ns.length≤1000:=by have:=hy.2.2.2;simp [x0] at this;omega
 have hfy:y.fs.length≤y.ns.length:=hy.2.2.1 (by simp [x0])
 refine ⟨R,n,rs,k,S,d,?_,f,g,congrArg Prod.fst hv,hny,by omega⟩
 rw [e] at hw
 unfold cl at hw
 split at hw<;>omega
set_option maxHeartbeats 1000000 in
theorem VMatch_any (w:World) (p s:ByteArray) (hp:p.size≤60) (hs:s.size≤16) :
  Calls Tryz.prog 17 #[.string p,.string s] w fun e w'=>∃ y i b,Rds p 0 0 x0 (y,i)∧e=.returned (.tuple #[.bool b,.int .i64 (readErr p y).1])∧Below w.heap.size w w'∧((readErr p y).1≠0→b=false) ∧
   ((readErr p y).1=0→∃ n rs k S,rfF n 0 p 0 0 []=some (rs,k)∧Dr rs S k∧(b=true↔S.L (bytesN s))):=by
 have HR:=hide (Read_any w p hp)
 have hpI:(p.size:Int)≤60:=by omega
 have hsI:(s.size:Int)≤16:=by omega
 have HP:=hide hp
 have HS:=hide hs
 clear hp hs
 go_enter Tryz.func17,Tryz.ntmps17
 go_wp2_with fail
 refine (unhide HR).mono ?_
 rintro e w1 ⟨y,i,nv,sv,hr,⟨na,nn,nc,rfl⟩,⟨sa,sn,sc,rfl⟩,rfl,hw1,hok⟩
 have HD:=hide hr
 have HB1:=hide hw1
 by_cases h0:(readErr p y).1=0
 ·obtain ⟨R,n,rs,k,S,d,hwt,hf,hdr,hRS,hny,hfy⟩:=read_ok (unhide HP) hr h0
  obtain ⟨o1,o2⟩:=hok h0
  have hpos:=d.pos
  obtain ⟨m,hm⟩:∃ m,y.ns.length=m+1:=⟨y.ns.length - 1,by omega⟩
  obtain ⟨g,cap,he⟩:∃ g cap,Value.slice na nn nc=.slice (some ⟨g,0,none⟩) y.ns.length cap:=by
   have o1':=o1
   rw [hm] at o1' ⊢;exact own_form o1'
  simp only [Value.slice.injEq] at he
  obtain ⟨rfl,rfl,rfl⟩:=he
  obtain ⟨sa',sc',he2⟩:=FsRow.form (B:=w.heap.size) o2
  simp only [Value.slice.injEq] at he2
  obtain ⟨rfl,rfl,rfl⟩:=he2
  have hb2:Below w1.heap.size w1 (w1.alloc (Obj.cells #[.slice (some ⟨g,0,none⟩) y.ns.length nc,.slice sa y.fs.length sc] 86)):=(Below.refl _ _).alloc (Nat.le_refl _) _
  have HBU:=hide (Build_any _ g nc sc sa y.ns y.fs R (NdRow.below (ownsRow_less o1 (Nat.zero_le _)) hb2) (FsRow.below (ownsRow_less o2 (Nat.zero_le _)) hb2) hny hfy d (by omega))
  have HB2:=hide ((unhide HB1).trans (hb2.mono (unhide HB1).size))
  have HF:Hid (∃ n rs k S,rfF n 0 p 0 0 []=some (rs,k)∧Dr rs S k∧R.L=S.L):=⟨n,rs,k,S,hf,hdr,hRS⟩
  have HOK:=hide (autN_ok (partN_ok R))
  have HLEN:Hid ((autN (partN R)).next.length≤50):=by
   show _≤_
   have e2:(autN (partN R)).next.length=(oneN fun _=>false).next.length+(partN R).next.length:=behindN_len _ _
   have:=partN_len R
   rw [e2];simp [oneN];omega
  have HM:Hid (∀ x,runN (autN (partN R)) 1 x &&& (autN (partN R)).last≠0↔R.L x):=by
   intro x;rw [autN_match (partN_ok R),partN_L]
  have HE:=hide h0
  generalize hre:readErr p y=re at *
  have HRE:=hide hre
  clear hre hr hw1 hok d hwt hf hdr hRS hny hfy o1 o2 hpos hm hb2 HR
  obtain ⟨e1,e2⟩:=re
  have h0':e1=0:=h0
  subst h0'
  go_wp2_with fail
  refine (unhide HBU).mono ?_
  rintro e w3 ⟨v,rfl,hv,hw3⟩
  have hb3:Below w3.heap.size w3 (w3.alloc (Obj.cells v.cells 90)):=(Below.refl _ _).alloc (Nat.le_refl _) _
  have HB3:=hide (((unhide HB2).trans (hw3.mono (unhide HB2).size)))
  have HB4:=hide ((unhide HB3).trans (hb3.mono (unhide HB3).size))
  obtain ⟨nv3,rfl,v2⟩:=id hv
  have HA:=hide (AMatch_any _ w3.heap.size _ s ⟨nv3,heap_alloc_new w3 _,v2.below hb3⟩ (unhide HOK) (unhide HLEN) (unhide HS))
  obtain ⟨na3,nc3,rfl⟩:=v2.form
  clear v2 hv hw3 hb3 HBU
  go_wp2_with (refine wpList_store_row0 rfl 90 _ _ rfl rfl w3.heap.size _ rfl rfl 90 _ (heap_alloc_new _ _) (by rw [autA_size];kernel_rfl) (by rw [autA_size,zcA_size]) (autA_one _ _ _ _ _) ?_;rw [setRow_alloc])
  refine (unhide HA).mono ?_
  rintro e w4 ⟨⟨b,rfl,hbb⟩,hw4⟩
  have HBB:=hide hbb
  have HW4:=hide hw4
  clear hbb hw4 HA
  go_wp2
  go_ret2
  refine ⟨y,i,b,unhide HD,by rw [unhide HRE];rfl,(unhide HB4).trans ((unhide HW4).mono (unhide HB4).size),fun h=>absurd (by rw [unhide HRE]) h,fun _=>?_⟩
  obtain ⟨n,rs,k,S,f1,f2,f3⟩:=unhide HF
  exact ⟨n,rs,k,S,f1,f2,by rw [←f3,unhide HBB];exact unhide HM _⟩
 ·have H0:=hide h0
  generalize hre:readErr p y=re at *
  have HRE:=hide hre
  clear hre hr hw1 hok HR
  obtain ⟨e1,e2⟩:=re
  have h0':¬e1=0:=h0
  clear h0
  go_wp2
  go_ret2
  exact ⟨y,i,false,unhide HD,by rw [unhide HRE];rfl,(unhide HB1).alloc (unhide HB1).size _,fun _=>rfl,fun h=>absurd (by rw [unhide HRE] at h;exact h) h0'⟩
end Go.Proofs.YtobfpgoepaeknaaGreat
namespace Go.Proofs.YtobfpgoepaeknaaGreat
theorem runN_app (p:Part):∀ (u w:List Nat) (x:Nat),runN p x (u++w)=runN p (runN p x u) w
 | [],_,_=>rfl
 | a ::u,w,x=>by rw [List.cons_append,runN,runN_app p u w];rfl
theorem run_state {p:Part} {n:Nat} (h0:∀ b,setAtN p.sets 0 b=false) (hn:p.sets.length≤n+1) (u:List Nat):(u=[]∧runN p 1 u=1)∨((runN p 1 u).testBit 0=false∧runN p 1 u / 2 < 2 ^ n):=by
 rcases List.eq_nil_or_concat u with rfl | ⟨v,b,rfl⟩
 ·exact .inl ⟨rfl,rfl⟩
 ·right
  rw [List.concat_eq_append,runN_app]
  show (stepN p _ b).testBit 0=false∧stepN p _ b / 2 < _
  rw [stepN_fit]
  have h1:=fitN_lt p.sets b p.sets.length
  have h2:2 ^ p.sets.length≤2 ^ (n+1):=Nat.pow_le_pow_right (by omega) hn
  rw [Nat.pow_succ] at h2
  have h3:reachP p (runN p 1 v) &&& fitP p b≤fitP p b:=Nat.and_le_right
  refine ⟨by rw [Nat.testBit_and,fitP_bit0 h0,Bool.and_false],?_⟩
  have h4:fitP p b < 2 ^ p.sets.length:=h1
  omega
theorem few_states {p:Part} {L:List Nat→Prop} (h0:∀ b,setAtN p.sets 0 b=false) (hn:p.sets.length≤5) (hL:∀ u,runN p 1 u &&& p.last≠0↔L u):¬ManyStates L:=by
 rintro ⟨f,f1,f2⟩
 obtain ⟨i,j,hij,hj,e⟩:=pigeon 24 (fun i=>if runN p 1 (f i)=1 then 0 else runN p 1 (f i) / 2+1) fun i _=>by
  show (if runN p 1 (f i)=1 then 0 else runN p 1 (f i) / 2+1) < 24
  split
  ·omega
  ·rcases run_state (n:=4) h0 hn (f i) with ⟨_,h⟩ | ⟨_,h⟩
   ·omega
   ·omega
 have key:runN p 1 (f i)=runN p 1 (f j):=by
  split at e<;>split at e
  ·omega
  ·omega
  ·omega
  ·rcases run_state (n:=4) h0 hn (f i) with ⟨_,h⟩ | ⟨h,_⟩
   ·omega
   ·rcases run_state (n:=4) h0 hn (f j) with ⟨_,h'⟩ | ⟨h',_⟩
    ·omega
    ·exact even_inj h h' (by omega)
 refine f2 i j hij hj fun w _=>?_
 rw [←hL,←hL,runN_app,runN_app,key]
theorem few_classes {p:Part} {L:List Nat→Prop} (h0:∀ b,setAtN p.sets 0 b=false) (hn:p.sets.length≤5) (hL:∀ u,runN p 1 u &&& p.last≠0↔L u):¬ManyClasses L:=by
 rintro ⟨f,f1,f2⟩
 obtain ⟨i,j,hij,hj,e⟩:=pigeon 24 (fun i=>fitP p (f i) / 2) fun i _=>by
  have h1:=fitN_lt p.sets (f i) p.sets.length
  have h2:2 ^ p.sets.length≤2 ^ 5:=Nat.pow_le_pow_right (by omega) hn
  show fitN _ _ _ / 2 < _
  omega
 have key:fitP p (f i)=fitP p (f j):=even_inj (fitP_bit0 h0 _) (fitP_bit0 h0 _) e
 obtain ⟨u,_,hne⟩:=f2 i j hij hj
 refine hne fun w _=>?_
 rw [←hL,←hL,runN_app,runN_app,runN_app,runN_app]
 show runN p (stepN p _ (f i)) w &&& _≠0↔runN p (stepN p _ (f j)) w &&& _≠0
 rw [stepN_fit,stepN_fit,key]
theorem autN_spot0 (q:Part) (b:Nat):setAtN (autN q).sets 0 b=false:=rfl
end Go.Proofs.YtobfpgoepaeknaaGreat
namespace Go.Proofs.YtobfpgoepaeknaaGreat
open Go.RowKit
attribute [local go_sem ↓] Go.wp_at_zero Go.wp_at_succ zvT zvA zvG
attribute [local go_sem] zcT_size zcT_ne zcA_size zcA_ne zcG_size zcG_ne cells_agg
def OfOk (w':World) (B:Nat) (e:Ending) (L:List Nat→Prop):Prop:=(∃ v,e=.returned (.tuple #[v,.int .i64 0])∧TabV w' B v L)∨(e=.returned (.tuple #[.agg zcT,.int .i64 3])∧(ManyStates L∨ManyClasses L))
set_option maxRecDepth 20000 in
set_option maxHeartbeats 4000000 in
theorem OfPattern_any (w:World) (p:ByteArray) (hp:p.size≤60) :
  Calls Tryz.prog 19 #[.string p] w fun e w'=>Below w.heap.size w w'∧∃ y i,Rds p 0 0 x0 (y,i)∧((readErr p y).1≠0→e=.returned (.tuple #[.agg zcT,.int .i64 (readErr p y).1])) ∧
   ((readErr p y).1=0→∃ R n rs k S,R.wt≤12∧Dn y.ns y.fs R ((y.ns.length:Int) - 1)∧rfF n 0 p 0 0 []=some (rs,k)∧Dr rs S k∧R.L=S.L∧OfOk w' w.heap.size e R.L):=by
 have hB0:Below w.heap.size w (w.alloc (.cells zcT 47)):=(Below.refl _ _).alloc (Nat.le_refl _) _
 have HR:=hide (Read_any (w.alloc (.cells zcT 47)) p hp)
 have hpI:(p.size:Int)≤60:=by omega
 have HP:=hide hp
 have HB0:=hide hB0
 clear hp hB0
 go_enter Tryz.func19,Tryz.ntmps19
 go_wp2_with fail
 refine (unhide HR).mono ?_
 rintro e w1 ⟨y,i,nv,sv,hr,⟨na,nn,nc,rfl⟩,⟨sa,sn,sc,rfl⟩,rfl,hw1,hok⟩
 clear HR
 have hR1:w1.heap[w.heap.size]?=some (.cells zcT 47 (0,0)):=(hw1.block _ (by simp)).trans (heap_alloc_new w _)
 have hbw1:Below w.heap.size w w1:=(unhide HB0).trans (hw1.mono (by simp))
 have hsz1:w.heap.size < w1.heap.size:=(Array.getElem?_eq_some_iff.1 hR1).1
 have hb2:Below w1.heap.size w1 (w1.alloc (Obj.cells #[.slice na nn nc,.slice sa sn sc] 86)):=(Below.refl _ _).alloc (Nat.le_refl _) _
 have hR2:=(hb2.block _ hsz1).trans hR1
 have HD:=hide hr
 have HB1:=hide hbw1
 have HB2:=hide (below_then hbw1 (Obj.cells #[.slice na nn nc,.slice sa sn sc] 86))
 have HR2:=hide hR2
 by_cases h0:(readErr p y).1=0
 ·obtain ⟨R,n,rs,k,S,d,hwt,hf,hdr,hRS,hny,hfy⟩:=read_ok (unhide HP) hr h0
  obtain ⟨o1,o2⟩:=hok h0
  have hpos:=d.pos
  obtain ⟨m,hm⟩:∃ m,y.ns.length=m+1:=⟨y.ns.length - 1,by omega⟩
  obtain ⟨g,cap,he⟩:∃ g cap,Value.slice na nn nc=.slice (some ⟨g,0,none⟩) y.ns.length cap:=by
   have o1':=o1
   rw [hm] at o1' ⊢;exact own_form o1'
  simp only [Value.slice.injEq] at he
  obtain ⟨rfl,rfl,rfl⟩:=he
  obtain ⟨sa',sc',he2⟩:=FsRow.form (B:=(w.alloc (.cells zcT 47)).heap.size) o2
  simp only [Value.slice.injEq] at he2
  obtain ⟨rfl,rfl,rfl⟩:=he2
  have HBU:=hide (Build_any _ g nc sc sa y.ns y.fs R (NdRow.below (ownsRow_less o1 (Nat.zero_le _)) hb2) (FsRow.below (ownsRow_less o2 (Nat.zero_le _)) hb2) hny hfy d (by omega))
  have HF:Hid (∃ R' n rs k S,R'.wt≤12∧Dn y.ns y.fs R' ((y.ns.length:Int) - 1)∧rfF n 0 p 0 0 []=some (rs,k)∧Dr rs S k∧R'.L=S.L∧R'=R):=⟨R,n,rs,k,S,hwt,d,hf,hdr,hRS,rfl⟩
  have HOK:=hide (autN_ok (partN_ok R))
  have HLEN:Hid ((autN (partN R)).next.length≤13):=by
   show _≤_
   have e2:(autN (partN R)).next.length=(oneN fun _=>false).next.length+(partN R).next.length:=behindN_len _ _
   have:=partN_len R
   rw [e2];simp [oneN];omega
  have HLEN1:Hid (1≤(autN (partN R)).next.length):=by
   show _≤_
   have e2:(autN (partN R)).next.length=(oneN fun _=>false).next.length+(partN R).next.length:=behindN_len _ _
   rw [e2];simp [oneN]
  have HM:Hid (∀ x,runN (autN (partN R)) 1 x &&& (autN (partN R)).last≠0↔R.L x):=by
   intro x;rw [autN_match (partN_ok R),partN_L]
  generalize autN (partN R)=P at *
  have HE:=hide h0
  generalize hre:readErr p y=re at *
  have HRE:=hide hre
  clear hre hr hw1 hok d hwt hf hdr hRS hny hfy o1 o2 hpos hm hb2 hR1 hR2 hbw1
  obtain ⟨e1,e2⟩:=re
  have h0':e1=0:=h0
  subst h0'
  go_wp2_with fail
  refine (unhide HBU).mono ?_
  rintro e w3 ⟨v,rfl,hv,hw3⟩
  have hb3:Below w3.heap.size w3 (w3.alloc (Obj.cells v.cells 90)):=(Below.refl _ _).alloc (Nat.le_refl _) _
  have hbw3:Below w.heap.size w w3:=(unhide HB2).trans (hw3.mono (unhide HB2).size)
  have hR3:w3.heap[w.heap.size]?=some (.cells zcT 47 (0,0)):=(hw3.block _ (by simp;omega)).trans (unhide HR2)
  have hs3:w.heap.size < w3.heap.size:=(Array.getElem?_eq_some_iff.1 hR3).1
  have HB4:=hide (below_then hbw3 (Obj.cells v.cells 90))
  have HR4:=hide ((hb3.block _ hs3).trans hR3)
  obtain ⟨nv3,rfl,v2⟩:=id hv
  have HA:=hide (Draw_any _ w3.heap.size _ ⟨nv3,heap_alloc_new w3 _,v2.below hb3⟩ (unhide HOK) (unhide HLEN) (unhide HLEN1))
  obtain ⟨na3,nc3,rfl⟩:=v2.form
  clear v2 hv hw3 hb3 HBU hR3 hbw3 HB2 HR2
  go_wp2_with (refine wpList_store_row0 rfl 90 _ _ rfl rfl w3.heap.size _ rfl rfl 90 _ (heap_alloc_new _ _) (by rw [autA_size];kernel_rfl) (by rw [autA_size,zcA_size]) (autA_one _ _ _ _ _) ?_;rw [setRow_alloc])
  refine (unhide HA).mono ?_
  rintro e w5 ⟨lv,F,gv,nv,hb,st,nxs,grs,rfl,hw5,rl,rg,rn,hso,hdr,hgt,hgl⟩
  obtain ⟨la,lc,hlv⟩:=rl.form
  rw [List.length_map] at hlv
  subst hlv
  obtain ⟨ga,gc,rfl⟩:=rg.form
  obtain ⟨na5,nc5,rfl⟩:=rn.form
  have hb5:Below w5.heap.size w5 (w5.alloc (Obj.cells (graphA (.slice la hb.length lc) F (.slice ga grs.length gc) (.slice na5 nxs.length nc5)) 93)):=(Below.refl _ _).alloc (Nat.le_refl _) _
  have hbw5:Below w.heap.size w w5:=(unhide HB4).trans (hw5.mono (unhide HB4).size)
  have hR5:w5.heap[w.heap.size]?=some (.cells zcT 47 (0,0)):=(hw5.block _ (by simp;omega)).trans (unhide HR4)
  have hs5:w.heap.size < w5.heap.size:=(Array.getElem?_eq_some_iff.1 hR5).1
  have hGB:GraphB (w5.alloc (Obj.cells (graphA (.slice la hb.length lc) F (.slice ga grs.length gc) (.slice na5 nxs.length nc5)) 93)) w5.heap.size hb.length F grs nxs:=⟨_,_,_,_,heap_alloc_new _ _,(BRow.below rg hb5).zero',(rn.below hb5).zero⟩
  have hst:st.length≤8192:=Nat.le_trans hdr.size (Nat.le_trans (Nat.pow_le_pow_right (by omega) (unhide HLEN)) (by decide))
  have hhb:hb.length≤256:=hso.len_le
  have hsm:Small hb.length grs nxs:=⟨hhb,by omega,by
   rw [hdr.len]
   have:=Nat.mul_le_mul hst hhb
   omega⟩
  have hdfa:=Drawn.dfa hso hdr (gr:=fun i=>grs.getD i false) (fun i hi=>by rw [hgt i (by omega)];simp) (unhide HM)
  rw [←hgl] at hdfa
  have HOG:=hide (ofGraph_any _ w5.heap.size hb F grs nxs hGB hsm _ hso R.L hdfa)
  have HB6:=hide (below_then hbw5 (Obj.cells (graphA (.slice la hb.length lc) F (.slice ga grs.length gc) (.slice na5 nxs.length nc5)) 93))
  have HR6:=hide ((hb5.block _ hs5).trans hR5)
  clear hw5 rl rg rn hso hdr hgt hgl hb5 hbw5 hR5 hGB hst hhb hsm hdfa HA HB4 HR4
  go_wp2_with (refine wpList_store_row0 rfl 93 _ _ rfl rfl w5.heap.size _ rfl rfl 93 _ (heap_alloc_new _ _) (by rw [graphA_size];kernel_rfl) (by rw [graphA_size,zcG_size]) (graphA_one _ _ _ _ _ _ _ _ _ _) ?_;rw [setRow_alloc])
  refine (unhide HOG).mono ?_
  rintro e w7 ⟨hw7,hres⟩
  clear HOG
  have HB7:Hid (Below w.heap.size w w7):=(unhide HB6).trans (hw7.mono (unhide HB6).size)
  have HR7:Hid (w7.heap[w.heap.size]?=some (.cells zcT 47 (0,0))):=(hw7.block _ (by simp;omega)).trans (unhide HR6)
  have HS7:Hid (w.heap.size≤(w5.alloc (Obj.cells (graphA (.slice la hb.length lc) F (.slice ga grs.length gc) (.slice na5 nxs.length nc5)) 93)).heap.size):=(unhide HB6).size
  rcases hres with ⟨v,rfl,S',C,nx,gr,cl,nc',gv',nv',rfl,r1,r2,htab⟩ | ⟨rfl,hmany⟩
  ·obtain ⟨bs,hbs⟩:∃ bs,bs=(List.range S').map gr:=⟨_,rfl⟩
   obtain ⟨ns,hns⟩:∃ ns,ns=(List.range S').flatMap (fun i=>(List.range C).map (nc' i)):=⟨_,rfl⟩
   rw [←hbs] at r1
   rw [←hns] at r2
   have HBS:=hide hbs
   have HNS:=hide hns
   clear hbs hns
   obtain ⟨ga7,gc7,rfl⟩:=r1.form
   obtain ⟨na7,nc7,rfl⟩:=r2.form
   have H1:=hide r1
   have H2:=hide r2
   have HT:=hide htab
   clear hw7 r1 r2 htab
   go_wp2_with (refine wpList_store_row0 rfl 47 _ _ rfl rfl w.heap.size _ rfl rfl 47 _ (unhide HR7) (by rw [tabA_size];kernel_rfl) (by rw [tabA_size,zcT_size]) (tabA_one _ _ _ _ _ _ _ _) ?_)
   refine bodyPost_ret (v:=.tuple #[.agg (tabA cl C (.slice ga7 _ gc7) (.slice na7 _ nc7)),.int .i64 0])
    (results_cell_row_tmp (p:=2) (u:=3) (ty:=47) rfl _ _ w.heap.size 47 _ (0,0) _ rfl (setRow_heap _ _ _ _ _ _ (unhide HR7)) Tryz.underlying47 rfl (by rw [tabA_size];kernel_rfl) _ rfl) rfl
    ⟨below_setRow (unhide HB7) (Nat.le_refl _) _,y,i,unhide HD,fun h=>absurd (by rw [unhide HRE]) h,fun _=>?_⟩
   obtain ⟨R',n,rs,k,S,f1,f2,f3,f4,f5,rfl⟩:=unhide HF
   refine ⟨R',n,rs,k,S,f1,f2,f3,f4,f5,.inl ⟨_,rfl,_,_,_,_,_,_,_,_,rfl,?_,?_,unhide HT⟩⟩
   ·rw [←unhide HBS]
    exact own_setRow (ownsRow_less (unhide H1) (unhide HS7)) (own_off (unhide H1) (unhide HR7) (by decide)) _
   ·rw [←unhide HNS]
    exact own_setRow (ownsRow_less (unhide H2) (unhide HS7)) (own_off (unhide H2) (unhide HR7) (by decide)) _
  ·have HMANY:=hide hmany
   clear hw7 hmany
   go_wp2_with (refine wpList_store_row0 rfl 47 _ _ rfl rfl w.heap.size _ rfl rfl 47 _ (unhide HR7) (by rw [zcT_size];kernel_rfl) (by rw [zcT_size]) (tabA_one _ _ _ _ _ _ _ _) ?_)
   refine bodyPost_ret (v:=.tuple #[.agg zcT,.int .i64 3])
    (results_cell_row_tmp (p:=2) (u:=3) (ty:=47) rfl _ _ w.heap.size 47 _ (0,0) _ rfl (setRow_heap _ _ _ _ _ _ (unhide HR7)) Tryz.underlying47 rfl (by rw [zcT_size];kernel_rfl) _ rfl) rfl
    ⟨below_setRow (unhide HB7) (Nat.le_refl _) _,y,i,unhide HD,fun h=>absurd (by rw [unhide HRE]) h,fun _=>?_⟩
   obtain ⟨R',n,rs,k,S,f1,f2,f3,f4,f5,rfl⟩:=unhide HF
   exact ⟨R',n,rs,k,S,f1,f2,f3,f4,f5,.inr ⟨rfl,unhide HMANY⟩⟩
 ·have H0:=hide h0
  generalize hre:readErr p y=re at *
  have HRE:=hide hre
  clear hre hr hw1 hok hR1 hbw1 hb2 hR2
  obtain ⟨e1,e2⟩:=re
  have h0':¬e1=0:=h0
  clear h0
  go_wp2_with (refine wpList_store_row0 rfl 47 _ _ rfl rfl w.heap.size _ rfl rfl 47 _ (unhide HR2) (by rw [zcT_size];kernel_rfl) (by rw [zcT_size]) (tabA_one _ _ _ _ _ _ _ _) ?_)
  refine bodyPost_ret (v:=.tuple #[.agg zcT,.int .i64 e1])
   (results_cell_row_tmp (p:=2) (u:=3) (ty:=47) rfl _ _ w.heap.size 47 _ (0,0) _ rfl (setRow_heap _ _ _ _ _ _ (unhide HR2)) Tryz.underlying47 rfl (by rw [zcT_size];kernel_rfl) _ rfl) rfl
   ⟨below_setRow (unhide HB2) (Nat.le_refl _) _,y,i,unhide HD,fun _=>by rw [unhide HRE],fun h=>absurd (by rw [unhide HRE] at h;exact h) h0'⟩
end Go.Proofs.YtobfpgoepaeknaaGreat
