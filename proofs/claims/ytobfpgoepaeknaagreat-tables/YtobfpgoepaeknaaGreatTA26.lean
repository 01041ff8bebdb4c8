/-
  veil.Table: the table of a pattern, or its error.
  Texts that are too long for a pattern; a text that was read, with the weight of what the document reads.
  The document's answer: the tree and the terms of a pattern; rows of rows of numbers; do two kinds of bytes lead alike?
  The document's answer: a table: what is kept on the way.
-/
import Derived.Test.YtobfpgoepaeknaaGreatTA25
import Derived.Test.YtobfpgoepaeknaaGreatTA11
import Derived.Test.YtobfpgoepaeknaaGreatTA18
namespace Go.Proofs.YtobfpgoepaeknaaGreat
open Go.RowKit
attribute [local go_sem ↓] Go.wp_at_zero Go.wp_at_succ zvT
attribute [local go_sem] zcT_size zcT_ne cells_agg
theorem TabOf.bytes {L:List Nat→Prop} {S C:Nat} {nx:Nat→Nat→Nat} {gr:Nat→Bool} {cl:Nat→Nat} {nc:Nat→Nat→Nat} (_h:TabOf L S C nx gr cl nc) :
  bytesT ((List.range S).map gr).length C cl ((List.range S).map gr) ((List.range S).flatMap (fun i=>(List.range C).map (nc i)))=layTab S C cl gr nc:=by
 unfold bytesT layTab
 rw [List.length_map,List.length_range,List.map_map]
 rfl
theorem TabOf.nc_lt {L:List Nat→Prop} {S C:Nat} {nx:Nat→Nat→Nat} {gr:Nat→Bool} {cl:Nat→Nat} {nc:Nat→Nat→Nat} (h:TabOf L S C nx gr cl nc) {i c:Nat} (hi:i < S) (hc:c < C):nc i c < S:=by
 obtain ⟨b,hb,rfl⟩:=h.cols.all c hc
 rw [h.nc i b hi hb];exact h.dfa.lt i b hi hb
theorem TabOf.ns_lt {L:List Nat→Prop} {S C:Nat} {nx:Nat→Nat→Nat} {gr:Nat→Bool} {cl:Nat→Nat} {nc:Nat→Nat→Nat} (h:TabOf L S C nx gr cl nc):∀ x∈(List.range S).flatMap (fun i=>(List.range C).map (nc i)),x < 256:=fun x hx=>by
 obtain ⟨i,hi,hx⟩:=List.mem_flatMap.1 hx
 obtain ⟨c,hc,rfl⟩:=List.mem_map.1 hx
 have:=h.nc_lt (List.mem_range.1 hi) (List.mem_range.1 hc)
 have:=h.sle
 omega
def TblOk (e:Ending) (L:List Nat→Prop):Prop:=(∃ S C nx gr cl nc,e=.returned (.tuple #[.string (strN (layTab S C cl gr nc)),.int .i64 0])∧TabOf L S C nx gr cl nc)∨(e=.returned (.tuple #[.string ⟨#[]⟩,.int .i64 3])∧(ManyStates L∨ManyClasses L))
set_option maxRecDepth 20000 in
set_option maxHeartbeats 2000000 in
theorem VTable_any (w:World) (p:ByteArray) (hp:p.size≤60) :
  Calls Tryz.prog 6 #[.string p] w fun e w'=>Below w.heap.size w w'∧∃ y i,Rds p 0 0 x0 (y,i)∧((readErr p y).1≠0→e=.returned (.tuple #[.string ⟨#[]⟩,.int .i64 (readErr p y).1])) ∧
   ((readErr p y).1=0→∃ R n rs k S,R.wt≤12∧Dn y.ns y.fs R ((y.ns.length:Int) - 1)∧rfF n 0 p 0 0 []=some (rs,k)∧Dr rs S k∧R.L=S.L∧TblOk e R.L):=by
 have HR:=hide (OfPattern_any w p hp)
 clear hp
 go_enter Tryz.func6,Tryz.ntmps6
 go_wp2_with fail
 refine (unhide HR).mono ?_
 rintro e w1 ⟨hw1,y,i,hr,hbad,hgood⟩
 clear HR
 have HD:=hide hr
 by_cases h0:(readErr p y).1=0
 ·obtain ⟨R,n,rs,k,S,f1,f2,f3,f4,f5,hof⟩:=hgood h0
  have HF:Hid (∀ e,TblOk e R.L→∃ R n rs k S,R.wt≤12∧Dn y.ns y.fs R ((y.ns.length:Int) - 1)∧rfF n 0 p 0 0 []=some (rs,k)∧Dr rs S k∧R.L=S.L∧TblOk e R.L):=fun e he=>⟨R,n,rs,k,S,f1,f2,f3,f4,f5,he⟩
  have H0:=hide h0
  clear hbad hgood f1 f2 f3 f4 f5 hr
  rcases hof with ⟨v,rfl,S',C,nx,gr,cl,nc,gv,nv,rfl,r1,r2,htab⟩ | ⟨rfl,hmany⟩
  ·have hb2:∀ o,Below w1.heap.size w1 (w1.alloc o):=fun o=>(Below.refl _ _).alloc (Nat.le_refl _) _
   have HTB:Hid (∀ o,o=Obj.cells (tabA cl C gv nv) 47→TabB (w1.alloc o) w1.heap.size cl C ((List.range S').map gr) ((List.range S').flatMap (fun i=>(List.range C).map (nc i)))):=fun o ho=>by
    subst ho
    exact ⟨gv,nv,heap_alloc_new _ _,(BRow.below r1 (hb2 _)).zero',(r2.below (hb2 _)).zero⟩
   have hby:=htab.bytes
   have HBY:Hid (∀ o,o=Obj.cells (tabA cl C gv nv) 47→Calls Tryz.prog 20 #[.pointer (some ⟨w1.heap.size,0,none⟩)] (w1.alloc o) fun e w'=>e=.returned (.string (strN (layTab S' C cl gr nc)))∧Below (w1.alloc o).heap.size (w1.alloc o) w'):=fun o ho=>by
    have:=TBytes_any (w1.alloc o) w1.heap.size cl C _ _ (unhide HTB o ho) htab.cle (by rw [List.length_map,List.length_range];exact htab.sle) (fun b hb=>by have:=htab.cols.lt b hb;have:=htab.cle;omega) htab.ns_lt (by
     rw [flat_len]
     have:=Nat.mul_le_mul htab.sle htab.cle
     omega)
    rw [hby] at this
    exact this
   have HT:=hide htab
   have HB2:=hide (fun o=>below_then hw1 o)
   obtain ⟨bs,hbs⟩:∃ bs,bs=(List.range S').map gr:=⟨_,rfl⟩
   obtain ⟨ns,hns⟩:∃ ns,ns=(List.range S').flatMap (fun i=>(List.range C).map (nc i)):=⟨_,rfl⟩
   rw [←hbs] at r1
   rw [←hns] at r2
   obtain ⟨ga,gc,rfl⟩:=r1.form
   obtain ⟨na,nc',rfl⟩:=r2.form
   have HBY2:=hide (unhide HBY _ rfl)
   have HB3:=hide (unhide HB2 (Obj.cells (tabA cl C (.slice ga bs.length gc) (.slice na ns.length nc')) 47))
   clear hw1 r1 r2 htab hby hb2 hbs hns HTB HBY HB2
   go_wp2_with (refine wpList_store_row0 rfl 47 _ _ rfl rfl w1.heap.size _ rfl rfl 47 _ (heap_alloc_new _ _) (by rw [tabA_size];kernel_rfl) (by rw [tabA_size,zcT_size]) (tabA_one _ _ _ _ _ _ _ _) ?_;rw [setRow_alloc])
   refine (unhide HBY2).mono ?_
   rintro e w4 ⟨rfl,hw4⟩
   have HB4:=hide ((unhide HB3).trans (hw4.mono (unhide HB3).size))
   clear hw4
   go_wp2_with fail
   go_ret2
   exact ⟨unhide HB4,y,i,unhide HD,fun h=>absurd (unhide H0) h,fun _=>unhide HF _ (.inl ⟨_,_,_,_,_,_,rfl,unhide HT⟩)⟩
  ·have HMANY:=hide hmany
   have HB2:=hide (fun o=>below_then hw1 o)
   clear hw1 hmany
   go_wp2_with (refine wpList_store_row0 rfl 47 _ _ rfl rfl w1.heap.size _ rfl rfl 47 _ (heap_alloc_new _ _) (by rw [zcT_size];kernel_rfl) (by rw [zcT_size]) (tabA_one _ _ _ _ _ _ _ _) ?_;rw [setRow_alloc])
   go_ret2
   exact ⟨unhide HB2 _,y,i,unhide HD,fun h=>absurd (unhide H0) h,fun _=>unhide HF _ (.inr ⟨rfl,unhide HMANY⟩)⟩
 ·have hb:=hbad h0
  subst hb
  have HRE:Hid (∃ r,r=(readErr p y).1∧r≠0):=⟨_,rfl,h0⟩
  have HB2:=hide (fun o=>below_then hw1 o)
  clear hbad hgood hr h0 hw1
  obtain ⟨r,hr,hr0⟩:=unhide HRE
  rw [←hr]
  have HR:=hide hr
  have hr0':¬r=0:=hr0
  clear HRE hr hr0
  go_wp2_with (refine wpList_store_row0 rfl 47 _ _ rfl rfl w1.heap.size _ rfl rfl 47 _ (heap_alloc_new _ _) (by rw [zcT_size];kernel_rfl) (by rw [zcT_size]) (tabA_one _ _ _ _ _ _ _ _) ?_;rw [setRow_alloc])
  go_ret2
  exact ⟨unhide HB2 _,y,i,unhide HD,fun _=>by rw [←unhide HR];rfl,fun h=>absurd (by rw [←unhide HR] at h;exact h) hr0'⟩
end Go.Proofs.YtobfpgoepaeknaaGreat
namespace Go.Proofs.YtobfpgoepaeknaaGreat
namespace Mc
open Go.RowKit
attribute [local go_sem ↓] Go.wp_at_zero Go.wp_at_succ
attribute [local go_sem ↓] zvT
attribute [local go_sem] zcT_size zcT_ne cells_agg
theorem rf_same {p:ByteArray} {n n':Nat} {r r':List Rn × Int} (h:rfF n 0 p 0 0 []=some r) (h':rfF n' 0 p 0 0 []=some r'):r=r':=by
 have a:=rfF_mono n (max n n') 0 p 0 0 [] r (Nat.le_max_left _ _) h
 have b:=rfF_mono n' (max n n') 0 p 0 0 [] r' (Nat.le_max_right _ _) h'
 rw [a] at b
 exact Option.some.inj b
theorem read_okV {p:ByteArray} {y:Go.Proofs.YtobfpgoepaeknaaGreat.St} {i:Int} (h60:p.size≤60) (hr:Rds p 0 0 x0 (y,i)) (h0:(readErr p y).1=0) :
  ∃ n rs k S,rfF n 0 p 0 0 []=some (rs,((k:Nat):Int))∧Dr rs S (k:Int)∧S.wt≤12:=by
 have hn:¬(y.s.bad=true∨y.s.k < p.size):=fun h=>by rw [readErr_bad h] at h0;cases h0
 have hb:y.s.bad=false:=by
  cases hbb:y.s.bad
  ·rfl
  ·exact absurd (Or.inl hbb) hn
 have hk:¬y.s.k < p.size:=fun h=>hn (Or.inr h)
 have hw:¬12 < lastW (weighAll y.ns):=fun h=>by rw [readErr_big hb hk h] at h0;cases h0
 obtain ⟨R,n,rs,k,S,d,rfl,e,f,g,hv⟩:=read_meets p y i h60 hr hn
 have h3:=rfF_wf n 0 p 0 0 [] (rs,k) f (fun k r h=>by simp at h) (fun h=>by omega)
 obtain ⟨k',rfl⟩:=Int.eq_ofNat_of_zero_le h3.2.1
 refine ⟨n,rs,k',S,f,g,?_⟩
 have e2:R.wt=S.wt:=congrArg Prod.snd hv
 rw [e] at hw
 unfold cl at hw
 split at hw<;>omega
set_option maxRecDepth 20000 in
set_option maxHeartbeats 2000000 in
theorem OfPattern_long (w:World) (p:ByteArray) (hp:60 < p.size) :
  Calls Tryz.prog 19 #[.string p] w fun e w'=>e=.returned (.tuple #[.agg zcT,.int .i64 1])∧Below w.heap.size w w':=by
 have hB0:Below w.heap.size w (w.alloc (.cells zcT 47)):=(Below.refl _ _).alloc (Nat.le_refl _) _
 have HR:=hide (Read_long (w.alloc (.cells zcT 47)) p hp)
 have HB0:=hide hB0
 clear hp hB0
 go_enter Tryz.func19,Tryz.ntmps19
 go_wp2_with fail
 refine (unhide HR).mono ?_
 rintro e w1 ⟨rfl,hw1⟩
 clear HR
 have hR1:w1.heap[w.heap.size]?=some (.cells zcT 47 (0,0)):=(hw1.block _ (by simp)).trans (heap_alloc_new w _)
 have hbw1:Below w.heap.size w w1:=(unhide HB0).trans (hw1.mono (by simp))
 have hsz1:w.heap.size < w1.heap.size:=(Array.getElem?_eq_some_iff.1 hR1).1
 have hb2:Below w1.heap.size w1 (w1.alloc (Obj.cells #[.slice none 0 0,.slice none 0 0] 86)):=(Below.refl _ _).alloc (Nat.le_refl _) _
 have HR2:=hide ((hb2.block _ hsz1).trans hR1)
 have HB2:=hide (below_then hbw1 (Obj.cells #[.slice none 0 0,.slice none 0 0] 86))
 clear hw1 hR1 hbw1 hb2
 go_wp2_with (refine wpList_store_row0 rfl 47 _ _ rfl rfl w.heap.size _ rfl rfl 47 _ (unhide HR2) (by rw [zcT_size];kernel_rfl) (by rw [zcT_size]) (tabA_one _ _ _ _ _ _ _ _) ?_)
 refine bodyPost_ret (v:=.tuple #[.agg zcT,.int .i64 1])
  (results_cell_row_tmp (p:=2) (u:=3) (ty:=47) rfl _ _ w.heap.size 47 _ (0,0) _ rfl (setRow_heap _ _ _ _ _ _ (unhide HR2)) Tryz.underlying47 rfl (by rw [zcT_size];kernel_rfl) _ rfl) rfl
  ⟨rfl,below_setRow (unhide HB2) (Nat.le_refl _) _⟩
set_option maxRecDepth 20000 in
set_option maxHeartbeats 2000000 in
theorem VTable_long (w:World) (p:ByteArray) (hp:60 < p.size) :
  Calls Tryz.prog 6 #[.string p] w fun e w'=>e=.returned (.tuple #[.string ⟨#[]⟩,.int .i64 1])∧Below w.heap.size w w':=by
 have HR:=hide (OfPattern_long w p hp)
 clear hp
 go_enter Tryz.func6,Tryz.ntmps6
 go_wp2_with fail
 refine (unhide HR).mono ?_
 rintro e w1 ⟨rfl,hw1⟩
 have HB2:=hide (fun o=>below_then hw1 o)
 clear hw1
 go_wp2_with (refine wpList_store_row0 rfl 47 _ _ rfl rfl w1.heap.size _ rfl rfl 47 _ (heap_alloc_new _ _) (by rw [zcT_size];kernel_rfl) (by rw [zcT_size]) (tabA_one _ _ _ _ _ _ _ _) ?_;rw [setRow_alloc])
 go_ret2
 exact ⟨rfl,unhide HB2 _⟩
end Mc
end Go.Proofs.YtobfpgoepaeknaaGreat
namespace Go.Proofs.YtobfpgoepaeknaaGreat
namespace Mc
open Go.RowKit
attribute [local go_sem ↓] Go.wp_at_zero Go.wp_at_succ
section
variable {n : Nat} {p : ByteArray} {rs0 : List Rn} {k : Nat} {R : Re}
theorem root_lt (h:rfF n 0 p 0 0 []=some (rs0,(k:Int))) (hp:p.size≤60):k < rs0.length∧rs0.length≤121∧WfT rs0:=by
 have h3:=rfF_wf n 0 p 0 0 [] (rs0,(k:Int)) h (fun k r h=>by simp at h) (fun h=>by omega)
 have h4:=tree_small h hp
 have h5:=ctsT_len rs0
 have h6:(k:Int) < (rs0.length:Int):=h3.2.2
 exact ⟨by omega,by omega,h3.1⟩
theorem trc_of (h:rfF n 0 p 0 0 []=some (rs0,(k:Int))) (hp:p.size≤60) (hd:Dr rs0 R (k:Int)) (hw:R.wt≤12):TrC rs0 ([Nm.o k] ::uni rs0 R k):=by
 obtain ⟨h1,h2,h3⟩:=root_lt h hp
 have hl:=uni_len rs0 R k
 refine ⟨tree_small h hp,h3,?_,by rw [List.length_cons];omega,fun u hu=>?_⟩
 ·intro τ hτ α x β σ e hx
  rcases List.mem_cons.1 hτ with rfl | hτ
  ·have e2:α=[]∧x=Nm.o k∧β=[]:=by
    cases α with
    | nil=>simp at e;exact ⟨rfl,e.1.symm,e.2⟩
    | cons a α=>simp at e
   obtain ⟨rfl,rfl,rfl⟩:=e2
   obtain ⟨R',h',hσ⟩:=hx.ofO
   rw [List.append_nil,Dr.same hd h']
   exact List.mem_cons_of_mem _ hσ
  ·exact List.mem_cons_of_mem _ (uni_closed rs0 R k hd τ hτ α x β σ e hx)
 ·rcases List.mem_cons.1 hu with rfl | hu
  ·simp
  ·have g1:=uni_dep rs0 R k u hu
   have g2:=rdep_le h3 hd
   omega
theorem root_set (h:rfF n 0 p 0 0 []=some (rs0,(k:Int))) (hp:p.size≤60) (hd:Dr rs0 R (k:Int)) (hw:R.wt≤12):VSet rs0 rs0 ([Nm.o k] ::uni rs0 R k) [oneB k]∧EqB (stB rs0 [oneB k]) R.L:=by
 obtain ⟨h1,h2,h3⟩:=root_lt h hp
 have hb:bytesN (oneB k)=[k]:=bytesN_oneB (by omega)
 refine ⟨⟨List.pairwise_singleton _ _,fun s hs=>?_,fun s hs j hj=>?_⟩,fun w _=>?_⟩
 ·rw [List.mem_singleton.1 hs]
  refine ⟨fun j hj=>?_,?_⟩
  ·rw [hb,List.mem_singleton] at hj;omega
  ·unfold nmS
   rw [hb,List.map_singleton]
   unfold nmOf
   rw [if_pos h1]
   exact List.mem_cons_self
 ·rw [List.mem_singleton.1 hs,hb,List.mem_singleton] at hj
  subst hj
  exact .inl ⟨h1,R,hd,hw⟩
 ·have e:tmL rs0 [k]=R.L:=by
   show catL (LN rs0 k) epsL=_
   rw [LN_eq hd]
   exact Lang.ext fun u=>⟨fun ⟨a,c,e1,e2,e3⟩=>by
    have e3':c=[]:=e3
    subst e3'
    rw [List.append_nil] at e1;rw [e1];exact e2,fun h=>⟨u,[],(List.append_nil u).symm,h,rfl⟩⟩
  constructor
  ·rintro ⟨s,hs,ht⟩
   rw [List.mem_singleton.1 hs,hb,e] at ht
   exact ht
  ·intro ht
   exact ⟨oneB k,List.mem_singleton.2 rfl,by rw [hb,e];exact ht⟩
end
def nxF (Nx:List (List Nat)) (i c:Nat):Nat:=(Nx.getD i []).getD c 0
theorem flat_at {M:Nat}:∀ {Nx:List (List Nat)},(∀ r∈Nx,r.length=M)→∀ {i c:Nat},i < Nx.length→c < M→Nx.flatten.getD (i * M+c) 0=nxF Nx i c
 | [],_,i,c,hi,_=>by simp at hi
 | r ::Nx,hl,0,c,_,hc=>by
  have:=hl r (by simp)
  unfold nxF
  rw [List.flatten_cons,List.getD_eq_getElem?_getD,List.getElem?_append_left (by omega),List.getD_cons_zero,List.getD_eq_getElem?_getD]
  simp
 | r ::Nx,hl,i+1,c,hi,hc=>by
  have h1:=hl r (by simp)
  have ih:=flat_at (Nx:=Nx) (fun r hr=>hl r (by simp [hr])) (i:=i) (by simpa using hi) hc
  unfold nxF at ih ⊢
  rw [List.getD_cons_succ,←ih,List.flatten_cons,List.getD_eq_getElem?_getD,List.getElem?_append_right (by rw [h1,Nat.add_mul];omega),List.getD_eq_getElem?_getD]
  congr 2
  rw [h1,Nat.add_mul];omega
theorem tab_of' {L:List Nat→Prop} {S:Nat} {nx:Nat→Nat→Nat} {gr:Nat→Bool} {fs:List Nat} {cls:Nat→Nat} (hm:MinDfa L S nx gr) (hc:Sorted 256 (ElT S nx) fs cls) (h1:S≤24) (h2:fs.length≤24) :
  TabOf L S fs.length nx gr cls (fun k c=>nx k (fs.getD c 0)) :=
 ⟨hm,⟨hc.lt,hc.iff,fun _ hb _ hcc=>hc.grow hb hcc,fun c hcc=>⟨_,(hc.head c hcc).1,(hc.head c hcc).2⟩⟩,h1,h2,fun i b hi hb=>(hc.iff _ _ (hc.head _ (hc.lt b hb)).1 hb).1 (hc.head _ (hc.lt b hb)).2 i hi⟩
theorem many_of' {L:List Nat→Prop} {S:Nat} {nx:Nat→Nat→Nat} {gr:Nat→Bool} {fs:List Nat} {cls:Nat→Nat} (hm:MinDfa L S nx gr) (hc:Sorted 256 (ElT S nx) fs cls) (h2:24 < fs.length):ManyClasses L:=by
 refine hm.many (fun i=>fs.getD i 0) (fun i hi=>(hc.head i (by omega)).1) (fun i j hij hj=>?_)
 have g:=hc.apart hij (show j < fs.length by omega)
 refine Classical.byContradiction fun hno=>g fun k hk=>?_
 exact Classical.byContradiction fun hne=>hno ⟨k,hk,hne⟩
structure NnR (w:World) (v:Value) (Nx:List (List Nat)):Prop where
 ex:∃ ns,w.ownsRow 0 37 1 v Nx.length ns∧Rwt w 0 ns Nx
theorem own_zero {w:World} {B e z n:Nat} {v:Value} {xs:List Value} (h:w.ownsRow B e z v n xs):w.ownsRow 0 e z v n xs:=by
 refine ⟨h.1,?_⟩
 rcases h.2 with h | ⟨g,cap,cur,h1,h2,h3⟩
 ·exact .inl h
 ·exact .inr ⟨g,cap,cur,h1,Nat.zero_le _,h3⟩
theorem RwI.nn {w wr:World} {bv:Value} {hbs:List Nat} {na:Option Addr} {nc:Nat} {Nx:List (List Nat)} {ns:List Value} {va:Option Addr} {vc:Nat} {row:List Nat} (h:RwI w wr bv hbs na nc Nx ns va vc row):NnR wr (.slice na Nx.length nc) Nx:=⟨ns,own_zero h.no,h.nr.len,fun k u r hu hr=>(h.nr.row k u r hu hr).less (Nat.zero_le _)⟩
theorem NnR.kp {w w':World} {v:Value} {Nx:List (List Nat)} (h:NnR w v Nx) (k:KpN w w'):NnR w' v Nx:=by
 obtain ⟨ns,h1,h2⟩:=h.ex
 exact ⟨ns,k.own h1 (.inr rfl),h2.kp k⟩
theorem NnR.form {w:World} {v:Value} {Nx:List (List Nat)} (h:NnR w v Nx):∃ a c,v=.slice a Nx.length c:=by
 obtain ⟨ns,h1,-⟩:=h.ex
 rcases h1.2 with ⟨e,h0⟩ | ⟨g,cap,cur,e,_⟩
 ·exact ⟨none,0,by rw [e,h0]⟩
 ·exact ⟨_,_,e⟩
theorem NnR.at {w:World} {na:Option Addr} {nc:Nat} {Nx:List (List Nat)} (h:NnR w (.slice na Nx.length nc) Nx) {M:Nat} (hl:∀ r∈Nx,r.length=M) {i:Nat} (hi:i < Nx.length) (hM:0 < M):∃ g gi ci,na=some ⟨g,0,none⟩∧g < w.heap.size∧gi < w.heap.size∧w.cell? ⟨g,i,none⟩=some (.slice (some ⟨gi,0,none⟩) M ci)∧∀ c,c < M→w.cell? ⟨gi,c,none⟩=some (.int .i64 ((nxF Nx i c:Nat):Int)):=by
 obtain ⟨ns,h1,h2⟩:=h.ex
 have hr:=List.getElem?_eq_getElem hi
 obtain ⟨u,hu,hnr⟩:=h2.at hr
 obtain ⟨g,cap,he⟩:=own_form h1 (by omega)
 simp only [Value.slice.injEq,true_and] at he
 obtain ⟨rfl,rfl⟩:=he
 have hcell:=h1.cells (g:=g) rfl i u hu
 rw [add0] at hcell
 have hlen:=hl _ (List.getElem_mem hi)
 obtain ⟨gi,ci,rfl,-⟩:=hnr.at (k:=0) (by omega)
 have hgi:=(World.ownsRow.lt hnr gi rfl).2
 rw [hlen] at hcell
 refine ⟨g,gi,ci,rfl,(h1.lt g rfl).2,hgi,hcell,fun c hc=>?_⟩
 obtain ⟨g',c',e,hc'⟩:=hnr.at (k:=c) (by omega)
 simp only [Value.slice.injEq,Option.some.injEq,Addr.mk.injEq,and_true,true_and] at e
 obtain ⟨rfl,rfl⟩:=e
 rw [hc']
 unfold nxF
 rw [show Nx.getD i []=Nx[i] from by rw [List.getD_eq_getElem?_getD,hr];rfl]
set_option maxRecDepth 20000 in
set_option maxHeartbeats 2000000 in
theorem sameColumn_any (w:World) (v:Value) (Nx:List (List Nat)) (h:NnR w v Nx) (hN:Nx.length≤24) (M:Nat) (hl:∀ r∈Nx,r.length=M) (hM:M≤256) (x y:Nat) (hx:x < M) (hy:y < M) :
  Calls Tryz.prog 25 #[v,.int .i64 (x:Int),.int .i64 (y:Int)] w fun e w'=>(∃ z,e=.returned (.bool z)∧(z=true↔∀ i,i < Nx.length→nxF Nx i x=nxF Nx i y))∧∃ n,w'=w.drewN n:=by
 obtain ⟨na,nc,rfl⟩:=h.form
 have hNI:(Nx.length:Int)≤24:=by omega
 have hMI:(M:Int)≤256:=by omega
 have hxI:(x:Int) < (M:Int):=by omega
 have hyI:(y:Int) < (M:Int):=by omega
 have hx0:(0:Int)≤(x:Int):=by omega
 have hy0:(0:Int)≤(y:Int):=by omega
 have hx1:((x:Int)).toNat=x:=by omega
 have hy1:((y:Int)).toNat=y:=by omega
 have HA:=hide (fun i (hi:i < Nx.length)=>h.at hl hi (by omega))
 have HX:=hide hx
 have HY:=hide hy
 clear h hN hl hM hx hy
 go_enter Tryz.func25,Tryz.ntmps25
 go_wp2_with fail
 go_loopw [7] (fun ix wr=>∃ i:Nat,ix=.int .i64 (i:Int)∧Hid (i≤Nx.length∧(∃ n,wr=w.drewN n)∧∀ k,k < i→nxF Nx k x=nxF Nx k y)) (fun ix _=>Nx.length - (intOf ix).toNat)
 case atStart=>exact ⟨0,rfl,Nat.zero_le _,⟨0,rfl⟩,fun k hk=>by omega⟩
 case round =>
  rename World=>wr
  obtain ⟨i,rfl,HH⟩:=hrel
  obtain ⟨hi,⟨n,rfl⟩,hall⟩:=unhide HH
  clear HH
  by_cases hlt:i < Nx.length
  ·have hiI:(i:Int) < (Nx.length:Int):=by omega
   have hi0:(0:Int)≤(i:Int):=by omega
   have hi1:((i:Int)).toNat=i:=by omega
   obtain ⟨g,gi,ci,rfl,hg,hgi,k0,hc⟩:=unhide HA i hlt
   have k1:=hc x (unhide HX)
   have k2:=hc y (unhide HY)
   have HLT:=hide hlt
   have HALL:=hide hall
   clear hi hall hlt hc
   by_cases he:nxF Nx i x=nxF Nx i y
   ·have HS:Hid (∀ k,k < i+1→nxF Nx k x=nxF Nx k y):=fun k hk=>by
     by_cases e:k=i
     ·subst e;exact he
     ·exact unhide HALL k (by omega)
    rw [←he] at k2
    clear he HALL
    generalize nxF Nx i x=z at *
    go_wp2_with fail
    go_quiet (fail)
    go_wp2_with fail
    go_roundw
    case rel=>exact ⟨i+1,by go_num,unhide HLT,⟨n+nq,by first | rfl | simp⟩,unhide HS⟩
    case measure=>have:=unhide HLT;simp [intOf];omega
   ·have HF:Hid (¬∀ k,k < Nx.length→nxF Nx k x=nxF Nx k y):=fun h=>he (h i (unhide HLT))
    obtain ⟨z1,hz1⟩:∃ z,nxF Nx i x=z:=⟨_,rfl⟩
    obtain ⟨z2,hz2⟩:∃ z,nxF Nx i y=z:=⟨_,rfl⟩
    rw [hz1] at k1
    rw [hz2] at k2
    have hne:¬(z1:Int)=(z2:Int):=by rw [hz1,hz2] at he;omega
    clear he hz1 hz2 HALL
    go_wp2_with fail
    go_quiet (fail)
    go_wp2_with fail
    go_ret
    exact ⟨⟨false,rfl,by simpa using unhide HF⟩,n+nq,by first | rfl | simp⟩
  ·have hi2:i=Nx.length:=by omega
   subst hi2
   have HALL:=hide hall
   clear hi hall hlt
   go_wp2_with fail
   go_ret
   exact ⟨⟨true,rfl,by simpa using unhide HALL⟩,n,rfl⟩
def colB (Nx:List (List Nat)) (x y:Nat):Bool:=(List.range Nx.length).all fun i=>nxF Nx i x == nxF Nx i y
theorem colB_iff (Nx:List (List Nat)) (x y:Nat):colB Nx x y=true↔∀ i,i < Nx.length→nxF Nx i x=nxF Nx i y:=by
 unfold colB
 rw [List.all_eq_true]
 exact ⟨fun h i hi=>by simpa using h i (List.mem_range.2 hi),fun h i hi=>by simpa using h i (List.mem_range.1 hi)⟩
theorem sameColumn_c (w:World) (v:Value) (Nx:List (List Nat)) (h:NnR w v Nx) (hN:Nx.length≤24) (M:Nat) (hl:∀ r∈Nx,r.length=M) (hM:M≤256) (x y:Nat) (hx:x < M) (hy:y < M) :
  Calls Tryz.prog 25 #[v,.int .i64 (x:Int),.int .i64 (y:Int)] w fun e w'=>e=.returned (.bool (colB Nx x y))∧∃ n,w'=w.drewN n :=
 (sameColumn_any w v Nx h hN M hl hM x y hx hy).mono fun e w1 h1=>by
  obtain ⟨⟨z,rfl,hz⟩,h2⟩:=h1
  refine ⟨?_,h2⟩
  rw [show z=colB Nx x y from Bool.eq_iff_iff.2 (hz.trans (colB_iff Nx x y).symm)]
end Mc
end Go.Proofs.YtobfpgoepaeknaaGreat
namespace Go.Proofs.YtobfpgoepaeknaaGreat
namespace Mc
open Go.RowKit
theorem strN_app (a b:List Nat):strN (a++b)=strN a++strN b:=by
 apply ByteArray.ext
 show ((a++b).map UInt8.ofNat).toArray=(strN a++strN b).data
 rw [ByteArray.data_append]
 show _=(a.map UInt8.ofNat).toArray++(b.map UInt8.ofNat).toArray
 simp
theorem infoUb:(Tryz.prog.info? 5).map (fun i=>(i.zero,i.size,i.bytes))=some (some (.int .u8 0),1,1):=by kernel_rfl
theorem appUb {ops:Array Oper} {rest:List Oper} {o:Oper} {a:Act} {W:World} {Q:Exit→Act→World→Prop} (hgd:o.guard=none) (s x:Operand)
  (ho:o.op=.call { callee:=.builtin .append,args:=#[s,x],argTypes:=#[66,66] }) (B:Nat) (v:Value) (xs:List Nat) (hs:a.eval s=v) (hown:URow W B v xs) (g0:Nat) (y:Nat)
  (hx:a.eval x=.slice (some ⟨g0,0,none⟩) 1 1) (hc:W.cell? ⟨g0,0,none⟩=some (.int .u8 (y:Int))) (hlen:xs.length≤3000000) (hB:B≤W.heap.size) (H:Nat) (hH:W.heap.size=H)
  (h:∀ g cap w',w'.ownsRow B 5 1 (.slice (some ⟨g,0,none⟩) (xs.length+1) cap) (xs.length+1) (byteCells xs++[.int .u8 (y:Int)])→W.grownBy w' v.ownBlock→(v.ownBlock=some g∨g=H)→g < w'.heap.size→wpList Tryz.prog ops Q rest (a.put o.dst (.slice (some ⟨g,0,none⟩) (xs.length+1) cap)) w'):wpList Tryz.prog ops Q (o ::rest) a W:=by
 obtain ⟨i,i0,i1,i2,i3⟩:=info_of infoUb
 exact wpList_append_lies W hgd s x 66 ho B 5 i (.int .u8 0) 1 1 Tryz.underlying66 i0 i1 i2 i3 rfl (by decide) v xs.length (byteCells xs) hs hown ⟨g0,0,none⟩ 1 1 [.int .u8 (y:Int)] hx rfl (one_cells hc) (by intro u hu;simp at hu;subst hu;rfl) (by decide) (by unfold maxLen;omega) (by omega) hB H hH h
structure ClI (w wr:World) (ha:Option Addr) (hc:Nat) (hd:List Nat) (ca:Option Addr) (cc:Nat) (cs:List Nat):Prop where
 below:Below w.heap.size w wr
 hr:NR wr w.heap.size (.slice ha hd.length hc) hd
 cr:URow wr w.heap.size (.slice ca cs.length cc) cs
section
variable {w wr w2 : World} {ha : Option Addr} {hc : Nat} {hd : List Nat} {ca : Option Addr} {cc : Nat} {cs : List Nat}
theorem ClI.start (w:World):ClI w w none 0 [] none 0 []:=⟨Below.refl _ _,NR.nil _ _,World.ownsRow_nil _ _ _ _⟩
theorem ClI.drewN (h:ClI w wr ha hc hd ca cc cs) (n:Nat):ClI w (wr.drewN n) ha hc hd ca cc cs:=⟨below_drewN h.below n,h.hr,h.cr⟩
theorem ClI.alloc (h:ClI w wr ha hc hd ca cc cs) (o:Obj):ClI w (wr.alloc o) ha hc hd ca cc cs:=⟨h.below.alloc h.below.size _,(Fr.ofAlloc wr o).own h.hr (by simp),(Fr.ofAlloc wr o).own h.cr (by simp)⟩
theorem ClI.apart (h:ClI w wr ha hc hd ca cc cs) {q:Nat} (h1:(Value.slice ha hd.length hc).ownBlock=some q) (h2:(Value.slice ca cs.length cc).ownBlock=some q):False:=by
 obtain ⟨x,hx⟩:=own_tyT h.hr h1
 obtain ⟨y,hy⟩:=own_tyT h.cr h2
 rw [hx] at hy
 simp at hy
theorem ClI.pushH (h:ClI w wr ha hc hd ca cc cs) {g cap y:Nat} (hgrow:wr.grownBy w2 (.slice ha hd.length hc:Value).ownBlock) (ho:w2.ownsRow w.heap.size 3 1 (.slice (some ⟨g,0,none⟩) (hd.length+1) cap) (hd.length+1) (ncs hd++[.int .i64 (y:Int)])):ClI w w2 (some ⟨g,0,none⟩) cap (hd++[y]) ca cc cs:=by
 refine ⟨h.below.grown hgrow h.below.size (fun q hq=>(World.ownsRow.lt h.hr q hq).1),?_,(Fr.ofGrown hgrow).own h.cr (fun q hq hm=>h.apart (Option.mem_toList.1 hm) hq)⟩
 rw [List.length_append]
 exact NR.of ho
theorem ClI.pushC (h:ClI w wr ha hc hd ca cc cs) {g cap y:Nat} (hgrow:wr.grownBy w2 (.slice ca cs.length cc:Value).ownBlock) (ho:w2.ownsRow w.heap.size 5 1 (.slice (some ⟨g,0,none⟩) (cs.length+1) cap) (cs.length+1) (byteCells cs++[.int .u8 (y:Int)])):ClI w w2 ha hc hd (some ⟨g,0,none⟩) cap (cs++[y]):=by
 refine ⟨h.below.grown hgrow h.below.size (fun q hq=>(World.ownsRow.lt h.cr q hq).1),(Fr.ofGrown hgrow).own h.hr (fun q hq hm=>h.apart hq (Option.mem_toList.1 hm)),?_⟩
 rw [List.length_append]
 exact URow.of ho
end
theorem FnI.start {rs0 rs:List Rn} (U:List (List Nm)) {b gf:Nat} {w:World} {bv:Value} (hrt:RtS w b rs) (hg:GrowT rs0 rs) (him:w.heap[gf]?=some (.cells #[.pointer (some ⟨b,0,none⟩),bv,.slice none 0 0,.slice none 0 0] 62 (0,0))):FnI rs0 U b gf w rs w bv none 0 [] [] none 0 [] rs :=
 ⟨Fv.refl _ _ _,hrt,hg,⟨[],by simp⟩,RtS_lt hrt,(Array.getElem?_eq_some_iff.1 him).1,him,World.ownsRow_nil _ _ _ _,Sws.nil,World.ownsRow_nil _ _ _ _,SepS.nil _,(fun X hX=>by cases hX),(fun s hs=>by cases hs)⟩
theorem Fv.belowOf {b gf:Nat} {w0 w w':World} {rs:List Rn} (h:Fv b gf w w') (h0:Below w0.heap.size w0 w) (hb:w0.heap.size≤b) (hg:w0.heap.size≤gf) (hrt:RtS w b rs):Below w0.heap.size w0 w':=by
 refine ⟨h.os.trans h0.os,h.tape.trans h0.tape,h.output.trans h0.output,Nat.le_trans h0.size h.size,fun k hk=>?_⟩
 rw [h.keep k (Nat.lt_of_lt_of_le hk h0.size) (by omega) (by omega) (fun ⟨v,fr,g1,g2⟩=>?_)]
 ·exact h0.block k hk
 ·obtain ⟨v',g3,g4⟩:=hrt
  rw [g3] at g1
  simp at g1
  obtain ⟨rfl,-⟩:=g1
  have:=(World.ownsRow.lt g4 k g2).1
  omega
theorem Fv.kd {b gf gk:Nat} {w w':World} {rs:List Rn} {cs cf:Array Value} (h:Fv b gf w w') (hrt:RtS w b rs) (hf:w.heap[gf]?=some (.cells cf 62 (0,0))) (hk:w.heap[gk]?=some (.cells cs 44 (0,0))):w'.heap[gk]?=some (.cells cs 44 (0,0)):=by
 obtain ⟨v',g3,g4⟩:=hrt
 rw [h.keep gk (Array.getElem?_eq_some_iff.1 hk).1 (fun e=>?_) (fun e=>?_) (fun ⟨v,fr,g1,g2⟩=>?_)]
 ·exact hk
 ·subst e;rw [g3] at hk;simp at hk
 ·subst e;rw [hf] at hk;simp at hk
 ·rw [g3] at g1
  simp at g1
  obtain ⟨rfl,-⟩:=g1
  obtain ⟨x,hx⟩:=own_tyT g4 g2
  rw [hx] at hk
  simp at hk
theorem ssi_dfa {rs0:List Rn} {U:List (List Nm)} {b gf:Nat} {w:World} {rs:List Rn} {L:Lang} {hbs:List Nat} {bv:Value} {wr:World} {sa:Option Addr} {sc:Nat} {St:List (List ByteArray)} {us:List Value} {ta:Option Addr} {tc:Nat} {T:List ByteArray} {rs1:List Rn} {na:Option Addr} {nc:Nat} {Nx:List (List Nat)} {ns:List Value} {rsA:List Rn} {kd:Nat→Nat} (hs:Sorted 256 (alkB rsA) hbs kd) (hL:SameA rsA L) (h:SsI rs0 U b gf w rs L hbs bv wr sa sc St us ta tc T rs1 na nc Nx ns none 0 []) (hl:Nx.length=St.length) {gr:Nat→Bool} (hg:∀ i X,St[i]?=some X→(gr i=true↔stB rs1 X [])) :
  MinDfa L St.length (fun i b=>Nx.flatten.getD (i * hbs.length+kd b) 0) gr:=by
 have hfd:=h.fd
 simp only [List.length_nil,Nat.add_zero,List.append_nil] at hfd
 rw [hl] at hfd
 have hfd2:FoundI hbs.length hbs L (St.map (stB rs1)) ((St.map (stB rs1)).length * hbs.length) Nx.flatten:=by rw [List.length_map];exact hfd
 have:=FoundI.dfa (gr:=gr) hs hfd2 (fun i A c hA hc=>by
  obtain ⟨u,u1,u2⟩:=hfd.reach i A hA
  have g:=hs.head _ (hs.lt c hc)
  exact hL.der u2 hc g.1 ((hs.iff _ _ hc g.1).1 g.2.symm)) (fun i A hA=>by
  rw [List.getElem?_map] at hA
  obtain ⟨X,hX,rfl⟩:=Option.map_eq_some_iff.1 hA
  exact hg i X hX)
 rw [List.length_map] at this
 exact this
theorem sorted_few {N:Nat} {E:Nat→Nat→Prop} {hs:List Nat} {kd:Nat→Nat} (h:Sorted N E hs kd):hs.length≤N:=by
 have key:∀ j,j < hs.length→j≤hs.getD j 0:=fun j=>by
  induction j with
  | zero=>intro _;exact Nat.zero_le _
  | succ j ih =>
   intro hj
   have:=ih (by omega)
   have:=h.incr j (j+1) (by omega) hj
   omega
 by_cases h0:hs.length=0
 ·omega
 ·have h1:=key (hs.length - 1) (by omega)
  have h2:=(h.head (hs.length - 1) (by omega)).1
  omega
theorem elt_iff {Nx:List (List Nat)} {M:Nat} (hl:∀ r∈Nx,r.length=M) {kd:Nat→Nat} (hk:∀ b,b < 256→kd b < M) {x y:Nat} (hx:x < 256) (hy:y < 256):colB Nx (kd x) (kd y)=true↔ElT Nx.length (fun i b=>Nx.flatten.getD (i * M+kd b) 0) y x:=by
 rw [colB_iff]
 constructor
 ·intro h i hi
  show Nx.flatten.getD (i * M+kd y) 0=Nx.flatten.getD (i * M+kd x) 0
  rw [flat_at hl hi (hk y hy),flat_at hl hi (hk x hx)]
  exact (h i hi).symm
 ·intro h i hi
  have:=h i hi
  simp only [flat_at hl hi (hk y hy),flat_at hl hi (hk x hx)] at this
  exact this.symm
end Mc
end Go.Proofs.YtobfpgoepaeknaaGreat
