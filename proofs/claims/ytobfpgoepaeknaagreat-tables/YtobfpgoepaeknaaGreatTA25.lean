/-
  veil.Match.
  table.OfPattern.
  table.Table.Bytes: the bytes of a table.
  table.Table.Bytes: the walk.
-/
import Derived.Test.YtobfpgoepaeknaaGreatTA21
import Derived.Test.YtobfpgoepaeknaaGreatTA24
import Derived.Test.YtobfpgoepaeknaaGreatTA10
import Derived.Laws.IdiomStrings
namespace Go.Proofs.YtobfpgoepaeknaaGreat
open Go.RowKit
attribute [local go_sem ↓] Go.wp_at_zero Go.wp_at_succ zvA
attribute [local go_sem] zcA_size zcA_ne
theorem Dn.pos {ns:List Nd} {fs:List (Nat→Bool)} {R:Re} {i:Int} (h:Dn ns fs R i):0 < ns.length:=by
 have:=h.lt;omega
theorem read_ok {p:ByteArray} {y:St} {i:Int} (h60:p.size≤60) (hr:Rds p 0 0 x0 (y,i)) (h0:(readErr p y).1=0) :
  ∃ R n rs k S,Dn y.ns y.fs R ((y.ns.length:Int) - 1)∧R.wt≤12∧rfF n 0 p 0 0 []=some (rs,k)∧Dr rs S k∧R.L=S.L∧y.ns.length≤1000∧y.fs.length≤1000:=by
 have hn:¬(y.s.bad=true∨y.s.k < p.size):=fun h=>by rw [readErr_bad h] at h0;cases h0
 have hb:y.s.bad=false:=by
  cases hbb:y.s.bad
  ·rfl
  ·exact absurd (Or.inl hbb) hn
 have hk:¬y.s.k < p.size:=fun h=>hn (Or.inr h)
 have hw:¬12 < lastW (weighAll y.ns):=fun h=>by rw [readErr_big hb hk h] at h0;cases h0
 obtain ⟨R,n,rs,k,S,d,rfl,e,f,g,hv⟩:=read_meets p y i h60 hr hn
 have hy:=Rds.facts (x:=x0) (Nat.zero_le _) hr
 have hky:y.s.k≤p.size:=hy.2.1
 have hny:y.ns.length≤1000:=by have:=hy.2.2.2;simp [x0] at this;omega
 have hfy:y.fs.length≤y.ns.length:=hy.2.2.1 (by simp [x0])
 refine ⟨R,n,rs,k,S,d,?_,f,g,congrArg Prod.fst hv,hny,by omega⟩
 rw [e] at hw
 unfold cl at hw
 split at hw<;>omega
end Go.Proofs.YtobfpgoepaeknaaGreat
namespace Go.Proofs.YtobfpgoepaeknaaGreat
open Go.RowKit
attribute [local go_sem ↓] Go.wp_at_zero Go.wp_at_succ zvT zvA zvG
attribute [local go_sem] zcT_size zcT_ne zcA_size zcA_ne zcG_size zcG_ne cells_agg
def OfOk (w':World) (B:Nat) (e:Ending) (L:List Nat→Prop):Prop:=(∃ v,e=.returned (.tuple #[v,.int .i64 0])∧TabV w' B v L)∨(e=.returned (.tuple #[.agg zcT,.int .i64 3])∧(ManyStates L∨ManyClasses L))
set_option maxRecDepth 20000 in
set_option maxHeartbeats 4000000 in
theorem OfPattern_any (w:World) (p:ByteArray) (hp:p.size≤60) :
  Calls Tryz.prog 19 #[.string p] w fun e w'=>Below w.heap.size w w'∧∃ y i,Rds p 0 0 x0 (y,i)∧((readErr p y).1≠0→e=.returned (.tuple #[.agg zcT,.int .i64 (readErr p y).1])) ∧
   ((readErr p y).1=0→∃ R n rs k S,R.wt≤12∧Dn y.ns y.fs R ((y.ns.length:Int) - 1)∧rfF n 0 p 0 0 []=some (rs,k)∧Dr rs S k∧R.L=S.L∧OfOk w' w.heap.size e R.L):=by
 have hB0:Below w.heap.size w (w.alloc (.cells zcT 47)):=(Below.refl _ _).alloc (Nat.le_refl _) _
 have HR:=hide (Read_any (w.alloc (.cells zcT 47)) p hp)
 have hpI:(p.size:Int)≤60:=by omega
 have HP:=hide hp
 have HB0:=hide hB0
 clear hp hB0
 go_enter Tryz.func19,Tryz.ntmps19
 go_wp2_with fail
 refine (unhide HR).mono ?_
 rintro e w1 ⟨y,i,nv,sv,hr,⟨na,nn,nc,rfl⟩,⟨sa,sn,sc,rfl⟩,rfl,hw1,hok⟩
 clear HR
 have hR1:w1.heap[w.heap.size]?=some (.cells zcT 47 (0,0)):=(hw1.block _ (by simp)).trans (heap_alloc_new w _)
 have hbw1:Below w.heap.size w w1:=(unhide HB0).trans (hw1.mono (by simp))
 have hsz1:w.heap.size < w1.heap.size:=(Array.getElem?_eq_some_iff.1 hR1).1
 have hb2:Below w1.heap.size w1 (w1.alloc (Obj.cells #[.slice na nn nc,.slice sa sn sc] 86)):=(Below.refl _ _).alloc (Nat.le_refl _) _
 have hR2:=(hb2.block _ hsz1).trans hR1
 have HD:=hide hr
 have HB1:=hide hbw1
 have HB2:=hide (below_then hbw1 (Obj.cells #[.slice na nn nc,.slice sa sn sc] 86))
 have HR2:=hide hR2
 by_cases h0:(readErr p y).1=0
 ·obtain ⟨R,n,rs,k,S,d,hwt,hf,hdr,hRS,hny,hfy⟩:=read_ok (unhide HP) hr h0
  obtain ⟨o1,o2⟩:=hok h0
  have hpos:=d.pos
  obtain ⟨m,hm⟩:∃ m,y.ns.length=m+1:=⟨y.ns.length - 1,by omega⟩
  obtain ⟨g,cap,he⟩:∃ g cap,Value.slice na nn nc=.slice (some ⟨g,0,none⟩) y.ns.length cap:=by
   have o1':=o1
   rw [hm] at o1' ⊢;exact own_form o1'
  simp only [Value.slice.injEq] at he
  obtain ⟨rfl,rfl,rfl⟩:=he
  obtain ⟨sa',sc',he2⟩:=FsRow.form (B:=(w.alloc (.cells zcT 47)).heap.size) o2
  simp only [Value.slice.injEq] at he2
  obtain ⟨rfl,rfl,rfl⟩:=he2
  have HBU:=hide (Build_any _ g nc sc sa y.ns y.fs R (NdRow.below (ownsRow_less o1 (Nat.zero_le _)) hb2) (FsRow.below (ownsRow_less o2 (Nat.zero_le _)) hb2) hny hfy d (by omega))
  have HF:Hid (∃ R' n rs k S,R'.wt≤12∧Dn y.ns y.fs R' ((y.ns.length:Int) - 1)∧rfF n 0 p 0 0 []=some (rs,k)∧Dr rs S k∧R'.L=S.L∧R'=R):=⟨R,n,rs,k,S,hwt,d,hf,hdr,hRS,rfl⟩
  have HOK:=hide (autN_ok (partN_ok R))
  have HLEN:Hid ((autN (partN R)).next.length≤13):=by
   show _≤_
   have e2:(autN (partN R)).next.length=(oneN fun _=>false).next.length+(partN R).next.length:=behindN_len _ _
   have:=partN_len R
   rw [e2];simp [oneN];omega
  have HLEN1:Hid (1≤(autN (partN R)).next.length):=by
   show _≤_
   have e2:(autN (partN R)).next.length=(oneN fun _=>false).next.length+(partN R).next.length:=behindN_len _ _
   rw [e2];simp [oneN]
  have HM:Hid (∀ x,runN (autN (partN R)) 1 x &&& (autN (partN R)).last≠0↔R.L x):=by
   intro x;rw [autN_match (partN_ok R),partN_L]
  generalize autN (partN R)=P at *
  have HE:=hide h0
  generalize hre:readErr p y=re at *
  have HRE:=hide hre
  clear hre hr hw1 hok d hwt hf hdr hRS hny hfy o1 o2 hpos hm hb2 hR1 hR2 hbw1
  obtain ⟨e1,e2⟩:=re
  have h0':e1=0:=h0
  subst h0'
  go_wp2_with fail
  refine (unhide HBU).mono ?_
  rintro e w3 ⟨v,rfl,hv,hw3⟩
  have hb3:Below w3.heap.size w3 (w3.alloc (Obj.cells v.cells 90)):=(Below.refl _ _).alloc (Nat.le_refl _) _
  have hbw3:Below w.heap.size w w3:=(unhide HB2).trans (hw3.mono (unhide HB2).size)
  have hR3:w3.heap[w.heap.size]?=some (.cells zcT 47 (0,0)):=(hw3.block _ (by simp;omega)).trans (unhide HR2)
  have hs3:w.heap.size < w3.heap.size:=(Array.getElem?_eq_some_iff.1 hR3).1
  have HB4:=hide (below_then hbw3 (Obj.cells v.cells 90))
  have HR4:=hide ((hb3.block _ hs3).trans hR3)
  obtain ⟨nv3,rfl,v2⟩:=id hv
  have HA:=hide (Draw_any _ w3.heap.size _ ⟨nv3,heap_alloc_new w3 _,v2.below hb3⟩ (unhide HOK) (unhide HLEN) (unhide HLEN1))
  obtain ⟨na3,nc3,rfl⟩:=v2.form
  clear v2 hv hw3 hb3 HBU hR3 hbw3 HB2 HR2
  go_wp2_with (refine wpList_store_row0 rfl 90 _ _ rfl rfl w3.heap.size _ rfl rfl 90 _ (heap_alloc_new _ _) (by rw [autA_size];kernel_rfl) (by rw [autA_size,zcA_size]) (autA_one _ _ _ _ _) ?_;rw [setRow_alloc])
  refine (unhide HA).mono ?_
  rintro e w5 ⟨lv,F,gv,nv,hb,st,nxs,grs,rfl,hw5,rl,rg,rn,hso,hdr,hgt,hgl⟩
  obtain ⟨la,lc,hlv⟩:=rl.form
  rw [List.length_map] at hlv
  subst hlv
  obtain ⟨ga,gc,rfl⟩:=rg.form
  obtain ⟨na5,nc5,rfl⟩:=rn.form
  have hb5:Below w5.heap.size w5 (w5.alloc (Obj.cells (graphA (.slice la hb.length lc) F (.slice ga grs.length gc) (.slice na5 nxs.length nc5)) 93)):=(Below.refl _ _).alloc (Nat.le_refl _) _
  have hbw5:Below w.heap.size w w5:=(unhide HB4).trans (hw5.mono (unhide HB4).size)
  have hR5:w5.heap[w.heap.size]?=some (.cells zcT 47 (0,0)):=(hw5.block _ (by simp;omega)).trans (unhide HR4)
  have hs5:w.heap.size < w5.heap.size:=(Array.getElem?_eq_some_iff.1 hR5).1
  have hGB:GraphB (w5.alloc (Obj.cells (graphA (.slice la hb.length lc) F (.slice ga grs.length gc) (.slice na5 nxs.length nc5)) 93)) w5.heap.size hb.length F grs nxs:=⟨_,_,_,_,heap_alloc_new _ _,(BRow.below rg hb5).zero',(rn.below hb5).zero⟩
  have hst:st.length≤8192:=Nat.le_trans hdr.size (Nat.le_trans (Nat.pow_le_pow_right (by omega) (unhide HLEN)) (by decide))
  have hhb:hb.length≤256:=hso.len_le
  have hsm:Small hb.length grs nxs:=⟨hhb,by omega,by
   rw [hdr.len]
   have:=Nat.mul_le_mul hst hhb
   omega⟩
  have hdfa:=Drawn.dfa hso hdr (gr:=fun i=>grs.getD i false) (fun i hi=>by rw [hgt i (by omega)];simp) (unhide HM)
  rw [←hgl] at hdfa
  have HOG:=hide (ofGraph_any _ w5.heap.size hb F grs nxs hGB hsm _ hso R.L hdfa)
  have HB6:=hide (below_then hbw5 (Obj.cells (graphA (.slice la hb.length lc) F (.slice ga grs.length gc) (.slice na5 nxs.length nc5)) 93))
  have HR6:=hide ((hb5.block _ hs5).trans hR5)
  clear hw5 rl rg rn hso hdr hgt hgl hb5 hbw5 hR5 hGB hst hhb hsm hdfa HA HB4 HR4
  go_wp2_with (refine wpList_store_row0 rfl 93 _ _ rfl rfl w5.heap.size _ rfl rfl 93 _ (heap_alloc_new _ _) (by rw [graphA_size];kernel_rfl) (by rw [graphA_size,zcG_size]) (graphA_one _ _ _ _ _ _ _ _ _ _) ?_;rw [setRow_alloc])
  refine (unhide HOG).mono ?_
  rintro e w7 ⟨hw7,hres⟩
  clear HOG
  have HB7:Hid (Below w.heap.size w w7):=(unhide HB6).trans (hw7.mono (unhide HB6).size)
  have HR7:Hid (w7.heap[w.heap.size]?=some (.cells zcT 47 (0,0))):=(hw7.block _ (by simp;omega)).trans (unhide HR6)
  have HS7:Hid (w.heap.size≤(w5.alloc (Obj.cells (graphA (.slice la hb.length lc) F (.slice ga grs.length gc) (.slice na5 nxs.length nc5)) 93)).heap.size):=(unhide HB6).size
  rcases hres with ⟨v,rfl,S',C,nx,gr,cl,nc',gv',nv',rfl,r1,r2,htab⟩ | ⟨rfl,hmany⟩
  ·obtain ⟨bs,hbs⟩:∃ bs,bs=(List.range S').map gr:=⟨_,rfl⟩
   obtain ⟨ns,hns⟩:∃ ns,ns=(List.range S').flatMap (fun i=>(List.range C).map (nc' i)):=⟨_,rfl⟩
   rw [←hbs] at r1
   rw [←hns] at r2
   have HBS:=hide hbs
   have HNS:=hide hns
   clear hbs hns
   obtain ⟨ga7,gc7,rfl⟩:=r1.form
   obtain ⟨na7,nc7,rfl⟩:=r2.form
   have H1:=hide r1
   have H2:=hide r2
   have HT:=hide htab
   clear hw7 r1 r2 htab
   go_wp2_with (refine wpList_store_row0 rfl 47 _ _ rfl rfl w.heap.size _ rfl rfl 47 _ (unhide HR7) (by rw [tabA_size];kernel_rfl) (by rw [tabA_size,zcT_size]) (tabA_one _ _ _ _ _ _ _ _) ?_)
   refine bodyPost_ret (v:=.tuple #[.agg (tabA cl C (.slice ga7 _ gc7) (.slice na7 _ nc7)),.int .i64 0])
    (results_cell_row_tmp (p:=2) (u:=3) (ty:=47) rfl _ _ w.heap.size 47 _ (0,0) _ rfl (setRow_heap _ _ _ _ _ _ (unhide HR7)) Tryz.underlying47 rfl (by rw [tabA_size];kernel_rfl) _ rfl) rfl
    ⟨below_setRow (unhide HB7) (Nat.le_refl _) _,y,i,unhide HD,fun h=>absurd (by rw [unhide HRE]) h,fun _=>?_⟩
   obtain ⟨R',n,rs,k,S,f1,f2,f3,f4,f5,rfl⟩:=unhide HF
   refine ⟨R',n,rs,k,S,f1,f2,f3,f4,f5,.inl ⟨_,rfl,_,_,_,_,_,_,_,_,rfl,?_,?_,unhide HT⟩⟩
   ·rw [←unhide HBS]
    exact own_setRow (ownsRow_less (unhide H1) (unhide HS7)) (own_off (unhide H1) (unhide HR7) (by decide)) _
   ·rw [←unhide HNS]
    exact own_setRow (ownsRow_less (unhide H2) (unhide HS7)) (own_off (unhide H2) (unhide HR7) (by decide)) _
  ·have HMANY:=hide hmany
   clear hw7 hmany
   go_wp2_with (refine wpList_store_row0 rfl 47 _ _ rfl rfl w.heap.size _ rfl rfl 47 _ (unhide HR7) (by rw [zcT_size];kernel_rfl) (by rw [zcT_size]) (tabA_one _ _ _ _ _ _ _ _) ?_)
   refine bodyPost_ret (v:=.tuple #[.agg zcT,.int .i64 3])
    (results_cell_row_tmp (p:=2) (u:=3) (ty:=47) rfl _ _ w.heap.size 47 _ (0,0) _ rfl (setRow_heap _ _ _ _ _ _ (unhide HR7)) Tryz.underlying47 rfl (by rw [zcT_size];kernel_rfl) _ rfl) rfl
    ⟨below_setRow (unhide HB7) (Nat.le_refl _) _,y,i,unhide HD,fun h=>absurd (by rw [unhide HRE]) h,fun _=>?_⟩
   obtain ⟨R',n,rs,k,S,f1,f2,f3,f4,f5,rfl⟩:=unhide HF
   exact ⟨R',n,rs,k,S,f1,f2,f3,f4,f5,.inr ⟨rfl,unhide HMANY⟩⟩
 ·have H0:=hide h0
  generalize hre:readErr p y=re at *
  have HRE:=hide hre
  clear hre hr hw1 hok hR1 hbw1 hb2 hR2
  obtain ⟨e1,e2⟩:=re
  have h0':¬e1=0:=h0
  clear h0
  go_wp2_with (refine wpList_store_row0 rfl 47 _ _ rfl rfl w.heap.size _ rfl rfl 47 _ (unhide HR2) (by rw [zcT_size];kernel_rfl) (by rw [zcT_size]) (tabA_one _ _ _ _ _ _ _ _) ?_)
  refine bodyPost_ret (v:=.tuple #[.agg zcT,.int .i64 e1])
   (results_cell_row_tmp (p:=2) (u:=3) (ty:=47) rfl _ _ w.heap.size 47 _ (0,0) _ rfl (setRow_heap _ _ _ _ _ _ (unhide HR2)) Tryz.underlying47 rfl (by rw [zcT_size];kernel_rfl) _ rfl) rfl
   ⟨below_setRow (unhide HB2) (Nat.le_refl _) _,y,i,unhide HD,fun _=>by rw [unhide HRE],fun h=>absurd (by rw [unhide HRE] at h;exact h) h0'⟩
end Go.Proofs.YtobfpgoepaeknaaGreat
namespace Go.Proofs.YtobfpgoepaeknaaGreat
open Go.RowKit
attribute [local go_sem ↓] Go.wp_at_zero Go.wp_at_succ
def byteCells (xs:List Nat):List Value:=xs.map fun (n:Nat)=>Value.int .u8 (n:Int)
def URow (w:World) (B:Nat) (v:Value) (xs:List Nat):Prop:=w.ownsRow B 5 1 v xs.length (byteCells xs)
theorem URow.of {w:World} {B:Nat} {v:Value} {xs:List Nat} {y:Nat} (h:w.ownsRow B 5 1 v (xs.length+1) (byteCells xs++[.int .u8 (y:Int)])):URow w B v (xs++[y]):=by
 unfold URow byteCells
 rw [List.length_append,List.map_append];exact h
theorem URow.cells {w:World} {B g cap:Nat} {xs:List Nat} (h:URow w B (.slice (some ⟨g,0,none⟩) xs.length cap) xs) {k:Nat} (hk:k < xs.length):w.cell? ⟨g,k,none⟩=some (.int .u8 ((xs.getD k 0:Nat):Int)):=by
 rcases h.2 with ⟨he,_⟩ | ⟨g',cap',cur,he,h1,hg,h2,h3,h4,h5⟩
 ·cases he
 ·simp only [Value.slice.injEq,Option.some.injEq,Addr.mk.injEq,and_true,true_and] at he
  obtain ⟨rfl,rfl⟩:=he
  rw [cell_of_row _ _ _ _ _ _ hg]
  have e:cur.toList[k]?=(byteCells xs)[k]?:=by
   rw [←h5,List.getElem?_take,if_pos (by simp;omega)]
  rw [←Array.getElem?_toList,e,byteCells,List.getElem?_map,List.getElem?_eq_getElem hk,List.getD_eq_getElem?_getD,List.getElem?_eq_getElem hk];rfl
def strN (xs:List Nat):ByteArray:=⟨(xs.map UInt8.ofNat).toArray⟩
theorem u8_ofNat {x:Nat} (h:x < 256):(UInt8.ofNat x).toNat=x:=by rw [UInt8.toNat_ofNat'];exact Nat.mod_eq_of_lt (by omega)
theorem conv_row {w:World} {B g cap:Nat} {xs:List Nat} (h:URow w B (.slice (some ⟨g,0,none⟩) xs.length cap) xs) (hx:∀ x∈xs,x < 256) :
  (convert 66 9 (.slice (some ⟨g,0,none⟩) xs.length cap)).run Tryz.prog w=.ok (.string (strN xs)) w:=by
 have hl:(xs.map UInt8.ofNat).length=xs.length:=List.length_map _
 have:=run_convert_bytes_back (P:=Tryz.prog) w 66 9 5 ⟨g,0,none⟩ cap (xs.map UInt8.ofNat) Tryz.underlying66 Tryz.underlying5 Tryz.underlying9 (by
  intro j hj
  rw [hl] at hj
  have e:(xs.map UInt8.ofNat)[j]=UInt8.ofNat xs[j]:=List.getElem_map _
  rw [e,u8_ofNat (hx _ (List.getElem_mem _))]
  have:=h.cells hj
  rw [List.getD_eq_getElem?_getD,List.getElem?_eq_getElem hj] at this
  rw [show (Addr.add ⟨g,0,none⟩ j)=⟨g,j,none⟩ from by unfold Addr.add;split<;>simp_all]
  exact this)
 rw [hl] at this
 exact this
theorem infoU8:(Tryz.prog.info? 5).map (fun i=>(i.zero,i.size,i.bytes))=some (some (.int .u8 0),1,1):=by kernel_rfl
structure TabB (w:World) (gt:Nat) (cl:Nat→Nat) (C:Nat) (bs:List Bool) (ns:List Nat):Prop where
 ex:∃ gv nv,w.heap[gt]?=some (.cells (tabA cl C gv nv) 47 (0,0))∧BRow w 0 gv bs∧NRow w 0 nv ns
structure ByI (w wr:World) (tv:Value) (xs:List Nat):Prop where
 below:Below w.heap.size w wr
 row:URow wr w.heap.size tv xs
theorem ByI.grown {w wr w2:World} {tv:Value} {xs:List Nat} (h:ByI w wr tv xs) {o:Obj} (hgrow:(wr.alloc o).grownBy w2 tv.ownBlock) {v':Value} {y:Nat} (ho:w2.ownsRow w.heap.size 5 1 v' (xs.length+1) (byteCells xs++[.int .u8 (y:Int)])):ByI w w2 v' (xs++[y]) :=
 ⟨(below_then h.below o).grown hgrow (by have:=h.below.size;simp;omega) (fun k hk=>(h.row.lt k hk).1),URow.of ho⟩
def bitN (b:Bool):Nat:=if b then 1 else 0
def bytesT (S C:Nat) (cl:Nat→Nat) (bs:List Bool) (ns:List Nat):List Nat:=[S,C]++(List.range 256).map cl++bs.map bitN++ns
theorem take_snoc {α:Type} (l:List α) (d:α) {k:Nat} (hk:k < l.length):l.take (k+1)=l.take k++[l.getD k d]:=by
 rw [List.take_add_one,List.getD_eq_getElem?_getD,List.getElem?_eq_getElem hk];rfl
theorem own_slice' {w:World} {B e z:Nat} {v:Value} {n:Nat} {xs:List Value} (h:w.ownsRow B e z v n xs) (hn:0 < n):∃ g cap,v=.slice (some ⟨g,0,none⟩) n cap:=by
 obtain ⟨g,cap,rfl,_⟩:=h.form hn
 exact ⟨g,cap,rfl⟩
end Go.Proofs.YtobfpgoepaeknaaGreat
namespace Go.Proofs.YtobfpgoepaeknaaGreat
open Go.RowKit
attribute [local go_sem ↓] Go.wp_at_zero Go.wp_at_succ
set_option maxRecDepth 20000 in
set_option maxHeartbeats 4000000 in
theorem TBytes_any (w:World) (gt:Nat) (cl:Nat→Nat) (C:Nat) (bs:List Bool) (ns:List Nat) (h:TabB w gt cl C bs ns) (hC:C≤24) (hS:bs.length≤24) (hcl:∀ b,b < 256→cl b < 256) (hns:∀ x∈ns,x < 256) (hnl:ns.length≤1000) :
  Calls Tryz.prog 20 #[.pointer (some ⟨gt,0,none⟩)] w fun e w'=>e=.returned (.string (strN (bytesT bs.length C cl bs ns)))∧Below w.heap.size w w':=by
 obtain ⟨gv,nv,h1,h2,h3⟩:=h.ex
 obtain ⟨ga,gc,rfl⟩:=h2.form
 obtain ⟨na,nc,rfl⟩:=h3.form
 have HT1:=hide h1
 have HG:=hide h2
 have HN:=hide h3
 have c256:w.cell? ⟨gt,256,none⟩=some (.int .i64 (C:Int)):=by rw [cell_of_row _ _ _ _ _ _ h1,tabA_256]
 have c257:w.cell? ⟨gt,257,none⟩=some (.slice ga bs.length gc):=by rw [cell_of_row _ _ _ _ _ _ h1,tabA_257]
 have hw1:=wrapB C (by omega)
 have hw2:=wrapB bs.length (by omega)
 have hCI:(C:Int)≤24:=by omega
 have hSI:(bs.length:Int)≤24:=by omega
 have hnI:(ns.length:Int)≤1000:=by omega
 have HC:=hide hC
 have HS:=hide hS
 have HCL:=hide hcl
 have HNS:=hide hns
 have HNL:=hide hnl
 obtain ⟨i,i0,i1,i2,i3⟩:=info_of infoU8
 have HI:=hide (And.intro i0 (And.intro i1 (And.intro i2 i3)))
 have H0:Hid (ByI w (w.alloc (.cells #[.int .u8 ((bs.length:Nat):Int),.int .u8 (C:Int)] 5)) (.slice (some ⟨w.heap.size,0,none⟩) 2 2) [bs.length,C]):=by
  refine ⟨(Below.refl _ _).alloc (Nat.le_refl _) _,?_⟩
  exact ⟨rfl,.inr ⟨_,2,_,rfl,Nat.le_refl _,heap_alloc_new _ _,Nat.le_refl _,by unfold maxLen;omega,rfl,rfl⟩⟩
 clear i0 i1 i2 i3 h h1 h2 h3 hC hS hcl hns hnl
 go_enter Tryz.func20,Tryz.ntmps20
 go_upto_region 1 with fail
 go_cut [3] (fun tv wx=>∃ ta tc,tv=.slice ta 2 tc∧Hid (ByI w wx (.slice ta 2 tc) [bs.length,C]))
 case first =>
  go_region
  all_goals
   go_wp2_with fail
   go_meet
   exact ⟨_,_,rfl,(unhide H0).below.drew,(unhide H0).row⟩
 case rest =>
  rename World=>w1
  obtain ⟨ta0,tc0,rfl,HC1⟩:=hcut
  clear H0 c256 c257 hw1 hw2
  go_wp2_with fail
  go_loopw [3,4] (fun tv bx wr=>∃ (b:Nat) (xs:List Nat) (ta:Option Addr) (tc:Nat),tv=.slice ta xs.length tc∧bx=.int .i64 (b:Int)∧Hid (b≤256∧xs=[bs.length,C]++(List.range b).map cl∧ByI w wr (.slice ta xs.length tc) xs)) (fun _ bx _=>left256 bx)
  case atStart=>exact ⟨0,[bs.length,C],ta0,tc0,rfl,rfl,Nat.zero_le _,rfl,unhide HC1⟩
  case round =>
   clear HC1
   rename World=>wr
   obtain ⟨b,xs,ta,tc,rfl,rfl,HH⟩:=hrel
   obtain ⟨hb,hxs,hI⟩:=unhide HH
   have hT:wr.heap[gt]?=_:=(hI.below.block _ (Array.getElem?_eq_some_iff.1 (unhide HT1)).1).trans (unhide HT1)
   have HXS:=hide hxs
   have HI1:=hide hI
   have HSZ:Hid (w.heap.size≤wr.heap.size):=hI.below.size
   by_cases hlt:b < 256
   ·have hbI:(b:Int) < 256:=by omega
    have HLT:=hide hlt
    have HXL:Hid (xs.length≤300):=by rw [hxs];simp [Hid];omega
    have y0:wr.cell? ⟨gt,b,none⟩=some (.int .i64 ((cl b:Nat):Int)):=by rw [cell_of_row _ _ _ _ _ _ hT,tabA_b _ _ _ _ hlt]
    have hgt:gt < wr.heap.size:=(Array.getElem?_eq_some_iff.1 hT).1
    have hw:=wrapB (cl b) (unhide HCL b hlt)
    have HO2:=hide (World.ownsRow.alloc hI.row (Obj.cells #[.int .u8 ((cl b:Nat):Int)] 5))
    have HSN:Hid (xs++[cl b]=[bs.length,C]++(List.range (b+1)).map cl):=by rw [hxs,map_snoc,List.append_assoc];exact rfl
    generalize cl b=y at *
    clear hlt hb hxs hI hT HH
    go_wp2_with (at_builtin;refine wpList_append_own _ rfl (.tmp 24) (.tmp 32) 66 rfl w.heap.size 5 i (.int .u8 0) 1 1 Tryz.underlying66 (unhide HI).1 (unhide HI).2.1 (unhide HI).2.2.1 (unhide HI).2.2.2 rfl (by decide) _ _ _ rfl (unhide HO2) ⟨wr.heap.size,0,none⟩ 1 1 [.int .u8 (y:Int)] rfl rfl (cell_one_new _ _ _) (by intro u hu;simp at hu;subst hu;rfl) (by have:=unhide HXL;unfold maxLen;omega) (by have:=unhide HXL;omega) (by have:=unhide HSZ;simp;omega) ?_;intro v' w3 ho3 hg3 _;have HNW:=hide (ByI.grown (unhide HI1) hg3 ho3);obtain ⟨g3,cap3,rfl⟩:=own_slice' ho3 (by omega);clear ho3 hg3)
    go_roundw
    case rel=>exact ⟨b+1,xs++[y],some ⟨g3,0,none⟩,cap3,by simp,by go_num,unhide HLT,unhide HSN,by simpa using unhide HNW⟩
    case measure=>have:=unhide HLT;simp [left256,intOf];omega
   ·have hb2:b=256:=by omega
    subst hb2
    clear hlt hb hI hT HH hxs
    go_wp2_with fail
    go_loopw [3,5] (fun tv kx wr=>∃ (k:Nat) (xs:List Nat) (ta:Option Addr) (tc:Nat),tv=.slice ta xs.length tc∧kx=.int .i64 (k:Int)∧Hid (k≤bs.length∧xs=[bs.length,C]++(List.range 256).map cl++(bs.take k).map bitN∧ByI w wr (.slice ta xs.length tc) xs)) (fun _ kx _=>bs.length - (intOf kx).toNat)
    case atStart=>exact ⟨0,xs,ta,tc,rfl,rfl,Nat.zero_le _,by rw [unhide HXS];simp,unhide HI1⟩
    case round =>
     clear HI1 HXS HSZ
     rename World=>wr
     obtain ⟨k,xs,ta,tc,rfl,rfl,HH⟩:=hrel
     obtain ⟨hk,hxs,hI⟩:=unhide HH
     have hT:wr.heap[gt]?=_:=(hI.below.block _ (Array.getElem?_eq_some_iff.1 (unhide HT1)).1).trans (unhide HT1)
     have y0:wr.cell? ⟨gt,257,none⟩=some (.slice ga bs.length gc):=by rw [cell_of_row _ _ _ _ _ _ hT,tabA_257]
     have HXS:=hide hxs
     have HI1:=hide hI
     have HSZ:Hid (w.heap.size≤wr.heap.size):=hI.below.size
     by_cases hlt:k < bs.length
     ·have hkI:(k:Int) < (bs.length:Int):=by omega
      have HLT:=hide hlt
      have HXL:Hid (xs.length≤300):=by rw [hxs];simp [Hid];have:=unhide HS;omega
      obtain ⟨gg,cg,he,hx⟩:=((unhide HG).below hI.below).at hlt
      have hgg:gg < wr.heap.size:=by
       rw [he] at HG
       exact (((unhide HG).below hI.below).lt gg rfl).2
      simp only [Value.slice.injEq,true_and] at he
      obtain ⟨rfl,rfl⟩:=he
      have hgt:gt < wr.heap.size:=(Array.getElem?_eq_some_iff.1 hT).1
      have HSN:Hid (∀ y,y=bitN (bs.getD k false)→xs++[y]=[bs.length,C]++(List.range 256).map cl++(bs.take (k+1)).map bitN):=fun y hy=>by rw [hxs,take_snoc bs false hlt,List.map_append,←List.append_assoc,hy];rfl
      have HO2:=hide (fun y:Int=>World.ownsRow.alloc hI.row (Obj.cells #[.int .u8 y] 5))
      clear hlt hk hxs hI hT HH
      generalize bs.getD k false=q at *
      cases q
      ·have HO2:=hide (unhide HO2 0)
       go_wp2_with (at_builtin;refine wpList_append_own _ rfl (.tmp 50) (.tmp 52) 66 rfl w.heap.size 5 i (.int .u8 0) 1 1 Tryz.underlying66 (unhide HI).1 (unhide HI).2.1 (unhide HI).2.2.1 (unhide HI).2.2.2 rfl (by decide) _ _ _ rfl (unhide HO2) ⟨wr.heap.size,0,none⟩ 1 1 [.int .u8 0] rfl rfl (cell_one_new _ _ _) (by intro u hu;simp at hu;subst hu;rfl) (by have:=unhide HXL;unfold maxLen;omega) (by have:=unhide HXL;omega) (by have:=unhide HSZ;simp;omega) ?_;intro v' w3 ho3 hg3 _;have HNW:=hide (ByI.grown (unhide HI1) hg3 ho3);obtain ⟨g3,cap3,rfl⟩:=own_slice' ho3 (by omega);clear ho3 hg3)
       go_roundw
       case rel =>
         repeat apply Exists.intro
         exact ⟨⟨k+1,xs++[0],some ⟨g3,0,none⟩,cap3,by simp,by go_num,unhide HLT,unhide HSN 0 rfl,by simpa using unhide HNW⟩,rfl⟩
       case measure=>have:=unhide HLT;simp [intOf];omega
      ·have HO2:=hide (unhide HO2 1)
       go_wp2_with (at_builtin;refine wpList_append_own _ rfl (.tmp 50) (.tmp 52) 66 rfl w.heap.size 5 i (.int .u8 0) 1 1 Tryz.underlying66 (unhide HI).1 (unhide HI).2.1 (unhide HI).2.2.1 (unhide HI).2.2.2 rfl (by decide) _ _ _ rfl (unhide HO2) ⟨wr.heap.size,0,none⟩ 1 1 [.int .u8 1] rfl rfl (cell_one_new _ _ _) (by intro u hu;simp at hu;subst hu;rfl) (by have:=unhide HXL;unfold maxLen;omega) (by have:=unhide HXL;omega) (by have:=unhide HSZ;simp;omega) ?_;intro v' w3 ho3 hg3 _;have HNW:=hide (ByI.grown (unhide HI1) hg3 ho3);obtain ⟨g3,cap3,rfl⟩:=own_slice' ho3 (by omega);clear ho3 hg3)
       go_roundw
       case rel =>
         repeat apply Exists.intro
         exact ⟨⟨k+1,xs++[1],some ⟨g3,0,none⟩,cap3,by simp,by go_num,unhide HLT,unhide HSN 1 rfl,by simpa using unhide HNW⟩,rfl⟩
       case measure=>have:=unhide HLT;simp [intOf];omega
     ·have hk2:k=bs.length:=by omega
      subst hk2
      have HXS2:Hid (xs=[bs.length,C]++(List.range 256).map cl++bs.map bitN):=by rw [hxs,List.take_length];exact rfl
      clear hlt hk hxs hI hT HH HXS
      go_wp2_with fail
      go_loopw [3,7] (fun tv kx wr=>∃ (k:Nat) (xs:List Nat) (ta:Option Addr) (tc:Nat),tv=.slice ta xs.length tc∧kx=.int .i64 (k:Int)∧Hid (k≤ns.length∧xs=[bs.length,C]++(List.range 256).map cl++bs.map bitN++ns.take k∧ByI w wr (.slice ta xs.length tc) xs)) (fun _ kx _=>ns.length - (intOf kx).toNat)
      case atStart=>exact ⟨0,xs,ta,tc,rfl,rfl,Nat.zero_le _,by rw [unhide HXS2];simp,unhide HI1⟩
      case round =>
       clear HI1 HXS2 HSZ y0
       rename World=>wr
       obtain ⟨k,xs,ta,tc,rfl,rfl,HH⟩:=hrel
       obtain ⟨hk,hxs,hI⟩:=unhide HH
       have hT:wr.heap[gt]?=_:=(hI.below.block _ (Array.getElem?_eq_some_iff.1 (unhide HT1)).1).trans (unhide HT1)
       have y0:wr.cell? ⟨gt,258,none⟩=some (.slice na ns.length nc):=by rw [cell_of_row _ _ _ _ _ _ hT,tabA_258]
       have HI1:=hide hI
       have HSZ:Hid (w.heap.size≤wr.heap.size):=hI.below.size
       by_cases hlt:k < ns.length
       ·have hkI:(k:Int) < (ns.length:Int):=by omega
        have HLT:=hide hlt
        have HXL:Hid (xs.length≤2000):=by rw [hxs];simp [Hid];have:=unhide HS;have:=unhide HNL;omega
        obtain ⟨gg,cg,he,hx⟩:=((unhide HN).below hI.below).at hlt
        have hgg:gg < wr.heap.size:=by
         rw [he] at HN
         exact (((unhide HN).below hI.below).lt gg rfl).2
        simp only [Value.slice.injEq,true_and] at he
        obtain ⟨rfl,rfl⟩:=he
        have hgt:gt < wr.heap.size:=(Array.getElem?_eq_some_iff.1 hT).1
        have hy:ns.getD k 0 < 256:=by
         rw [List.getD_eq_getElem?_getD,List.getElem?_eq_getElem hlt];exact unhide HNS _ (List.getElem_mem _)
        have hw:=wrapB _ hy
        have HSN:Hid (xs++[ns.getD k 0]=[bs.length,C]++(List.range 256).map cl++bs.map bitN++ns.take (k+1)):=by rw [hxs,take_snoc ns 0 hlt,←List.append_assoc];exact rfl
        have HO2:=hide (World.ownsRow.alloc hI.row (Obj.cells #[.int .u8 ((ns.getD k 0:Nat):Int)] 5))
        clear hlt hk hxs hI hT HH hy
        generalize ns.getD k 0=y at *
        go_wp2_with (at_builtin;refine wpList_append_own _ rfl (.tmp 63) (.tmp 72) 66 rfl w.heap.size 5 i (.int .u8 0) 1 1 Tryz.underlying66 (unhide HI).1 (unhide HI).2.1 (unhide HI).2.2.1 (unhide HI).2.2.2 rfl (by decide) _ _ _ rfl (unhide HO2) ⟨wr.heap.size,0,none⟩ 1 1 [.int .u8 (y:Int)] rfl rfl (cell_one_new _ _ _) (by intro u hu;simp at hu;subst hu;rfl) (by have:=unhide HXL;unfold maxLen;omega) (by have:=unhide HXL;omega) (by have:=unhide HSZ;simp;omega) ?_;intro v' w3 ho3 hg3 _;have HNW:=hide (ByI.grown (unhide HI1) hg3 ho3);obtain ⟨g3,cap3,rfl⟩:=own_slice' ho3 (by omega);clear ho3 hg3)
        go_roundw
        case rel =>
         repeat apply Exists.intro
         exact ⟨⟨k+1,xs++[y],some ⟨g3,0,none⟩,cap3,by simp,by go_num,unhide HLT,unhide HSN,by simpa using unhide HNW⟩,rfl⟩
        case measure=>have:=unhide HLT;simp [intOf];omega
       ·have hk2:k=ns.length:=by omega
        subst hk2
        have hxe:xs=bytesT bs.length C cl bs ns:=by rw [hxs,List.take_length];rfl
        have hpos:0 < xs.length:=by rw [hxs];simp
        obtain ⟨gg,cg,he⟩:=own_slice' hI.row hpos
        simp only [Value.slice.injEq,true_and] at he
        obtain ⟨rfl,rfl⟩:=he
        have hxb:∀ x∈xs,x < 256:=fun x hx=>by
         rw [hxe] at hx
         unfold bytesT at hx
         have h1:=unhide HC
         have h2:=unhide HS
         rcases List.mem_append.1 hx with hx | hx
         ·rcases List.mem_append.1 hx with hx | hx
          ·rcases List.mem_append.1 hx with hx | hx
           ·simp at hx;omega
           ·obtain ⟨b,hb,rfl⟩:=List.mem_map.1 hx
            exact unhide HCL b (List.mem_range.1 hb)
          ·obtain ⟨b,hb,rfl⟩:=List.mem_map.1 hx
           cases b<;>simp [bitN]
         ·exact unhide HNS x hx
        have hcv:=conv_row hI.row hxb
        have HXE:=hide hxe
        clear hlt hk hxs hI hT HH hxe hpos hxb
        go_wp2_with fail
        go_ret
        exact ⟨by rw [unhide HXE];rfl,(unhide HI1).below⟩
end Go.Proofs.YtobfpgoepaeknaaGreat
