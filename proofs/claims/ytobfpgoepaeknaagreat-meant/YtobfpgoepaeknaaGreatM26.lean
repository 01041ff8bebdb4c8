/-
  table.Read.
  A table is appended to a row of tables: what the walk wants.
  policies.Image.readTables.
  policies.Image.readTables: the walk.
-/
import Derived.Test.YtobfpgoepaeknaaGreatM25
import Derived.Laws.ResultCell
import Derived.Great.BuildSlice
namespace Go.Proofs.YtobfpgoepaeknaaGreat
namespace Mc
open Go.RowKit
theorem res_row_tmp {P:Program} {fn:Func} {p u:Tmp} {ty:TypeId} (h:fn.results=#[.cell p ty,.tmp u]) (tmps:Array Value) (w:World) (g:Nat) (t:TypeId) (cs:Array Value) (fr:Nat × Nat) (d:TypeDesc)
  (hp:tmps.getD p undef=.pointer (some ⟨g,0,none⟩)) (hg:w.heap[g]?=some (.cells cs t fr)) (hu:P.underlying ty=some d) (hd:(match d with | .struct _ | .array _ _=>true | _=>false)=true) (hi:(P.info? ty).map (·.size)=some cs.size)
  (x:Value) (hx:tmps.getD u undef=x):(results fn tmps).run P w=.ok (.tuple #[.agg cs,x]) w:=by
 rw [results_cell_tmp h,hp,hx]
 simp [asAddr,run_loadVar_row w g t ty cs fr d hg hu hd hi]
theorem TOk_iff {t:ByteArray} (h1:1≤bt t 0) (h2:bt t 0≤24) (h3:1≤bt t 1) (h4:bt t 1≤24) (h5:tsz t 0≤t.size) :
  TOk t 0↔blw (t.extract 2 258) (bt t 1)=true∧blw (t.extract 258 (258+bt t 0)) 2=true∧blw (t.extract (258+bt t 0) (tsz t 0)) (bt t 0)=true:=by
 have e0:tsz t 0=258+bt t 0+bt t 0 * bt t 1:=by unfold tsz;rw [Nat.zero_add]
 have s1:(t.extract 2 258).size=256:=by rw [ByteArray.size_extract];omega
 have s2:(t.extract 258 (258+bt t 0)).size=bt t 0:=by rw [ByteArray.size_extract];omega
 have s3:(t.extract (258+bt t 0) (tsz t 0)).size=bt t 0 * bt t 1:=by rw [ByteArray.size_extract];omega
 rw [blw_true,blw_true,blw_true,s1,s2,s3]
 constructor
 ·intro h
  refine ⟨fun i hi=>?_,fun i hi=>?_,fun i hi=>?_⟩
  ·rw [bt_ext,if_pos (by omega)];have:=h.cl i hi;simpa using this
  ·rw [bt_ext,if_pos (by omega)];have:=h.gr i (by simpa using hi);simpa using this
  ·rw [bt_ext,if_pos (by omega)];have:=h.nx i (by simpa using hi);simpa using this
 ·rintro ⟨a,b,c⟩
  refine ⟨h1,h2,by simpa using h3,by simpa using h4,by omega,fun i hi=>?_,fun i hi=>?_,fun i hi=>?_⟩
  ·have:=a i hi;rw [bt_ext,if_pos (by omega)] at this;simpa using this
  ·have:=b i hi;rw [bt_ext,if_pos (by omega)] at this;simpa using this
  ·have hi':i < bt t 0 * bt t 1:=by simpa using hi
   have:=c i hi';rw [bt_ext,if_pos (by omega)] at this;simpa using this
def TRd (w w':World) (t:ByteArray) (e:Ending):Prop :=
 (TOk t 0∧∃ gv nv,e=.returned (.tuple #[.agg (tbC (tabAt t 0).cl (tabAt t 0).C gv nv),.int .i64 ((tsz t 0:Nat):Int)])∧BR w' w.heap.size gv ((List.range (tabAt t 0).S).map (tabAt t 0).gr)∧NR w' w.heap.size nv ((List.range ((tabAt t 0).S * (tabAt t 0).C)).map fun k=>bt t (258+bt t 0+k))) ∨
 (¬TOk t 0∧e=.returned (.tuple #[.agg zcTb,.int .i64 0]))
theorem parsed_tab (w:World) (t:ByteArray) (S C:Nat) (hS:bt t 0=S) (hC:bt t 1=C) (hl:258+S+S * C≤t.size) (h1:S≤1000) (h2:S * C≤1000) :
  Calls Tryz.prog 130 #[.int .i64 (C:Int),.string (t.extract 2 258),.string (t.extract 258 (258+S)),.string (t.extract (258+S) (258+S+S * C))] w fun e w'=>Below w.heap.size w w'∧∃ gv nv,e=.returned (.agg (tbC (tabAt t 0).cl (tabAt t 0).C gv nv))∧BR w' w.heap.size gv ((List.range (tabAt t 0).S).map (tabAt t 0).gr)∧NR w' w.heap.size nv ((List.range ((tabAt t 0).S * (tabAt t 0).C)).map fun k=>bt t (258+bt t 0+k)):=by
 have s1:(t.extract 2 258).size=256:=by rw [ByteArray.size_extract];omega
 have s2:(t.extract 258 (258+S)).size=S:=by rw [ByteArray.size_extract];omega
 have s3:(t.extract (258+S) (258+S+S * C)).size=S * C:=by rw [ByteArray.size_extract];omega
 refine (parsed_any w C _ _ _ s1 (by omega) (by omega)).mono ?_
 rintro e w' ⟨hb,gv,nv,rfl,hg,hn⟩
 have e1:(tabAt t 0).S=S:=by rw [←hS];rfl
 have e2:(tabAt t 0).C=C:=by rw [←hC];rfl
 refine ⟨hb,gv,nv,?_,?_,?_⟩
 ·rw [e2,tbC_congr (cl':=(tabAt t 0).cl)]
  intro b hb
  rw [bt_ext,if_pos (by omega)]
  show _=bt t (0+2+b)
  rw [Nat.zero_add]
 ·rw [s2] at hg
  rw [e1]
  have:(List.range S).map (tabAt t 0).gr=(List.range S).map fun q=>decide (bt (t.extract 258 (258+S)) q=1):=by
   refine List.map_congr_left fun q hq=>?_
   have hq':=List.mem_range.1 hq
   rw [bt_ext,if_pos (by omega)]
   show decide (bt t (0+258+q)=1)=_
   rw [Nat.zero_add]
  rw [this];exact hg
 ·rw [s3] at hn
  rw [e1,e2,hS]
  have:((List.range (S * C)).map fun k=>bt t (258+S+k))=(List.range (S * C)).map (bt (t.extract (258+S) (258+S+S * C))):=by
   refine List.map_congr_left fun q hq=>?_
   have hq':=List.mem_range.1 hq
   rw [bt_ext,if_pos (by omega)]
  rw [this];exact hn
section
attribute [local go_sem ↓] Go.wp_at_zero Go.wp_at_succ zvTb
attribute [local go_sem] zcTb_size zcTb_ne aggcells
set_option maxRecDepth 20000 in
set_option maxHeartbeats 2000000 in
theorem TRead_any (w:World) (t:ByteArray) (ht:t.size≤9223372036854775807) :
  Calls Tryz.prog 87 #[.string t] w fun e w'=>Below w.heap.size w w'∧TRd w w' t e:=by
 have HR1:Hid ((w.alloc (.cells zcTb 47)).heap[w.heap.size]?=some (.cells zcTb 47 (0,0))):=heap_alloc_new _ _
 have HB1:Hid (Below w.heap.size w (w.alloc (.cells zcTb 47))):=(Below.refl _ _).alloc (Nat.le_refl _) _
 have HBX:Hid (Below w.heap.size w ((w.alloc (.cells zcTb 47)).setRow w.heap.size zcTb)):=(Fr.ofRow _ w.heap.size zcTb).belowOf (unhide HB1) (unhide HB1).size (Nat.le_refl _)
 have htI:(t.size:Int)≤9223372036854775807:=by omega
 by_cases h258:t.size < 258
 ·have hI:(t.size:Int) < 258:=by omega
  have HF:Hid (¬TOk t 0):=fun h=>by have:=h.size;have:=tsz_pos t 0;omega
  clear h258 ht
  go_enter Tryz.func87,Tryz.ntmps87
  go_wp2_with (refine store_row rfl 47 _ _ rfl rfl w.heap.size zcTb rfl rfl 47 _ (unhide HR1) (by rw [zcTb_size];exact infoT) rfl (tbC_one _ _ _ _ _ _ _ _) ?_)
  exact bodyPost_ret (v:=.tuple #[.agg zcTb,.int .i64 0])
   (res_row_tmp (p:=2) (u:=3) (ty:=47) rfl _ _ w.heap.size 47 _ (0,0) _ rfl (setRow_heap _ _ _ _ _ _ (unhide HR1)) Tryz.underlying47 rfl (by rw [zcTb_size];exact infoT) _ rfl) rfl
   ⟨unhide HBX,.inr ⟨unhide HF,rfl⟩⟩
 ·have hI:(258:Int)≤(t.size:Int):=by omega
  have l0:0 < t.size:=by omega
  have l1:1 < t.size:=by omega
  have b0:=bt_at t 0
  have b1:=bt_at t 1
  have b0I:((bt t 0:Nat):Int) < 256:=by have:=bt_le t 0;omega
  have b1I:((bt t 1:Nat):Int) < 256:=by have:=bt_le t 1;omega
  obtain ⟨S,hS⟩:∃ S,bt t 0=S:=⟨_,rfl⟩
  obtain ⟨C,hC⟩:∃ C,bt t 1=C:=⟨_,rfl⟩
  rw [hS] at b0 b0I
  rw [hC] at b1 b1I
  have hsc:((S:Int) < 1)∨(1≤(S:Int)∧24 < (S:Int))∨(1≤(S:Int)∧(S:Int)≤24∧(C:Int) < 1)∨(1≤(S:Int)∧(S:Int)≤24∧1≤(C:Int)∧24 < (C:Int))∨(1≤(S:Int)∧(S:Int)≤24∧1≤(C:Int)∧(C:Int)≤24):=by omega
  rcases hsc with i1 | ⟨i1,i2⟩ | ⟨i1,i2,i3⟩ | ⟨i1,i2,i3,i4⟩ | ⟨i1,i2,i3,i4⟩
  iterate 4
   ·have HF:Hid (¬TOk t 0):=fun h=>by have:=h.s1;have:=h.s2;have:=h.c1;have:=h.c2;rw [Nat.zero_add] at *;omega
    clear h258 ht hS hC
    go_enter Tryz.func87,Tryz.ntmps87
    go_wp2_with (refine store_row rfl 47 _ _ rfl rfl w.heap.size zcTb rfl rfl 47 _ (unhide HR1) (by rw [zcTb_size];exact infoT) rfl (tbC_one _ _ _ _ _ _ _ _) ?_)
    exact bodyPost_ret (v:=.tuple #[.agg zcTb,.int .i64 0])
     (res_row_tmp (p:=2) (u:=3) (ty:=47) rfl _ _ w.heap.size 47 _ (0,0) _ rfl (setRow_heap _ _ _ _ _ _ (unhide HR1)) Tryz.underlying47 rfl (by rw [zcTb_size];exact infoT) _ rfl) rfl
     ⟨unhide HBX,.inr ⟨unhide HF,rfl⟩⟩
  have hSC:S * C≤576:=Nat.mul_le_mul (show S≤24 by omega) (show C≤24 by omega)
  have e1:(258:Int)+(S:Int)=((258+S:Nat):Int):=by omega
  have e2:(S:Int) * (C:Int)=((S * C:Nat):Int):=by rw [Int.natCast_mul]
  have e3:((258+S:Nat):Int)+((S * C:Nat):Int)=((258+S+S * C:Nat):Int):=by omega
  have w1:=wrap_i64 (258+S) (by omega)
  have w2:=wrap_i64 (S * C) (by omega)
  have w3:=wrap_i64 (258+S+S * C) (by omega)
  have hts:tsz t 0=258+S+S * C:=by unfold tsz;rw [Nat.zero_add,hS,hC]
  by_cases hlen:t.size < 258+S+S * C
  ·have hlI:(t.size:Int) < ((258+S+S * C:Nat):Int):=by omega
   have HF:Hid (¬TOk t 0):=fun h=>by have:=h.size;omega
   clear h258 ht hS hC hlen hSC hts
   generalize 258+S+S * C=z at *
   generalize 258+S=y at *
   generalize S * C=x at *
   go_enter Tryz.func87,Tryz.ntmps87
   go_wp2_with (refine store_row rfl 47 _ _ rfl rfl w.heap.size zcTb rfl rfl 47 _ (unhide HR1) (by rw [zcTb_size];exact infoT) rfl (tbC_one _ _ _ _ _ _ _ _) ?_)
   exact bodyPost_ret (v:=.tuple #[.agg zcTb,.int .i64 0])
    (res_row_tmp (p:=2) (u:=3) (ty:=47) rfl _ _ w.heap.size 47 _ (0,0) _ rfl (setRow_heap _ _ _ _ _ _ (unhide HR1)) Tryz.underlying47 rfl (by rw [zcTb_size];exact infoT) _ rfl) rfl
    ⟨unhide HBX,.inr ⟨unhide HF,rfl⟩⟩
  ·have hiff:=TOk_iff (t:=t) (by omega) (by omega) (by omega) (by omega) (by omega)
   have hlI:((258+S+S * C:Nat):Int)≤(t.size:Int):=by omega
   have hyl:((258+S:Nat):Int)≤((258+S+S * C:Nat):Int):=by omega
   have hyl2:((258+S:Nat):Int)≤(t.size:Int):=by omega
   have hy0:(258:Int)≤((258+S:Nat):Int):=by omega
   have n1:(((258+S:Nat):Int)).toNat=258+S:=by omega
   have n2:(((258+S+S * C:Nat):Int)).toNat=258+S+S * C:=by omega
   have s1:(t.extract 2 258).size=256:=by rw [ByteArray.size_extract];omega
   have s2:(t.extract 258 (258+S)).size=S:=by rw [ByteArray.size_extract];omega
   have s3:(t.extract (258+S) (258+S+S * C)).size=S * C:=by rw [ByteArray.size_extract];omega
   rw [hS,hC,hts] at hiff
   have HA1:=hide (fun W=>allBelow_any W (t.extract 2 258) C (by omega) (by omega))
   have HA2:=hide (fun W=>allBelow_any W (t.extract 258 (258+S)) 2 (by omega) (by omega))
   have HA3:=hide (fun W=>allBelow_any W (t.extract (258+S) (258+S+S * C)) S (by omega) (by omega))
   have HPA:=hide (parsed_tab (w.alloc (.cells zcTb 47)) t S C hS hC (by omega) (by omega) (by omega))
   generalize hv1:blw (t.extract 2 258) C=v1 at *
   generalize hv2:blw (t.extract 258 (258+S)) 2=v2 at *
   generalize hv3:blw (t.extract (258+S) (258+S+S * C)) S=v3 at *
   have HIFF:=hide hiff
   have HTS:=hide hts
   clear h258 ht hS hC hlen hSC hts s1 s2 s3 hv1 hv2 hv3 hiff
   generalize 258+S+S * C=z at *
   generalize 258+S=y at *
   generalize S * C=x at *
   go_enter Tryz.func87,Tryz.ntmps87
   go_wp2_with fail
   refine (unhide HA1 _).mono ?_
   rintro e w' ⟨rfl,rfl⟩
   cases v1
   ·have HF:Hid (¬TOk t 0):=fun h=>by have:=(unhide HIFF).1 h;simp at this
    clear HIFF HA1 HA2 HA3 HPA
    go_wp2_with (refine store_row rfl 47 _ _ rfl rfl w.heap.size zcTb rfl rfl 47 _ (unhide HR1) (by rw [zcTb_size];exact infoT) rfl (tbC_one _ _ _ _ _ _ _ _) ?_)
    exact bodyPost_ret (v:=.tuple #[.agg zcTb,.int .i64 0])
     (res_row_tmp (p:=2) (u:=3) (ty:=47) rfl _ _ w.heap.size 47 _ (0,0) _ rfl (setRow_heap _ _ _ _ _ _ (unhide HR1)) Tryz.underlying47 rfl (by rw [zcTb_size];exact infoT) _ rfl) rfl
     ⟨unhide HBX,.inr ⟨unhide HF,rfl⟩⟩
   ·go_wp2_with fail
    refine (unhide HA2 _).mono ?_
    rintro e w' ⟨rfl,rfl⟩
    cases v2
    ·have HF:Hid (¬TOk t 0):=fun h=>by have:=(unhide HIFF).1 h;simp at this
     clear HIFF HA1 HA2 HA3 HPA
     go_wp2_with (refine store_row rfl 47 _ _ rfl rfl w.heap.size zcTb rfl rfl 47 _ (unhide HR1) (by rw [zcTb_size];exact infoT) rfl (tbC_one _ _ _ _ _ _ _ _) ?_)
     exact bodyPost_ret (v:=.tuple #[.agg zcTb,.int .i64 0])
      (res_row_tmp (p:=2) (u:=3) (ty:=47) rfl _ _ w.heap.size 47 _ (0,0) _ rfl (setRow_heap _ _ _ _ _ _ (unhide HR1)) Tryz.underlying47 rfl (by rw [zcTb_size];exact infoT) _ rfl) rfl
      ⟨unhide HBX,.inr ⟨unhide HF,rfl⟩⟩
    ·go_wp2_with fail
     refine (unhide HA3 _).mono ?_
     rintro e w' ⟨rfl,rfl⟩
     cases v3
     ·have HF:Hid (¬TOk t 0):=fun h=>by have:=(unhide HIFF).1 h;simp at this
      clear HIFF HA1 HA2 HA3 HPA
      go_wp2_with (refine store_row rfl 47 _ _ rfl rfl w.heap.size zcTb rfl rfl 47 _ (unhide HR1) (by rw [zcTb_size];exact infoT) rfl (tbC_one _ _ _ _ _ _ _ _) ?_)
      exact bodyPost_ret (v:=.tuple #[.agg zcTb,.int .i64 0])
       (res_row_tmp (p:=2) (u:=3) (ty:=47) rfl _ _ w.heap.size 47 _ (0,0) _ rfl (setRow_heap _ _ _ _ _ _ (unhide HR1)) Tryz.underlying47 rfl (by rw [zcTb_size];exact infoT) _ rfl) rfl
       ⟨unhide HBX,.inr ⟨unhide HF,rfl⟩⟩
     ·have HT:Hid (TOk t 0):=(unhide HIFF).2 (by simp)
      clear HIFF HA1 HA2 HA3
      go_wp2_with fail
      refine (unhide HPA).mono ?_
      rintro e w3 ⟨hb3,gv,nv,rfl,hg3,hn3⟩
      obtain ⟨a1,k1,rfl⟩:=hg3.form
      obtain ⟨a2,k2,rfl⟩:=hn3.form
      have HR3:Hid (w3.heap[w.heap.size]?=some (.cells zcTb 47 (0,0))):=(hb3.block _ (by simp)).trans (unhide HR1)
      have HB3:Hid (Below w.heap.size w w3):=(unhide HB1).trans (hb3.mono (by simp))
      have HG3:=hide hg3
      have HN3:=hide hn3
      clear hb3 hg3 hn3 HPA
      generalize hbs:(List.range (tabAt t 0).S).map (tabAt t 0).gr=bs at *
      generalize hns:((List.range ((tabAt t 0).S * (tabAt t 0).C)).map fun k=>bt t (258+bt t 0+k))=ns at *
      have HBS:=hide hbs
      have HNS:=hide hns
      clear hbs hns
      go_wp2_with (refine store_row rfl 47 _ _ rfl rfl w.heap.size _ rfl rfl 47 _ (unhide HR3) (by rw [tbC_size];exact infoT) (by rw [tbC_size,zcTb_size]) (tbC_one _ _ _ _ _ _ _ _) ?_)
      refine bodyPost_ret
       (res_row_tmp (p:=2) (u:=3) (ty:=47) rfl _ _ w.heap.size 47 _ (0,0) _ rfl (setRow_heap _ _ _ _ _ _ (unhide HR3)) Tryz.underlying47 rfl (by rw [tbC_size];exact infoT) _ rfl) rfl ?_
      refine ⟨(Fr.ofRow _ w.heap.size _).belowOf (unhide HB3) (unhide HB3).size (Nat.le_refl _),.inl ⟨unhide HT,_,_,by rw [unhide HTS];rfl,?_,?_⟩⟩
      ·rw [unhide HBS];exact own_less ((Fr.ofRow _ _ _).own (unhide HG3) (fun q hq=>by simpa using own_off (unhide HG3) (unhide HR3) (by decide) q hq)) (by simp)
      ·rw [unhide HNS];exact own_less ((Fr.ofRow _ _ _).own (unhide HN3) (fun q hq=>by simpa using own_off (unhide HN3) (unhide HR3) (by decide) q hq)) (by simp)
end
end Mc
end Go.Proofs.YtobfpgoepaeknaaGreat
namespace Go.Proofs.YtobfpgoepaeknaaGreat
namespace Mc
open Go.RowKit
theorem infoTb:(Tryz.prog.info? 47).map (fun i=>(i.zero,i.size,i.bytes))=some (some (.agg zcTb),259,2104):=by kernel_rfl
def IsTb (w:World) (v:Value) (cs:Array Value):Prop:=∃ g,v=.pointer (some ⟨g,0,none⟩)∧w.heap[g]?=some (.cells cs 47 (0,0))∧cs.size=259
def HasTb (w:World) (v:Value):Prop:=∃ cs,IsTb w v cs
def tbOf (w:World) (v:Value):Array Value:=match v with
 | .pointer (some a)=>match w.heap[a.block]? with
  | some (.cells cs _ _)=>cs
  | _=>#[]
 | _=>#[]
theorem IsTb.has {w:World} {v:Value} {cs:Array Value} (h:IsTb w v cs):HasTb w v:=⟨cs,h⟩
theorem IsTb.of {w:World} {v:Value} {cs:Array Value} (h:IsTb w v cs):tbOf w v=cs:=by
 obtain ⟨g,rfl,h1,-⟩:=h
 simp only [tbOf,h1]
theorem wp_ldT {d:Option Tmp} {x:Operand} {ty:TypeId} {p:String} {af:Array Edge} {gd:Option (Nat × Bool)} {a:Act} {w:World} {K:Act→World→Prop} {Q:Exit→Act→World→Prop} (h:HasTb w (a.eval x)) :
  Oper.wp Tryz.prog { dst:=d,op:=.load 47 x,type:=ty,pos:=p,after:=af,guard:=gd } a w K Q=K (a.put d (.agg (tbOf w (a.eval x)))) w:=by
 obtain ⟨cs,hcs⟩:=h
 rw [hcs.of]
 obtain ⟨g,hv,hg,hs⟩:=hcs
 unfold Oper.wp execOp
 simp only [hv,Instr.loadAt,Instr.sureAddr,Sem.run_bind,Sem.run_pure,Result.andThen_ok,run_loadVar_row w g _ _ cs _ _ hg Tryz.underlying47 rfl (by rw [hs];exact infoT)]
 rfl
def IsTv (v:Value):Prop:=∃ cs,v=.agg cs∧cs.size=259
theorem wp_bsT {d:Option Tmp} {x:Operand} {ty:TypeId} {p:String} {af:Array Edge} {gd:Option (Nat × Bool)} {a:Act} {w:World} {K:Act→World→Prop} {Q:Exit→Act→World→Prop} (h:IsTv (a.eval x)) :
  Oper.wp Tryz.prog { dst:=d,op:=.buildSlice 74 1 #[(0,x)],type:=ty,pos:=p,after:=af,guard:=gd } a w K Q=K (a.put d (.slice (some ⟨w.heap.size,0,none⟩) 1 1)) (w.alloc (.cells (a.eval x).cells 47)):=by
 obtain ⟨cs,hv,hs⟩:=h
 obtain ⟨i,i0,i1,i2,i3⟩:=info_of infoTb
 unfold Oper.wp execOp
 have hf:Instr.fill (fun k=>some (k * i.size,i.size)) ((Array.range (1 * i.size)).map (zcTb[· % zcTb.size]!)) (#[(0,x)].map fun (k,y)=>(k,a.eval y)).toList=some cs:=by
  have:=Great.fill_whole (s:=259) (by decide) [.agg cs] ((Array.range (1 * i.size)).map (zcTb[· % zcTb.size]!)) (fun v hv=>by rw [List.mem_singleton.1 hv];exact hs) (by rw [Array.size_map,Array.size_range,i2];rfl)
  rw [i2] at this ⊢
  simp only [List.map_toArray,List.map_cons,List.map_nil,hv]
  simpa [Value.cells] using this
 simp only [Sem.run_bind,run_buildSlice w 74 47 1 _ cs i _ Tryz.underlying74 i0 i1 (by rw [i2];decide) (by rw [i2];decide) hf,Result.andThen_ok]
 rw [hv]
 rfl
theorem appT {ops:Array Oper} {o:Oper} {a:Act} {W:World} {K:Act→World→Prop} {Q:Exit→Act→World→Prop} {E:Prop} (hgd:o.guard=none) (s x:Operand)
  (ho:o.op=.call { callee:=.builtin .append,args:=#[s,x],argTypes:=#[74,74] }) (B:Nat) (v:Value) (n:Nat) (xs:List Value) (hs:a.eval s=v) (hown:W.ownsRow B 47 259 v n xs) (g0:Nat) (cs:Array Value)
  (hx:a.eval x=.slice (some ⟨g0,0,none⟩) 1 1) (hc:W.heap[g0]?=some (.cells cs 47 (0,0))) (hsz:cs.size=259) (h1:cs.all (·.oneCell')=true) (hlen:n≤1000) (hB:B≤W.heap.size) (H:Nat) (hH:W.heap.size=H)
  (h:∀ g cap w',w'.ownsRow B 47 259 (.slice (some ⟨g,0,none⟩) (n+1) cap) (n+1) (xs++cs.toList)→W.grownBy w' v.ownBlock→(v.ownBlock=some g∨g=H)→g < w'.heap.size→K (a.put o.dst (.slice (some ⟨g,0,none⟩) (n+1) cap)) w') :
  if Region.wanted o (yielded ops a.tmps)=true then Oper.wp Tryz.prog o a W K Q else E:=by
 obtain ⟨i,i0,i1,i2,i3⟩:=info_of infoTb
 refine step_append_lies W hgd s x 74 ho B 47 i (.agg zcTb) 259 2104 Tryz.underlying74 i0 i1 i2 i3 zcTb_size (by decide) v n xs hs hown ⟨g0,0,none⟩ 1 1 cs.toList hx (by simp [hsz]) (World.news_of_block hc) (fun u hu=>?_) (by decide) (by unfold maxLen;omega) (by omega) hB H hH h
 rw [←Array.all_toList] at h1
 exact List.all_eq_true.1 h1 u hu
end Mc
end Go.Proofs.YtobfpgoepaeknaaGreat
namespace Go.Proofs.YtobfpgoepaeknaaGreat
namespace Mc
open Go.RowKit
theorem own_ty {w:World} {B e z:Nat} {v:Value} {n:Nat} {xs:List Value} (h:w.ownsRow B e z v n xs) {q:Nat} (hq:v.ownBlock=some q):∃ cs,w.heap[q]?=some (.cells cs e (0,0)):=by
 rcases h.2 with ⟨rfl,_⟩ | ⟨g,cap,cur,rfl,_,hg,_⟩
 ·simp [Value.ownBlock] at hq
 ·have:g=q:=by simpa [Value.ownBlock] using hq
  subst this
  exact ⟨_,hg⟩
def NoRows (w:World) (S:List Nat):Prop:=∀ q∈S,∀ cs ty fr,w.heap[q]?=some (.cells cs ty fr)→ty≠4∧ty≠3
theorem TRws.fr {w w':World} {B B':Nat} {t:TabN} {gv nv:Value} {S:List Nat} (h:TRws w B t gv nv) (f:Fr S w w') (hS:NoRows w S) (hB:B≤B'):TRws w' B' t gv nv:=by
 obtain ⟨bs,ns,h1,h2,q1,q2,r⟩:=h.ex
 refine ⟨h.ok,bs,ns,f.own h1 (fun q hq hm=>?_),f.own h2 (fun q hq hm=>?_),fun q hq=>Nat.lt_of_lt_of_le (q1 q hq) hB,fun q hq=>Nat.lt_of_lt_of_le (q2 q hq) hB,r⟩
 ·obtain ⟨cs,hc⟩:=own_ty h1 hq
  exact (hS q hm _ _ _ hc).1 rfl
 ·obtain ⟨cs,hc⟩:=own_ty h2 hq
  exact (hS q hm _ _ _ hc).2 rfl
theorem NoRows.nil (w:World):NoRows w []:=fun q hq=>by cases hq
structure RtI (w wr:World) (gi N:Nat) (f:ByteArray) (ta:Option Addr) (tc:Nat) (ts:Nat→TabN) (cs:List Value) (i:Nat):Prop where
 fr:Fr [gi] w wr
 im:wr.heap[gi]?=some (.cells #[.int .i64 (N:Int),.string f,.slice ta i tc] 76 (0,0))
 hgi:gi < w.heap.size
 own:wr.ownsRow w.heap.size 47 259 (.slice ta i tc) i cs
 rows:∀ j,j < i→∃ gv nv,(∀ k,k < 259→cs[j * 259+k]?=(tbC (ts j).cl (ts j).C gv nv)[k]?)∧TRws wr wr.heap.size (ts j) gv nv
section
variable {w wr w2 : World} {gi N : Nat} {f : ByteArray} {ta : Option Addr} {tc : Nat} {ts : Nat → TabN} {cs : List Value} {i : Nat}
theorem RtI.start (hi:w.heap[gi]?=some (.cells #[.int .i64 (N:Int),.string f,.slice none 0 0] 76 (0,0))):RtI w w gi N f none 0 ts [] 0 :=
 ⟨Fr.refl _ _,hi,(Array.getElem?_eq_some_iff.1 hi).1,World.ownsRow_nil _ _ _ _,fun j hj=>by omega⟩
theorem RtI.below (h:RtI w wr gi N f ta tc ts cs i) (hb:Below wr.heap.size wr w2):RtI w w2 gi N f ta tc ts cs i :=
 ⟨h.fr.next hb,(Fr.ofBelow hb).at h.im (by simp),h.hgi,(Fr.ofBelow hb).own h.own (by simp),fun j hj=>by
  obtain ⟨gv,nv,h1,h2⟩:=h.rows j hj
  exact ⟨gv,nv,h1,h2.fr (Fr.ofBelow hb) (NoRows.nil _) hb.size⟩⟩
theorem RtI.alloc (h:RtI w wr gi N f ta tc ts cs i) (o:Obj):RtI w (wr.alloc o) gi N f ta tc ts cs i:=h.below ((Below.refl _ _).alloc (Nat.le_refl _) _)
theorem RtI.drew (h:RtI w wr gi N f ta tc ts cs i):RtI w wr.drew gi N f ta tc ts cs i:=⟨h.fr.drew,h.im,h.hgi,h.own,fun j hj=>by
 obtain ⟨gv,nv,h1,h2⟩:=h.rows j hj
 exact ⟨gv,nv,h1,h2.ok,h2.ex⟩⟩
theorem RtI.le (h:RtI w wr gi N f ta tc ts cs i):w.heap.size≤wr.heap.size:=h.fr.size
theorem RtI.push (h:RtI w wr gi N f ta tc ts cs i) {g cap:Nat} {gv nv:Value} (hr:TRws wr wr.heap.size (ts i) gv nv) (hgrow:wr.grownBy w2 (.slice ta i tc:Value).ownBlock) (ho:w2.ownsRow w.heap.size 47 259 (.slice (some ⟨g,0,none⟩) (i+1) cap) (i+1) (cs++(tbC (ts i).cl (ts i).C gv nv).toList)) :
  w2.cell? ⟨gi,2,none⟩=some (.slice ta i tc)∧w2.frozen? ⟨gi,2,none⟩=false∧RtI w (w2.setCell ⟨gi,2,none⟩ (.slice (some ⟨g,0,none⟩) (i+1) cap)) gi N f (some ⟨g,0,none⟩) cap ts (cs++(tbC (ts i).cl (ts i).C gv nv).toList) (i+1):=by
 have e2:=own_off h.own h.im (by decide)
 have g2:w2.heap[gi]?=_:=(Fr.ofGrown hgrow).at h.im (fun hm=>e2 _ (Option.mem_toList.1 hm) rfl)
 have hN:NoRows wr (.slice ta i tc:Value).ownBlock.toList:=fun q hq cs' ty fr hc=>by
  obtain ⟨cs2,hc2⟩:=own_ty h.own (Option.mem_toList.1 hq)
  rw [hc] at hc2
  simp at hc2
  rw [hc2.2.1];decide
 have hN2:NoRows w2 [gi]:=fun q hq cs' ty fr hc=>by
  rw [List.mem_singleton.1 hq,g2] at hc
  simp at hc
  rw [←hc.2.1];decide
 have hsz:(w2.setCell ⟨gi,2,none⟩ (.slice (some ⟨g,0,none⟩) (i+1) cap)).heap.size=w2.heap.size:=by simp [World.setCell]
 have hmv:∀ {t:TabN} {a b:Value},TRws wr wr.heap.size t a b→TRws (w2.setCell ⟨gi,2,none⟩ (.slice (some ⟨g,0,none⟩) (i+1) cap)) (w2.setCell ⟨gi,2,none⟩ (.slice (some ⟨g,0,none⟩) (i+1) cap)).heap.size t a b:=fun ht =>
  (ht.fr (Fr.ofGrown hgrow) hN (Nat.le_refl _)).fr (Fr.ofSet _ _ _ _) hN2 (by rw [hsz];exact hgrow.size)
 refine ⟨by rw [cell_of_row _ _ _ _ _ _ g2];rfl,frozen_of_row _ _ _ _ _ g2,(h.fr.grown hgrow (fun k hk=>Or.inr (h.own.lt k hk).1)).set (Or.inl (by simp)) _ _,by rw [heap_setCell_same _ _ _ _ _ _ g2];rfl,h.hgi,?_,fun j hj=>?_⟩
 ·exact (Fr.ofSet _ _ _ _).own ho (fun q hq=>by simpa using own_off ho g2 (by decide) q hq)
 ·have hcl:cs.length=i * 259:=h.own.1
  by_cases hji:j < i
  ·obtain ⟨gv',nv',h1,h2⟩:=h.rows j hji
   refine ⟨gv',nv',fun k hk=>?_,hmv h2⟩
   rw [List.getElem?_append_left (by rw [hcl];omega),h1 k hk]
  ·have hje:j=i:=by omega
   subst hje
   refine ⟨gv,nv,fun k hk=>?_,hmv hr⟩
   rw [List.getElem?_append_right (by rw [hcl];omega),hcl,Nat.add_sub_cancel_left,Array.getElem?_toList]
theorem RtI.tbs {g0:Nat} (h:RtI w wr gi N f (some ⟨g0,0,none⟩) tc ts cs i):Tbs wr wr.heap.size g0 i ts:=by
 have ho:=h.own
 refine ⟨fun j hj=>?_,(ho.lt g0 rfl).2⟩
 obtain ⟨gv,nv,h1,h2⟩:=h.rows j hj
 refine ⟨gv,nv,fun k v hv=>?_,h2⟩
 have hk:k < 259:=by
  have:=(List.getElem?_eq_some_iff.1 hv).1
  rwa [Array.length_toList,tbC_size] at this
 have h3:=ho.cells (g:=g0) rfl (j * 259+k) v (by rw [h1 k hk];rwa [Array.getElem?_toList] at hv)
 rwa [add0] at h3
end
end Mc
end Go.Proofs.YtobfpgoepaeknaaGreat
namespace Go.Proofs.YtobfpgoepaeknaaGreat
namespace Mc
open Go.RowKit
theorem rows_of {w w':World} {t:ByteArray} (ht:TOk t 0) {gv nv:Value} (hg:BR w' w.heap.size gv ((List.range (tabAt t 0).S).map (tabAt t 0).gr)) (hn:NR w' w.heap.size nv ((List.range ((tabAt t 0).S * (tabAt t 0).C)).map fun k=>bt t (258+bt t 0+k))):TRws w' w'.heap.size (tabAt t 0) gv nv:=by
 refine ⟨ht.ok,_,_,own_less hg (Nat.zero_le _),NR.less hn (Nat.zero_le _),fun q hq=>(hg.lt q hq).2,fun q hq=>(hn.lt q hq).2,by simp,fun q hq=>?_,by simp,fun q c hq hc=>?_⟩
 ·rw [List.getD_eq_getElem?_getD,List.getElem?_map,List.getElem?_range hq];rfl
 ·have h1:(q+1) * (tabAt t 0).C≤(tabAt t 0).S * (tabAt t 0).C:=Nat.mul_le_mul_right _ hq
  rw [Nat.add_mul,Nat.one_mul] at h1
  rw [List.getD_eq_getElem?_getD,List.getElem?_map,List.getElem?_range (by omega)]
  show bt t (258+bt t 0+(q * bt t (0+1)+c))=bt t (0+258+bt t 0+(q * bt t (0+1)+c))
  rw [Nat.zero_add 258]
theorem setRow_alloc1 (w:World) (A B:Array Value) (t:TypeId):(w.alloc (Obj.cells A t)).setRow w.heap.size B=w.alloc (Obj.cells B t):=by
 simp only [World.setRow,World.alloc]
 congr 1
 apply Array.ext_getElem?
 intro i
 rw [Array.getElem?_modify,Array.getElem?_push,Array.getElem?_push]
 by_cases h:i=w.heap.size
 ·subst h;simp
 ·simp [h,Ne.symm h]
theorem RtI.pushC {w wr w2:World} {gi N:Nat} {f:ByteArray} {ta:Option Addr} {tc:Nat} {ts:Nat→TabN} {cs:List Value} {i:Nat} (h:RtI w wr gi N f ta tc ts cs i) {g cap:Nat} {gv nv:Value} {c0:Array Value} (hr:TRws wr wr.heap.size (ts i) gv nv) (hc:tbC (ts i).cl (ts i).C gv nv=c0) (hgrow:wr.grownBy w2 (.slice ta i tc:Value).ownBlock) (ho:w2.ownsRow w.heap.size 47 259 (.slice (some ⟨g,0,none⟩) (i+1) cap) (i+1) (cs++c0.toList)) :
  w2.cell? ⟨gi,2,none⟩=some (.slice ta i tc)∧w2.frozen? ⟨gi,2,none⟩=false∧RtI w (w2.setCell ⟨gi,2,none⟩ (.slice (some ⟨g,0,none⟩) (i+1) cap)) gi N f (some ⟨g,0,none⟩) cap ts (cs++c0.toList) (i+1):=by
 subst hc
 exact h.push hr hgrow ho
theorem ba_empty {t:ByteArray} (h:t.size=0):t=⟨#[]⟩:=by
 cases t with
 | mk d=>congr 1;exact Array.eq_empty_of_size_eq_zero h
section
attribute [local go_sem ↓] Go.wp_at_zero Go.wp_at_succ zvTb wp_ldT wp_bsT
attribute [local go_sem] zcTb_size zcTb_ne aggcells
set_option maxRecDepth 20000 in
set_option maxHeartbeats 2000000 in
theorem readTables_any (w:World) (gi N:Nat) (f x:ByteArray) (p r:Nat) (hi:w.heap[gi]?=some (.cells #[.int .i64 (N:Int),.string f,.slice none 0 0] 76 (0,0))) (hp:p≤x.size) (hx:x.size≤9223372036854775807) (hr:r≤255) :
  Calls Tryz.prog 53 #[.pointer (some ⟨gi,0,none⟩),.string (x.extract p x.size),.int .i64 (r:Int)] w fun e w'=>Fr [gi] w w'∧((TsOk x p r∧e=.returned (.bool true)∧∃ ta tc cs,RtI w w' gi N f ta tc (fun i=>tabAt x (tpos x p i)) cs r)∨(¬TsOk x p r∧e=.returned (.bool false))):=by
 have HS0:=hide (RtI.start (ts:=fun i=>tabAt x (tpos x p i)) hi)
 have hgi:=(Array.getElem?_eq_some_iff.1 hi).1
 have hrI:(r:Int)≤255:=by omega
 have HP:=hide hp
 have HX:=hide hx
 have HRR:=hide hr
 clear hi hp hx hr
 go_enter Tryz.func53,Tryz.ntmps53
 go_wp2_with fail
 go_loopw [1,7] (fun tx ix wr=>∃ (i:Nat) (ta:Option Addr) (tc:Nat) (cs:List Value),tx=.string (x.extract (tpos x p i) x.size)∧ix=.int .i64 (i:Int)∧Hid (i≤r∧(∀ j,j < i→TOk x (tpos x p j))∧RtI w wr gi N f ta tc (fun i=>tabAt x (tpos x p i)) cs i)) (fun _ ix _=>lenLeft r ix)
 case atStart=>exact ⟨0,none,0,[],rfl,rfl,Nat.zero_le _,fun j hj=>by omega,unhide HS0⟩
 case round =>
  clear HS0
  rename World=>wr
  obtain ⟨i,ta,tc,cs,rfl,rfl,HH⟩:=hrel
  obtain ⟨hir,hok,hI⟩:=unhide HH
  clear HH
  have hpl:tpos x p i≤x.size:=tpos_le (unhide HP) i hok
  have hsz:(x.extract (tpos x p i) x.size).size=x.size - tpos x p i:=by rw [ByteArray.size_extract];omega
  by_cases hlt:i < r
  ·have hltI:(i:Int) < (r:Int):=by omega
   have htI:((x.extract (tpos x p i) x.size).size:Int)≤9223372036854775807:=by have:=unhide HX;omega
   have HRD:=hide (TRead_any wr (x.extract (tpos x p i) x.size) (by have:=unhide HX;omega))
   have HTO:Hid (TOk (x.extract (tpos x p i) x.size) 0↔TOk x (tpos x p i)):=by have:=TOk_rest (x:=x) (a:=tpos x p i) (p:=0) hpl;rwa [Nat.add_zero] at this
   have HTT:Hid (tabAt (x.extract (tpos x p i) x.size) 0=tabAt x (tpos x p i)):=by have:=tabAt_rest x (tpos x p i) 0;rwa [Nat.add_zero] at this
   have HNX:Hid ((x.extract (tpos x p i) x.size).extract (tsz (x.extract (tpos x p i) x.size) 0) (x.extract (tpos x p i) x.size).size=x.extract (tpos x p (i+1)) x.size):=by
    show _=_
    rw [ext_ext,tsz_rest,Nat.add_zero];rfl
   have HI:=hide hI
   have HOK:=hide hok
   have HLT:=hide hlt
   have HIR:=hide hir
   have hgr:gi < wr.heap.size:=by have:=hI.le;omega
   clear hir hok hI hlt hpl hsz
   generalize x.extract (tpos x p i) x.size=t at *
   go_wp2_with fail
   refine (unhide HRD).mono ?_
   rintro e w1 ⟨hb1,hrd⟩
   clear HRD
   have HI1:=hide ((unhide HI).below hb1)
   have hg1:gi < w1.heap.size:=by have:=hb1.size;omega
   rcases hrd with ⟨hto,gv,nv,rfl,hg,hn⟩ | ⟨hno,rfl⟩
   ·obtain ⟨a1,k1,rfl⟩:=hg.form
    obtain ⟨a2,k2,rfl⟩:=hn.form
    have hrw:=rows_of hto hg hn
    have HTK:=hide ((unhide HTO).1 hto)
    have hz1:(1:Int)≤((tsz t 0:Nat):Int):=by have:=tsz_pos t 0;omega
    have hz2:((tsz t 0:Nat):Int)≤(t.size:Int):=by have:=hto.size;omega
    have hz3:(0:Int)≤((tsz t 0:Nat):Int):=by omega
    have HSZ:=hide (tbC_size (tabAt t 0).cl (tabAt t 0).C (.slice a1 ((List.range (tabAt t 0).S).map (tabAt t 0).gr).length k1) (.slice a2 ((List.range ((tabAt t 0).S * (tabAt t 0).C)).map fun k=>bt t (258+bt t 0+k)).length k2))
    have HON:=hide (tbC_one a1 a2 ((List.range (tabAt t 0).S).map (tabAt t 0).gr).length ((List.range ((tabAt t 0).S * (tabAt t 0).C)).map fun k=>bt t (258+bt t 0+k)).length k1 k2 (tabAt t 0).cl (tabAt t 0).C)
    generalize ((List.range (tabAt t 0).S).map (tabAt t 0).gr).length=n1 at *
    generalize ((List.range ((tabAt t 0).S * (tabAt t 0).C)).map fun k=>bt t (258+bt t 0+k)).length=n2 at *
    generalize hc0:tbC (tabAt t 0).cl (tabAt t 0).C (.slice a1 n1 k1) (.slice a2 n2 k2)=c0 at *
    have HC0:Hid (tbC (tabAt x (tpos x p i)).cl (tabAt x (tpos x p i)).C (.slice a1 n1 k1) (.slice a2 n2 k2)=c0):=by show _=_;rw [←unhide HTT];exact hc0
    rw [unhide HTT] at hrw
    have HRW:=hide hrw
    have HI2:=hide ((unhide HI1).alloc (.cells c0 47))
    have HTB:Hid (IsTb (w1.alloc (.cells c0 47)).drew (.pointer (some ⟨w1.heap.size,0,none⟩)) c0):=⟨_,rfl,heap_alloc_new _ _,unhide HSZ⟩
    have hT1:=(unhide HTB).has
    have hT2:=(unhide HTB).of
    have hT3:IsTv (.agg c0):=⟨c0,rfl,unhide HSZ⟩
    have HX2:=hide ((unhide HI2).alloc (.cells c0 47)).drew
    have HB2:Hid (Below w1.heap.size w1 ((w1.alloc (.cells c0 47)).alloc (.cells c0 47))):=((Below.refl _ _).alloc (Nat.le_refl _) _).alloc (by simp) _
    have HRW2:Hid (TRws ((w1.alloc (.cells c0 47)).alloc (.cells c0 47)).drew ((w1.alloc (.cells c0 47)).alloc (.cells c0 47)).drew.heap.size (tabAt x (tpos x p i)) (.slice a1 n1 k1) (.slice a2 n2 k2)):=(unhide HRW).fr ((Fr.ofBelow (unhide HB2)).drew) (NoRows.nil _) (by show _≤((w1.alloc (.cells c0 47)).alloc (.cells c0 47)).heap.size;simp;omega)
    have c2:(w1.alloc (.cells c0 47)).cell? ⟨gi,2,none⟩=some (.slice ta i tc):=by rw [cell_of_row _ _ _ _ _ _ (unhide HI2).im];rfl
    have hg2:gi < (w1.alloc (.cells c0 47)).heap.size:=by simp;omega
    have HC2:Hid ((((w1.alloc (.cells c0 47)).alloc (.cells c0 47)).drew).heap[(w1.alloc (.cells c0 47)).heap.size]?=some (.cells c0 47 (0,0))):=heap_alloc_new _ _
    have HWS:Hid (w.heap.size≤(w1.alloc (.cells c0 47)).heap.size):=(unhide HI2).le
    have HI1000:Hid (i≤1000):=by have:=unhide HLT;have:=unhide HRR;show _≤_;omega
    clear hb1 hto hg hn hrw hc0 HI HI1 HTB HB2 HTO HTT
    generalize tsz t 0=z at *
    go_wp2_with (refine store_row rfl 47 _ _ rfl rfl w1.heap.size c0 rfl rfl 47 _ (heap_alloc_new _ _) (by rw [unhide HSZ];exact infoT) (by rw [zcTb_size];exact (unhide HSZ).symm) (unhide HON) ?_;rw [setRow_alloc1])
    generalize w1.alloc (.cells c0 47)=w2 at *
    generalize w1.heap.size=g8 at *
    go_region_law (refine appT (by rfl) _ _ (by rfl) w.heap.size _ i cs (by rfl) (by exact (unhide HX2).own) w2.heap.size c0 (by rfl) (by exact unhide HC2) (unhide HSZ) (unhide HON) (unhide HI1000) (by have:=unhide HWS;simp;omega) (w2.heap.size+1) (by simp) ?_;intro g5 cap5 w8 ho hgrow hlies hlt5;obtain ⟨c9,f9,hP9⟩:=(unhide HX2).pushC (unhide HRW2) (unhide HC0) hgrow ho;have HP9:=hide hP9;clear ho hgrow hlies hP9)
    all_goals
     go_wp2_with fail
     go_roundw
     case rel=>exact ⟨i+1,_,_,_,congrArg Value.string (unhide HNX),by go_num,unhide HLT,fun j hj=>(by
      by_cases e:j=i
      ·rw [e];exact unhide HTK
      ·exact unhide HOK j (by omega)),unhide HP9⟩
     case measure=>have:=unhide HLT;simp [lenLeft,intOf];omega
   ·have HF:Hid (¬TsOk x p r):=fun h=>hno ((unhide HTO).2 (h.1 i (unhide HLT)))
    have HFr:Hid (Fr [gi] w (w1.alloc (.cells zcTb 47))):=((unhide HI1).alloc _).fr
    clear hb1 hno HI HTO HTT HNX
    go_wp2_with (refine store_row rfl 47 _ _ rfl rfl w1.heap.size zcTb rfl rfl 47 _ (heap_alloc_new _ _) (by rw [zcTb_size];exact infoT) rfl (tbC_one _ _ _ _ _ _ _ _) ?_)
    go_ret
    exact ⟨(unhide HFr).row (Or.inr (unhide HI1).le) _,.inr ⟨unhide HF,rfl⟩⟩
  ·have hir2:i=r:=by omega
   subst hir2
   have hltI:¬(i:Int) < (i:Int):=by omega
   have HI:=hide hI
   by_cases ht0:(x.extract (tpos x p i) x.size).size=0
   ·have HT:Hid (TsOk x p i):=⟨hok,by omega⟩
    have ht1:=ba_empty ht0
    rw [ht1]
    clear hir hok hI hlt hpl hsz ht0 ht1
    go_wp2_with fail
    go_ret
    exact ⟨(unhide HI).fr,.inl ⟨unhide HT,rfl,_,_,_,unhide HI⟩⟩
   ·have HF:Hid (¬TsOk x p i):=fun h=>by have:=h.2;omega
    have hne:¬(x.extract (tpos x p i) x.size).toList=[]:=fun e=>by rw [ByteArray.toList_eq] at e;exact ht0 (by have:=congrArg List.length e;rwa [Array.length_toList] at this)
    clear hir hok hI hlt hpl hsz ht0
    generalize x.extract (tpos x p i) x.size=t at *
    go_wp2_with fail
    go_ret
    exact ⟨(unhide HI).fr,.inr ⟨unhide HF,by simpa using hne⟩⟩
end
end Mc
end Go.Proofs.YtobfpgoepaeknaaGreat
