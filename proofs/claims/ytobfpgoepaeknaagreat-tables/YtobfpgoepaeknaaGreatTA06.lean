/-
  The document's answer: read.
  The document's answer: atom.
  The document's answer: branch.
  A load out of the midst of a row; the bytes of a string.
-/
import Derived.Test.YtobfpgoepaeknaaGreatTA05
import Derived.Test.YtobfpgoepaeknaaGreatTA00
import Derived.Deep.RegionWith
import Derived.Test.YtobfpgoepaeknaaGreatTA03
namespace Go.Proofs.YtobfpgoepaeknaaGreat
open Go.RowKit
def DoesT (F tag n:Nat):Prop :=
 ∀ (p:ByteArray) (rs:List Rn) (r:List Rn × Int) (w:World) (b:Nat),p.size≤60→r.1.length≤1000→rfF n tag p 0 0 rs=some r→RtS w b rs →
  Calls Tryz.prog F #[.pointer (some ⟨b,0,none⟩),.string p] w fun e w'=>e=.returned (.int .i64 r.2)∧PostT w w' b r.1
theorem PostT.trans {w w1 w2:World} {b:Nat} {rs rs':List Rn} (h:PostT w w1 b rs) (k:PostT w1 w2 b rs'):PostT w w2 b rs':=⟨h.1.trans k.1,k.2⟩
set_option maxHeartbeats 1000000 in
theorem read_of (n:Nat) (ih0:∀ m,m < n→DoesT 42 0 m) (ih2:∀ m,m < n→DoesT 77 2 m):DoesT 42 0 n:=by
 intro p rs r w b hp hr h hb
 have hp':(p.size:Int)≤60:=by omega
 obtain ⟨n,rfl⟩:∃ n',n=n'+1:=by cases n with | zero=>simp [rfF] at h | succ n=>exact ⟨n,rfl⟩
 simp only [rfF] at h
 have I0:=hide ih0
 have I2:=hide ih2
 have H0:=hide h
 have HR:=hide hr
 clear ih0 ih2 h hr
 go_enter Tryz.func42,Tryz.ntmps42
 go_wp2_with fail
 go_loopg [5] n (fun m s wr=>∃ q:Nat,s=.int .i64 (q:Int)∧w=wr∧Hid (rfF m 1 p q 0 rs=some r∧m≤n))
 case atStart=>exact ⟨0,rfl,rfl,unhide H0,Nat.le_refl _⟩
 case round =>
  obtain ⟨q,rfl,rfl,H⟩:=hrel
  obtain ⟨h,hm⟩:=unhide H
  clear H H0
  obtain ⟨m,rfl⟩:∃ m',gk=m'+1:=by cases gk with | zero=>simp [rfF] at h | succ m=>exact ⟨m,rfl⟩
  simp only [rfF] at h
  by_cases hc:q < p.size∧(byteAt p q == 124)=false
  ·rw [if_pos hc,Option.bind_eq_some_iff] at h
   obtain ⟨j,hj,h⟩:=h
   obtain ⟨hq,hc2⟩:=hc
   rw [byteAt_eq hq] at hc2
   have hc3:((p[q].toNat:Int) != 124)=true:=by rw [bne,hc2];rfl
   have hq':(q:Int) < (p.size:Int):=by omega
   have HC:=hide (over_any p hp 200 q j w hj)
   have H2:=hide h
   clear hj h hc2
   go_wp2_with (go_at_call 76;refine (unhide HC).mono ?_;rintro e w' ⟨rfl,rfl⟩)
   go_roundg m
   case measure=>omega
   case rel=>exact ⟨j,rfl,rfl,unhide H2,by omega⟩
  ·rw [if_neg hc] at h
   have hq:q≤p.size:=by
    by_cases hq:q≤p.size
    ·exact hq
    ·rw [if_neg hq] at h;cases h
   rw [if_pos hq,Option.bind_eq_some_iff] at h
   obtain ⟨x,hx,h⟩:=h
   have hq':(q:Int)≤(p.size:Int):=by omega
   by_cases he:q=p.size
   ·rw [if_pos he] at h
    simp only [Option.some.injEq] at h
    subst h
    have he':((q:Int) == (p.size:Int))=true:=by simp [he]
    have hge:¬(q:Int) < (p.size:Int):=by omega
    have HB:=hide (unhide I2 m (by omega) (p.extract 0 q) rs x w b (by simp;omega) (unhide HR) hx hb)
    clear hx hc he
    go_wp2_with fail
    refine (unhide HB).mono ?_
    rintro e w1 ⟨rfl,hw1⟩
    go_wp2
    go_ret
    exact ⟨rfl,hw1⟩
   ·rw [if_neg he,Option.bind_eq_some_iff] at h
    obtain ⟨y,hy,h⟩:=h
    simp only [Option.some.injEq] at h
    subst h
    have g1:=rfF_grows _ _ _ _ _ _ _ hy
    have hrl:=unhide HR
    simp only [List.length_append,List.length_cons,List.length_nil] at hrl
    have he':((q:Int) == (p.size:Int))=false:=by simp;omega
    have hlt:(q:Int) < (p.size:Int):=by omega
    have hqn:q < p.size:=by omega
    have h124:((p[q].toNat:Int) != 124)=false:=by
     have:=hc
     rw [not_and,byteAt_eq hqn] at this
     have h3:=this hqn
     rw [bne]
     revert h3
     cases ((p[q].toNat:Int) == 124)<;>simp
    have HB:=hide (unhide I2 m (by omega) (p.extract 0 q) rs x w b (by simp;omega) (by omega) hx hb)
    have HB2:=hide (fun w1 hb1=>unhide I0 m (by omega) (p.extract (q+1) p.size) x.1 y w1 b (by simp;omega) (by omega) hy hb1)
    have hz:((Tryz.zeroCells151.setIfInBounds 0 (.int .i64 4)).setIfInBounds 1 (.int .i64 x.2)).setIfInBounds 2 (.int .i64 y.2)=rnA ⟨4,x.2,y.2,0,0,noSet⟩:=by rw [zero78,rnA_kind,rnA_l,rnA_r]
    have HZ:=hide hz
    have hyl:y.1.length≤1000:=by omega
    clear hx hy hc he g1 hrl hz
    go_wp2_with fail
    refine (unhide HB).mono ?_
    rintro e w1 ⟨rfl,hw1⟩
    go_wp2_with fail
    refine (unhide HB2 w1 hw1.2).mono ?_
    rintro e w2 ⟨rfl,hw2⟩
    go_wp2_with fail
    rw [unhide HZ]
    refine (put_any _ b y.1 _ hw2.2 hyl).mono ?_
    rintro e w3 ⟨rfl,hw3⟩
    go_wp2
    go_ret
    exact ⟨rfl,(hw1.trans hw2).trans hw3⟩
end Go.Proofs.YtobfpgoepaeknaaGreat
namespace Go.Proofs.YtobfpgoepaeknaaGreat
open Go.RowKit
theorem RtS_below {w w':World} {b:Nat} {rs:List Rn} (h:RtS w b rs) (hb:Below w.heap.size w w'):RtS w' b rs:=by
 obtain ⟨v,h1,h2⟩:=h
 have hg:=grownBy_of_below hb none
 exact ⟨v,(hb.block b (Array.getElem?_eq_some_iff.1 h1).1).trans h1,h2.kept hg (by cases v.ownBlock<;>simp)⟩
theorem RtS_lt {w:World} {b:Nat} {rs:List Rn} (h:RtS w b rs):b < w.heap.size:=by
 obtain ⟨v,h1,h2⟩:=h
 exact (Array.getElem?_eq_some_iff.1 h1).1
theorem PostT_of {w w1 w2:World} {b:Nat} {rs rs':List Rn} (h:RtS w b rs) (hb:Below w.heap.size w w1) (k:PostT w1 w2 b rs'):PostT w w2 b rs' :=
 ⟨(hb.mono (Nat.le_of_lt (RtS_lt h))).trans k.1,k.2⟩
theorem one_set (v:Nat):rnA ⟨2,0,0,0,0,fun j=>if j=v then true else noSet j⟩=rnA ⟨2,0,0,0,0,addR noSet (v:Int) (v:Int)⟩:=by
 refine rnA_congr rfl rfl rfl rfl rfl (fun j _=>?_)
 simp only [addR,noSet]
 by_cases e:j=v
 ·subst e;simp
 ·rw [if_neg e]
  symm
  simp only [Bool.false_or,Bool.and_eq_false_iff,decide_eq_false_iff_not]
  omega
set_option maxHeartbeats 2000000 in
theorem atom_of (n:Nat) (ih0:∀ m,m < n→DoesT 42 0 m):DoesT 122 4 n:=by
 intro p rs r w b hp hr h hb
 have hp':(p.size:Int)≤60:=by omega
 obtain ⟨n,rfl⟩:∃ n',n=n'+1:=by cases n with | zero=>simp [rfF] at h | succ n=>exact ⟨n,rfl⟩
 simp only [rfF] at h
 by_cases hc:0 < p.size∧(byteAt p 0 == 40)=true
 ·rw [if_pos hc] at h
  obtain ⟨h0,hc⟩:=hc
  rw [byteAt_eq h0] at hc
  have h1:1 < p.size:=by
   by_cases h1:1 < p.size
   ·exact h1
   ·rw [if_neg h1] at h;cases h
  rw [if_pos h1] at h
  have h0':(0:Int) < (p.size:Int):=by omega
  have h1':(1:Int) < (p.size:Int):=by omega
  have HC:=hide (ih0 n (by omega) (p.extract 1 (p.size - 1)) rs r w b (by simp;omega) hr h hb)
  clear ih0 h
  go_enter Tryz.func122,Tryz.ntmps122
  go_wp2_with fail
  refine (unhide HC).mono ?_
  rintro e w1 ⟨rfl,hw1⟩
  go_wp2
  go_ret
  exact ⟨rfl,hw1⟩
 ·rw [if_neg hc,Option.bind_eq_some_iff] at h
  obtain ⟨nd,hl,h⟩:=h
  simp only [Option.some.injEq] at h
  subst h
  have hrl:rs.length≤1000:=by simp only [List.length_append,List.length_cons,List.length_nil] at hr;omega
  unfold leafS at hl
  have h0:0 < p.size:=by
   by_cases h0:0 < p.size
   ·exact h0
   ·rw [if_neg h0] at hl;cases hl
  have h0':(0:Int) < (p.size:Int):=by omega
  rw [if_pos h0,byteAt_eq h0] at hl
  rw [not_and,byteAt_eq h0] at hc
  have c1':((p[0].toNat:Int) == 40)=false:=by simpa using hc h0
  clear hc ih0 hr
  by_cases c2:((p[0].toNat:Int) == 46)=true
  ·rw [if_pos c2] at hl
   simp only [Option.some.injEq] at hl
   subst hl
   have hbz:butR ⟨0,0,0,0,0,noSet⟩=⟨2,0,0,0,0,fun _=>true⟩:=by simp [butR,noSet]
   have HBZ:=hide hbz
   clear hbz
   go_enter Tryz.func122,Tryz.ntmps122
   go_wp2_with fail
   rw [zero78]
   refine (but_any _ _).mono ?_
   rw [unhide HBZ]
   rintro e w1 ⟨rfl,hw1⟩
   have hb1:=RtS_below hb hw1
   have HW1:=hide hw1
   clear hw1
   have HN1:=hide (heap_alloc_new w1 (Obj.cells Tryz.zeroCells151 151))
   have hbt:Below w1.heap.size w1 ((w1.alloc (Obj.cells Tryz.zeroCells151 151)).setRow w1.heap.size (rnA ⟨2,0,0,0,0,fun _=>true⟩)):=below_setRow ((Below.refl _ _).alloc (Nat.le_refl _) _) (Nat.le_refl _) _
   have hbS:=hide (RtS_below hb1 hbt)
   generalize hN:w1.heap.size=N at *
   have HN2:=hide (setRow_heap _ _ _ (rnA ⟨2,0,0,0,0,fun _=>true⟩) _ _ (unhide HN1))
   go_wp2_with (first
    | refine wpList_store_row0 rfl 151 _ _ rfl rfl N _ rfl rfl 151 _ (unhide HN1) (by rw [size_rnA];exact info78) (by rw [zero78,size_rnA,size_rnA]) (rnA_one _) ?_
    | refine wpList_load_row rfl 151 _ rfl N rfl 151 _ (0,0) _ (unhide HN2) Tryz.underlying151 rfl (by rw [size_rnA];exact info78) ?_)
   refine (put_any _ b rs _ (unhide hbS) hrl).mono ?_
   rintro e w9 ⟨rfl,hw9⟩
   go_wp2
   go_ret
   exact ⟨rfl,PostT_of hb (unhide HW1) (PostT_of hb1 (by rw [hN];exact hbt) hw9)⟩
  ·rw [if_neg c2] at hl
   have c2':((p[0].toNat:Int) == 46)=false:=by simpa using c2
   clear c2
   by_cases c3:((p[0].toNat:Int) == 91)=true
   ·rw [if_pos c3] at hl
    have h1:1 < p.size:=by
     by_cases h1:1 < p.size
     ·exact h1
     ·rw [if_neg h1] at hl;cases hl
    have h1':(1:Int) < (p.size:Int):=by omega
    rw [if_pos h1,byteAt_eq h1] at hl
    by_cases c4:((p[1].toNat:Int) == 94)=true
    ·rw [if_pos c4,Option.bind_eq_some_iff] at hl
     obtain ⟨f,hf,hl⟩:=hl
     simp only [Option.some.injEq] at hl
     subst hl
     have HF:=hide (items_any p hp 61 2 f w hf)
     clear hf
     go_enter Tryz.func122,Tryz.ntmps122
     go_wp2_with fail
     refine (unhide HF).mono ?_
     rintro e w1 ⟨rfl,hw1⟩
     have hb1:=RtS_below hb hw1
     have HW1:=hide hw1
     clear hw1 HF
     have HM1:=hide (heap_alloc_new w1 (Obj.cells Tryz.zeroCells151 151))
     have hbt1:Below w1.heap.size w1 ((w1.alloc (Obj.cells Tryz.zeroCells151 151)).setRow w1.heap.size (rnA ⟨2,0,0,0,0,f⟩)):=below_setRow ((Below.refl _ _).alloc (Nat.le_refl _) _) (Nat.le_refl _) _
     have hbS1:=hide (RtS_below hb1 hbt1)
     have HT1:=hide hbt1
     have HM2:=hide (setRow_heap _ _ _ (rnA ⟨2,0,0,0,0,f⟩) _ _ (unhide HM1))
     clear hbt1
     generalize hM:w1.heap.size=M at *
     go_wp2_with (first
      | refine wpList_store_row0 rfl 151 _ _ rfl rfl M _ rfl rfl 151 _ (unhide HM1) (by rw [size_rnA];exact info78) (by rw [zero78,size_rnA,size_rnA]) (rnA_one _) ?_
      | refine wpList_load_row rfl 151 _ rfl M rfl 151 _ (0,0) _ (unhide HM2) Tryz.underlying151 rfl (by rw [size_rnA];exact info78) ?_)
     generalize hW1:(w1.alloc (Obj.cells Tryz.zeroCells151 151)).setRow M (rnA ⟨2,0,0,0,0,f⟩)=w2 at *
     refine (but_any _ _).mono ?_
     rintro e w3 ⟨rfl,hw3⟩
     have hb3:=RtS_below (unhide hbS1) hw3
     have HW3:=hide hw3
     clear hw3 hW1
     have ebr:butR ⟨2,0,0,0,0,f⟩=⟨2,0,0,0,0,fun j=>!f j⟩:=rfl
     rw [ebr]
     clear ebr
     have HN1:=hide (heap_alloc_new w3 (Obj.cells Tryz.zeroCells151 151))
     have hbt:Below w3.heap.size w3 ((w3.alloc (Obj.cells Tryz.zeroCells151 151)).setRow w3.heap.size (rnA ⟨2,0,0,0,0,fun j=>!f j⟩)):=below_setRow ((Below.refl _ _).alloc (Nat.le_refl _) _) (Nat.le_refl _) _
     have hbS:=hide (RtS_below hb3 hbt)
     generalize hN:w3.heap.size=N at *
     have HN2:=hide (setRow_heap _ _ _ (rnA ⟨2,0,0,0,0,fun j=>!f j⟩) _ _ (unhide HN1))
     go_wp2_with (first
      | refine wpList_store_row0 rfl 151 _ _ rfl rfl N _ rfl rfl 151 _ (unhide HN1) (by rw [size_rnA];exact info78) (by rw [zero78,size_rnA,size_rnA]) (rnA_one _) ?_
      | refine wpList_load_row rfl 151 _ rfl N rfl 151 _ (0,0) _ (unhide HN2) Tryz.underlying151 rfl (by rw [size_rnA];exact info78) ?_)
     refine (put_any _ b rs _ (unhide hbS) hrl).mono ?_
     rintro e w9 ⟨rfl,hw9⟩
     go_wp2
     go_ret
     exact ⟨rfl,PostT_of hb (unhide HW1) (PostT_of hb1 (by rw [hM];exact unhide HT1) (PostT_of (unhide hbS1) (unhide HW3) (PostT_of hb3 (by rw [hN];exact hbt) hw9)))⟩
    ·rw [if_neg c4,Option.bind_eq_some_iff] at hl
     have c4':((p[1].toNat:Int) == 94)=false:=by simpa using c4
     obtain ⟨f,hf,hl⟩:=hl
     simp only [Option.some.injEq] at hl
     subst hl
     have HF:=hide (items_any p hp 61 1 f w hf)
     clear hf c4
     go_enter Tryz.func122,Tryz.ntmps122
     go_wp2_with fail
     refine (unhide HF).mono ?_
     rintro e w1 ⟨rfl,hw1⟩
     have hb1:=RtS_below hb hw1
     have HW1:=hide hw1
     clear hw1 HF
     have HN1:=hide (heap_alloc_new w1 (Obj.cells Tryz.zeroCells151 151))
     have hbt:Below w1.heap.size w1 ((w1.alloc (Obj.cells Tryz.zeroCells151 151)).setRow w1.heap.size (rnA ⟨2,0,0,0,0,f⟩)):=below_setRow ((Below.refl _ _).alloc (Nat.le_refl _) _) (Nat.le_refl _) _
     have hbS:=hide (RtS_below hb1 hbt)
     generalize hN:w1.heap.size=N at *
     have HN2:=hide (setRow_heap _ _ _ (rnA ⟨2,0,0,0,0,f⟩) _ _ (unhide HN1))
     go_wp2_with (first
      | refine wpList_store_row0 rfl 151 _ _ rfl rfl N _ rfl rfl 151 _ (unhide HN1) (by rw [size_rnA];exact info78) (by rw [zero78,size_rnA,size_rnA]) (rnA_one _) ?_
      | refine wpList_load_row rfl 151 _ rfl N rfl 151 _ (0,0) _ (unhide HN2) Tryz.underlying151 rfl (by rw [size_rnA];exact info78) ?_)
     refine (put_any _ b rs _ (unhide hbS) hrl).mono ?_
     rintro e w9 ⟨rfl,hw9⟩
     go_wp2
     go_ret
     exact ⟨rfl,PostT_of hb (unhide HW1) (PostT_of hb1 (by rw [hN];exact hbt) hw9)⟩
   ·rw [if_neg c3,Option.bind_eq_some_iff] at hl
    have c3':((p[0].toNat:Int) == 91)=false:=by simpa using c3
    clear c3
    obtain ⟨⟨v,j⟩,hn,hl⟩:=hl
    simp only [Option.some.injEq] at hl
    subst hl
    have hv:=namedS_bd hn
    have HF:=hide (fun wx=>named_any p hp 0 v j wx hn)
    clear hn
    obtain ⟨vn,rfl⟩:=Int.eq_ofNat_of_zero_le hv.1
    have hvn:vn < 256:=by omega
    have hv':(vn:Int) < 256:=by omega
    have hz2:Tryz.zeroCells151.setIfInBounds 0 (.int .i64 2)=rnA ⟨2,0,0,0,0,noSet⟩:=by rw [zero78,rnA_kind]
    have HZ2:=hide hz2
    have HN1:=hide (heap_alloc_new w (Obj.cells Tryz.zeroCells151 151))
    have hbt:Below w.heap.size w (((w.alloc (Obj.cells Tryz.zeroCells151 151)).setRow w.heap.size (Tryz.zeroCells151.setIfInBounds 0 (.int .i64 2))).setCell ⟨w.heap.size,5+vn,none⟩ (.bool true)):=(below_setRow ((Below.refl _ _).alloc (Nat.le_refl _) _) (Nat.le_refl _) _).setCell (Nat.le_refl _) _
    have hbS:=hide (RtS_below hb hbt)
    have HBT:=hide hbt
    have hN2:=setRow_heap _ _ _ (Tryz.zeroCells151.setIfInBounds 0 (.int .i64 2)) _ _ (unhide HN1)
    have hN2':=hN2
    rw [hz2] at hN2
    have x1:((w.alloc (Obj.cells Tryz.zeroCells151 151)).setRow w.heap.size (Tryz.zeroCells151.setIfInBounds 0 (.int .i64 2))).cell? ⟨w.heap.size,5+vn,none⟩=some (.bool false):=by rw [cell_of_row _ _ _ _ _ _ hN2',hz2,get_rnA _ _ hvn];rfl
    have x2:((w.alloc (Obj.cells Tryz.zeroCells151 151)).setRow w.heap.size (Tryz.zeroCells151.setIfInBounds 0 (.int .i64 2))).frozen? ⟨w.heap.size,5+vn,none⟩=false:=frozen_of_row _ _ _ _ _ hN2'
    have hN3:=heap_setCell_same _ _ (5+vn) _ _ (.bool true) hN2'
    have hN3':=hN3
    rw [hz2,rnA_set] at hN3'
    have HNS:=hide (one_set vn)
    clear hz2 hbt hN2 hv hvn
    go_enter Tryz.func122,Tryz.ntmps122
    go_wp2_with fail
    refine (unhide HF _).mono ?_
    rintro e w' ⟨rfl,hww⟩
    obtain rfl:w=w':=hww.symm
    have HW2:Hid ((Tryz.zeroCells151.setIfInBounds 0 (.int .i64 2)).setIfInBounds (5+vn) (.bool true)=rnA ⟨2,0,0,0,0,addR noSet (vn:Int) (vn:Int)⟩):=by
     show _=_
     rw [unhide HZ2,rnA_set,unhide HNS]
    have HN4:Hid ((((w.alloc (Obj.cells Tryz.zeroCells151 151)).setRow w.heap.size (Tryz.zeroCells151.setIfInBounds 0 (.int .i64 2))).setCell ⟨w.heap.size,5+vn,none⟩ (.bool true)).heap[w.heap.size]?=some (Obj.cells (rnA ⟨2,0,0,0,0,addR noSet (vn:Int) (vn:Int)⟩) 151 (0,0))):=by
     show _=_
     rw [hN3,unhide HW2]
    clear hN2' hN3 hN3'
    go_wp2_with (first
     | refine wpList_store_row0 rfl 151 _ _ rfl rfl w.heap.size _ rfl rfl 151 _ (unhide HN1) (by rw [unhide HZ2,size_rnA];exact info78) (by rw [unhide HZ2,zero78,size_rnA,size_rnA]) (by rw [unhide HZ2];exact rnA_one _) ?_
     | refine wpList_load_row rfl 151 _ rfl w.heap.size rfl 151 _ (0,0) _ (unhide HN4) Tryz.underlying151 rfl (by rw [size_rnA];exact info78) ?_)
    refine (put_any _ b rs _ (unhide hbS) hrl).mono ?_
    rintro e w9 ⟨rfl,hw9⟩
    go_wp2
    go_ret
    exact ⟨rfl,PostT_of hb (unhide HBT) hw9⟩
end Go.Proofs.YtobfpgoepaeknaaGreat
namespace Go.Proofs.YtobfpgoepaeknaaGreat
open Go.RowKit
theorem wrap_i {n:Int} (h0:0≤n) (h1:n≤65536):IntKind.i64.wrap n=n:=by
 rw [IntKind.wrap_i64];omega
theorem wrap_b {n:Int} (h0:0≤n) (h1:n≤255):IntKind.u8.wrap n=n:=by
 rw [IntKind.wrap_u8];omega
theorem PostT.undrew {w w':World} {b:Nat} {rs:List Rn} (h:PostT w.drew w' b rs):PostT w w' b rs:=⟨⟨h.1.os,h.1.tape,h.1.output,h.1.size,h.1.block⟩,h.2⟩
theorem isEmpty_of (p:ByteArray):p.toList.isEmpty=decide (p.size=0):=by
 rw [←decide_eq_emptyBytes]
 rw [decide_eq_decide]
 constructor
 ·rintro rfl;rfl
 ·intro h
  have:p.data=#[]:=Array.eq_empty_of_size_eq_zero h
  cases p
  simp only at this
  subst this
  rfl
set_option maxRecDepth 20000 in
set_option maxHeartbeats 4000000 in
theorem branch_of (n:Nat) (ih2:∀ m,m < n→DoesT 77 2 m) (ih4:∀ m,m < n→DoesT 122 4 m):DoesT 77 2 n:=by
 intro p rs r w b hp hr h hb
 have hp':(p.size:Int)≤60:=by omega
 obtain ⟨n,rfl⟩:∃ n',n=n'+1:=by cases n with | zero=>simp [rfF] at h | succ n=>exact ⟨n,rfl⟩
 simp only [rfF] at h
 by_cases h0:p.size=0
 ·rw [if_pos h0] at h
  simp only [Option.some.injEq] at h
  subst h
  have hrl:rs.length≤1000:=by simp only [List.length_append,List.length_cons,List.length_nil] at hr;omega
  have hem:p.toList.isEmpty=true:=by rw [isEmpty_of];simp [h0]
  have hz:Tryz.zeroCells151.setIfInBounds 0 (.int .i64 1)=rnA ⟨1,0,0,0,0,noSet⟩:=by rw [zero78,rnA_kind]
  have HZ:=hide hz
  clear hz ih2 ih4 h0 hr
  go_enter Tryz.func77,Tryz.ntmps77
  go_wp2_with fail
  rw [unhide HZ]
  refine (put_any _ b rs _ hb hrl).mono ?_
  rintro e w1 ⟨rfl,hw1⟩
  go_wp2
  go_ret
  exact ⟨rfl,hw1⟩
 ·rw [if_neg h0,Option.bind_eq_some_iff] at h
  obtain ⟨j,hj,h⟩:=h
  have hem:p.toList.isEmpty=false:=by rw [isEmpty_of];simp [h0]
  have hjp:j≤p.size:=by
   by_cases hjp:j≤p.size
   ·exact hjp
   ·rw [if_neg hjp] at h;cases h
  rw [if_pos hjp,Option.bind_eq_some_iff] at h
  obtain ⟨x,hx,h⟩:=h
  have hjp':(j:Int)≤(p.size:Int):=by omega
  have HO:=hide (over_any p hp 200 0 j w hj)
  have hgx:=rfF_grows _ _ _ _ _ _ _ h
  have HA:=hide (ih4 n (by omega) (p.extract 0 j) rs x w b (by simp;omega) (by omega) hx hb)
  have H0:=hide h
  have HR:=hide hr
  have I2:=hide ih2
  clear hj hx h hr ih2 ih4 hgx h0
  go_enter Tryz.func77,Tryz.ntmps77
  go_wp2_with fail
  refine (unhide HO).mono ?_
  rintro e w' ⟨rfl,hww⟩
  obtain rfl:w=w':=hww.symm
  clear hww
  go_wp2_with fail
  refine (unhide HA).mono ?_
  rintro e w1 ⟨rfl,hw1⟩
  go_wp2_with fail
  go_loopg [5,6] n (fun m s l wr=>∃ (q:Nat) (li:Int) (rs':List Rn),s=.int .i64 (q:Int)∧l=.int .i64 li∧Hid (rfF m 3 p q li rs'=some r∧m≤n∧PostT w wr b rs'))
  case atStart=>exact ⟨j,x.2,x.1,rfl,rfl,unhide H0,Nat.le_refl _,hw1⟩
  case round =>
   obtain ⟨q,li,rs',rfl,rfl,H⟩:=hrel
   obtain ⟨h,hm,pw⟩:=unhide H
   clear H H0 hw1 HA HO
   obtain ⟨m,rfl⟩:∃ m',gk=m'+1:=by cases gk with | zero=>simp [rfF] at h | succ m=>exact ⟨m,rfl⟩
   simp only [rfF] at h
   by_cases hc42:q < p.size∧(byteAt p q == 42)=true
   ·rw [if_pos hc42] at h
    obtain ⟨hq,he⟩:=hc42
    have hq':(q:Int) < (p.size:Int):=by omega
    rw [byteAt_eq hq] at he
    have hgl:=rfF_grows _ _ _ _ _ _ _ h
    have hsl:rs'.length≤1000:=by have:=unhide HR;simp only [List.length_append,List.length_cons,List.length_nil] at hgl;omega
    have hz:(Tryz.zeroCells151.setIfInBounds 0 (.int .i64 5)).setIfInBounds 1 (.int .i64 li)=rnA ⟨5,li,0,0,0,noSet⟩:=by rw [zero78,rnA_kind,rnA_l]
    have HZ:=hide hz
    have H2:=hide h
    clear h hgl hz
    go_wp2_with fail
    rw [unhide HZ]
    refine (put_any _ b rs' _ pw.2 hsl).mono ?_
    rintro e w2 ⟨rfl,hw2⟩
    go_wp2
    go_roundg m
    case measure=>omega
    case rel=>exact ⟨q+1,_,_,by go_num,rfl,unhide H2,by omega,pw.trans hw2⟩
   ·rw [if_neg hc42] at h
    by_cases hc43:q < p.size∧(byteAt p q == 43)=true
    ·rw [if_pos hc43] at h
     obtain ⟨hq,he⟩:=hc43
     have hq':(q:Int) < (p.size:Int):=by omega
     rw [byteAt_eq hq] at he
     have n42:((p[q].toNat:Int) == 42)=false:=by rw [not_and,byteAt_eq hq] at hc42;simpa using hc42 hq
     have hgl:=rfF_grows _ _ _ _ _ _ _ h
     have hsl:rs'.length≤1000:=by have:=unhide HR;simp only [List.length_append,List.length_cons,List.length_nil] at hgl;omega
     have hz:(Tryz.zeroCells151.setIfInBounds 0 (.int .i64 6)).setIfInBounds 1 (.int .i64 li)=rnA ⟨6,li,0,0,0,noSet⟩:=by rw [zero78,rnA_kind,rnA_l]
     have HZ:=hide hz
     have H2:=hide h
     clear h hgl hz hc42
     go_wp2_with fail
     rw [unhide HZ]
     refine (put_any _ b rs' _ pw.2 hsl).mono ?_
     rintro e w2 ⟨rfl,hw2⟩
     go_wp2
     go_roundg m
     case measure=>omega
     case rel=>exact ⟨q+1,_,_,by go_num,rfl,unhide H2,by omega,pw.trans hw2⟩
    ·rw [if_neg hc43] at h
     by_cases hc63:q < p.size∧(byteAt p q == 63)=true
     ·rw [if_pos hc63] at h
      obtain ⟨hq,he⟩:=hc63
      have hq':(q:Int) < (p.size:Int):=by omega
      rw [byteAt_eq hq] at he
      have n42:((p[q].toNat:Int) == 42)=false:=by rw [not_and,byteAt_eq hq] at hc42;simpa using hc42 hq
      have n43:((p[q].toNat:Int) == 43)=false:=by rw [not_and,byteAt_eq hq] at hc43;simpa using hc43 hq
      have hgl:=rfF_grows _ _ _ _ _ _ _ h
      have hsl:rs'.length≤1000:=by have:=unhide HR;simp only [List.length_append,List.length_cons,List.length_nil] at hgl;omega
      have hz:(Tryz.zeroCells151.setIfInBounds 0 (.int .i64 7)).setIfInBounds 1 (.int .i64 li)=rnA ⟨7,li,0,0,0,noSet⟩:=by rw [zero78,rnA_kind,rnA_l]
      have HZ:=hide hz
      have H2:=hide h
      clear h hgl hz hc42 hc43
      go_wp2_with fail
      rw [unhide HZ]
      refine (put_any _ b rs' _ pw.2 hsl).mono ?_
      rintro e w2 ⟨rfl,hw2⟩
      go_wp2
      go_roundg m
      case measure=>omega
      case rel=>exact ⟨q+1,_,_,by go_num,rfl,unhide H2,by omega,pw.trans hw2⟩
     ·rw [if_neg hc63] at h
      by_cases hc123:q < p.size∧(byteAt p q == 123)=true
      ·rw [if_pos hc123] at h
       obtain ⟨hq,he⟩:=hc123
       rw [byteAt_eq hq] at he
       have n42:((p[q].toNat:Int) == 42)=false:=by rw [not_and,byteAt_eq hq] at hc42;simpa using hc42 hq
       have n43:((p[q].toNat:Int) == 43)=false:=by rw [not_and,byteAt_eq hq] at hc43;simpa using hc43 hq
       have n63:((p[q].toNat:Int) == 63)=false:=by rw [not_and,byteAt_eq hq] at hc63;simpa using hc63 hq
       have hc5:q+4 < p.size∧decB (byteAt p (q+1))=true∧decB (byteAt p (q+3))=true:=by
        by_cases hc5:q+4 < p.size∧decB (byteAt p (q+1))=true∧decB (byteAt p (q+3))=true
        ·exact hc5
        ·rw [if_neg hc5] at h;cases h
       rw [if_pos hc5] at h
       obtain ⟨h4,d1,d3⟩:=hc5
       have hq':(q:Int) < (p.size:Int):=by omega
       have hq1':(q:Int)+1 < (p.size:Int):=by omega
       have hq3':(q:Int)+3 < (p.size:Int):=by omega
       have b1:=byteAt_eq (t:=p) (k:=q+1) (by omega)
       have b3:=byteAt_eq (t:=p) (k:=q+3) (by omega)
       have d1a:48≤byteAt p (q+1)∧byteAt p (q+1)≤57:=by simpa [decB] using d1
       have d3a:48≤byteAt p (q+3)∧byteAt p (q+3)≤57:=by simpa [decB] using d3
       rw [b1] at h d1a
       rw [b3] at h d3a
       have hgl:=rfF_grows _ _ _ _ _ _ _ h
       have hsl:rs'.length≤1000:=by have:=unhide HR;simp only [List.length_append,List.length_cons,List.length_nil] at hgl;omega
       have hz:∀ u v:Int,(((Tryz.zeroCells151.setIfInBounds 0 (.int .i64 8)).setIfInBounds 1 (.int .i64 li)).setIfInBounds 3 (.int .i64 u)).setIfInBounds 4 (.int .i64 v)=rnA ⟨8,li,0,u,v,noSet⟩:=by intro u v;rw [zero78,rnA_kind,rnA_l,rnA_m,rnA_n]
       have HZ:=hide hz
       have H2:=hide h
       have v1:IntKind.i64.wrap ((q:Int)+1)=(q:Int)+1:=wrap_i (by omega) (by omega)
       have v3:IntKind.i64.wrap ((q:Int)+3)=(q:Int)+3:=wrap_i (by omega) (by omega)
       have v5:IntKind.u8.wrap ((p[q+1].toNat:Int) - 48)=(p[q+1].toNat:Int) - 48:=wrap_b (by omega) (by omega)
       have v6:IntKind.u8.wrap ((p[q+3].toNat:Int) - 48)=(p[q+3].toNat:Int) - 48:=wrap_b (by omega) (by omega)
       have v7:IntKind.i64.wrap ((p[q+1].toNat:Int) - 48)=(p[q+1].toNat:Int) - 48:=wrap_i (by omega) (by omega)
       have v8:IntKind.i64.wrap ((p[q+3].toNat:Int) - 48)=(p[q+3].toNat:Int) - 48:=wrap_i (by omega) (by omega)
       have z1:(0:Int)≤(q:Int)+1:=by omega
       have z3:(0:Int)≤(q:Int)+3:=by omega
       have y1:q+1 < p.size:=by omega
       have y3:q+3 < p.size:=by omega
       clear h hgl hz hc42 hc43 hc63 b1 b3 d1 d3
       go_wp2_with fail
       go_region_with (go_at_call 78;rw [unhide HZ];refine (put_any _ b rs' _ (by exact pw.2) hsl).mono ?_;rintro e w2 ⟨rfl,hw2⟩)
       all_goals
        go_wp2
        go_roundg m
        case measure=>omega
        case rel =>
         have h5:=hw2
         simp only [show ((q:Int)+3).toNat=q+3 from by omega,v6,v8] at h5
         exact ⟨q+5,_,_,by go_num,rfl,unhide H2,by omega,pw.trans h5.undrew⟩
      ·rw [if_neg hc123] at h
       by_cases he:q=p.size
       ·rw [if_pos he] at h
        simp only [Option.some.injEq] at h
        subst h
        have hge:¬(q:Int) < (p.size:Int):=by omega
        have he':((q:Int) == (p.size:Int))=true:=by simp [he]
        clear hc42 hc43 hc63 hc123 he
        go_wp2
        go_ret
        exact ⟨rfl,pw⟩
       ·rw [if_neg he] at h
        have hq:q < p.size:=by
         by_cases hq:q < p.size
         ·exact hq
         ·rw [if_neg hq] at h;cases h
        rw [if_pos hq,Option.bind_eq_some_iff] at h
        obtain ⟨y,hy,h⟩:=h
        simp only [Option.some.injEq] at h
        subst h
        have n42:((p[q].toNat:Int) == 42)=false:=by rw [not_and,byteAt_eq hq] at hc42;simpa using hc42 hq
        have n43:((p[q].toNat:Int) == 43)=false:=by rw [not_and,byteAt_eq hq] at hc43;simpa using hc43 hq
        have n63:((p[q].toNat:Int) == 63)=false:=by rw [not_and,byteAt_eq hq] at hc63;simpa using hc63 hq
        have n123:((p[q].toNat:Int) == 123)=false:=by rw [not_and,byteAt_eq hq] at hc123;simpa using hc123 hq
        have hq':(q:Int) < (p.size:Int):=by omega
        have he':((q:Int) == (p.size:Int))=false:=by simp;omega
        have hrl:=unhide HR
        simp only [List.length_append,List.length_cons,List.length_nil] at hrl
        have hyl:y.1.length≤1000:=by omega
        have HB2:=hide (fun w1 hb1=>unhide I2 m (by omega) (p.extract q p.size) rs' y w1 b (by simp;omega) (by omega) hy hb1)
        have hz:((Tryz.zeroCells151.setIfInBounds 0 (.int .i64 3)).setIfInBounds 1 (.int .i64 li)).setIfInBounds 2 (.int .i64 y.2)=rnA ⟨3,li,y.2,0,0,noSet⟩:=by rw [zero78,rnA_kind,rnA_l,rnA_r]
        have HZ:=hide hz
        clear hc42 hc43 hc63 hc123 he hy hrl hz
        go_wp2_with fail
        refine (unhide HB2 _ pw.2).mono ?_
        rintro e w2 ⟨rfl,hw2⟩
        go_wp2_with fail
        rw [unhide HZ]
        refine (put_any _ b y.1 _ hw2.2 hyl).mono ?_
        rintro e w3 ⟨rfl,hw3⟩
        go_wp2
        go_ret
        exact ⟨rfl,(pw.trans hw2).trans hw3⟩
end Go.Proofs.YtobfpgoepaeknaaGreat
namespace Go.Proofs.YtobfpgoepaeknaaGreat
open Go.RowKit
theorem wpList_load_mid {P:Program} {ops:Array Oper} {rest:List Oper} {o:Oper} {a:Act} {w:World} {Q:Exit→Act→World→Prop} (hgd:o.guard=none) (ty:TypeId) (x:Operand) (ho:o.op=.load ty x)
  (a0:Addr) (hx:a.eval x=.pointer (some a0)) (cs:Array Value) (hc:∀ j v,cs.toList[j]?=some v→w.cell? (a0.add j)=some v) (d:TypeDesc)
  (hu:P.underlying ty=some d) (hd:(match d with | .struct _ | .array _ _=>true | _=>false)=true) (hi:(P.info? ty).map (·.size)=some cs.size)
  (h:wpList P ops Q rest (a.put o.dst (.agg cs)) w):wpList P ops Q (o ::rest) a w:=by
 refine wpList_plain hgd fun _ hK=>?_
 have hl:=run_loadCells_list (P:=P) w a0 cs.toList hc
 simp only [Array.length_toList,Array.toArray_toList] at hl
 cases hq:P.info? ty with
 | none=>simp [hq] at hi
 | some i =>
  have hs:i.size=cs.size:=by simpa [hq] using hi
  have hagg:(isAgg ty).run P w=.ok true w:=by
   unfold isAgg
   rw [Sem.run_bind,run_underlying hu w]
   cases d<;>simp_all
  have hrun:(loadVar ty a0).run P w=.ok (.agg cs) w:=by
   simp [loadVar,Sem.run_bind,hagg,sizeOf,typeInfo,hq,hs,hl]
  unfold Oper.wp execOp
  simp only [ho,hx,Instr.loadAt,Instr.sureAddr,Sem.run_bind,Sem.run_pure,Result.andThen_ok,hrun]
  exact hK _ _ h
def bytesN (s:ByteArray):List Nat:=s.data.toList.map fun b=>b.toNat
theorem bytesN_len (s:ByteArray):(bytesN s).length=s.size:=by unfold bytesN;rw [List.length_map,Array.length_toList];rfl
theorem bytesN_at (s:ByteArray) (k:Nat) (h:k < s.size) (h':k < (bytesN s).length):(bytesN s)[k]=s[k].toNat:=by simp [bytesN,ByteArray.getElem_eq_getElem_data]
end Go.Proofs.YtobfpgoepaeknaaGreat
