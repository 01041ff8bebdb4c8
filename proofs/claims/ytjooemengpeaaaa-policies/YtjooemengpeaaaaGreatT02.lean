/-
  The code that judges a secret: reading a byte, a secret, by a table.
  The code that judges a secret: a secret is read by tables, the marks are added, the verdict is looked up.
  judge.writer.readSecret; what is asked of a table: States, Classes, Class, Granted, Next.
  judge.layer: address, classes; table.at, table.Table.Next.
-/
import Derived.Test.YtjooemengpeaaaaGreatT01
import Derived.Test.YtjooemengpeaaaaGreatT00
import Derived.Laws.CopyRow
namespace Go.Proofs.YtjooemengpeaaaaGreat
namespace Mc
theorem readByte_any {cs:List OpI} {M:List Nat} {i cb ce rb re p L v r:Nat} {en:Bool} {g:Nat→Nat} {T:List Nat} (hc:At cs p (readByteOps i cb ce rb re p)) (hM:∀ i,M.getD i 0≤65535) (hcb:cb < ce) (hce:ce≤4096) (hrb:rb < re) (hre:re≤4096) (hi:1+i < 4096)
  (hw:M.getD (1+i) 0+cb≤65535) (hr:r+found M cb ce (M.getD (1+i) 0+cb)≤65535) (hg:Rg g L v r en) :
  Goes cs (readByteN cb ce rb re) g M p T (fun g'=>Rg g' L v (if en || decide (i=L) then r else found M rb re (r+found M cb ce (M.getD (1+i) 0+cb))) (en || decide (i=L))) M (p+31) (T++readByteT i cb ce rb re):=by
 obtain ⟨a1,hc2⟩:=hc.app
 obtain ⟨a2,hc3⟩:=hc2.app
 obtain ⟨a3,hc4⟩:=hc3.app
 obtain ⟨a4,a5⟩:=hc4.app
 simp only [List.length_cons,List.length_nil,Nat.zero_add,lookOps] at a2 a3 a4 a5
 have e0:=a1.get 0 rfl
 have e1:=a1.get 1 rfl
 have e2:=a1.get 2 rfl
 have e3:=a1.get 3 rfl
 have e4:=a1.get 4 rfl
 have e5:=a1.get 5 rfl
 have e6:=a1.get 6 rfl
 have e17:=a3.get 0 rfl
 have e28:=a5.get 0 rfl
 have e29:=a5.get 1 rfl
 have e30:=a5.get 2 rfl
 generalize hen:(en || decide (i=L))=en'
 generalize hw0:M.getD (1+i) 0=w at *
 unfold readByteN readByteT
 -- the first seven
 have p1:Goes cs 7 g M p T (fun q=>Rg q L v r en'∧q 5=w+cb) M (p+7) (T++[1+i]):=by
  refine Goes.next (n:=1) (m:=6) (goes_set (post:=fun q=>Rg q L v r en∧q 10=i) e0 ⟨⟨?_,?_,?_,?_,?_⟩,upd_same _ _ _⟩) fun q hq=>?_
  ·rw [upd_ne _ _ (by decide)];exact hg.one
  ·rw [upd_ne _ _ (by decide)];exact hg.len
  ·rw [upd_ne _ _ (by decide)];exact hg.ver
  ·rw [upd_ne _ _ (by decide)];exact hg.row
  ·rw [upd_ne _ _ (by decide)];exact hg.en
  obtain ⟨hq,h10⟩:=hq
  refine Goes.next (n:=1) (m:=5) (goes_join (k:=5) (post:=fun q=>Rg q L v r en∧q 10=endW (decide (i=L))) (by decide) (by decide) (by decide) e1 ⟨⟨?_,?_,?_,?_,?_⟩,?_⟩) fun q hq=>?_
  ·rw [upd_ne _ _ (by decide)];exact hq.one
  ·rw [upd_ne _ _ (by decide)];exact hq.len
  ·rw [upd_ne _ _ (by decide)];exact hq.ver
  ·rw [upd_ne _ _ (by decide)];exact hq.row
  ·rw [upd_ne _ _ (by decide)];exact hq.en
  ·rw [upd_same,j5,h10,hq.len]
  obtain ⟨hq,h10⟩:=hq
  refine Goes.next (n:=1) (m:=4) (goes_join (k:=3) (post:=fun q=>Rg q L v r en') (by decide) (by decide) (by decide) e2 ⟨?_,?_,?_,?_,?_⟩) fun q hq=>?_
  ·rw [upd_ne _ _ (by decide)];exact hq.one
  ·rw [upd_ne _ _ (by decide)];exact hq.len
  ·rw [upd_ne _ _ (by decide)];exact hq.ver
  ·rw [upd_ne _ _ (by decide)];exact hq.row
  ·rw [upd_same,j3,hq.en,h10,or_end,hen]
  refine Goes.next (n:=1) (m:=3) (goes_set (post:=fun q=>Rg q L v r en'∧q 10=1+i) e3 ⟨⟨?_,?_,?_,?_,?_⟩,upd_same _ _ _⟩) fun q hq=>?_
  ·rw [upd_ne _ _ (by decide)];exact hq.one
  ·rw [upd_ne _ _ (by decide)];exact hq.len
  ·rw [upd_ne _ _ (by decide)];exact hq.ver
  ·rw [upd_ne _ _ (by decide)];exact hq.row
  ·rw [upd_ne _ _ (by decide)];exact hq.en
  obtain ⟨hq,h10⟩:=hq
  have hl:=goes_load (g:=q) (M:=M) (p:=p+4) (T:=T) (a:=5) (x:=10) (c:=0) (post:=fun q=>Rg q L v r en'∧q 5=w) (by decide) (by rw [h10];exact hi) e4 ⟨⟨by rw [upd_ne _ _ (by decide)];exact hq.one,by rw [upd_ne _ _ (by decide)];exact hq.len,by rw [upd_ne _ _ (by decide)];exact hq.ver,by rw [upd_ne _ _ (by decide)];exact hq.row,by rw [upd_ne _ _ (by decide)];exact hq.en⟩,by rw [upd_same,h10,hw0]⟩
  rw [h10] at hl
  refine Goes.next (n:=1) (m:=2) hl fun q hq=>?_
  obtain ⟨hq,h5⟩:=hq
  refine Goes.next (n:=1) (m:=1) (goes_set (post:=fun q=>Rg q L v r en'∧q 5=w∧q 10=cb) e5 ⟨⟨?_,?_,?_,?_,?_⟩,?_,upd_same _ _ _⟩) fun q hq=>?_
  ·rw [upd_ne _ _ (by decide)];exact hq.one
  ·rw [upd_ne _ _ (by decide)];exact hq.len
  ·rw [upd_ne _ _ (by decide)];exact hq.ver
  ·rw [upd_ne _ _ (by decide)];exact hq.row
  ·rw [upd_ne _ _ (by decide)];exact hq.en
  ·rw [upd_ne _ _ (by decide)];exact h5
  obtain ⟨hq,h5,h10⟩:=hq
  refine goes_join (k:=1) (by decide) (by decide) (by decide) e6 ⟨⟨?_,?_,?_,?_,?_⟩,?_⟩
  ·rw [upd_ne _ _ (by decide)];exact hq.one
  ·rw [upd_ne _ _ (by decide)];exact hq.len
  ·rw [upd_ne _ _ (by decide)];exact hq.ver
  ·rw [upd_ne _ _ (by decide)];exact hq.row
  ·rw [upd_ne _ _ (by decide)];exact hq.en
  ·rw [upd_same,h5,h10,j1 hw]
 refine Goes.next p1 fun q hq=>?_
 obtain ⟨hq,h5⟩:=hq
 refine Goes.next ((look_any (p:=p+7) (by simpa [lookOps] using a2) hM hcb hce q hq.one (T++[1+i])).mono (post2:=fun q'=>Rg q' L v r en'∧q' 6=found M cb ce (w+cb)) fun q' hq'=>⟨⟨?_,?_,?_,?_,?_⟩,by rw [hq'.2,h5]⟩) fun q hq=>?_
 ·rw [hq'.1 0 (by decide) (by decide) (by decide) (by decide) (by decide)];exact hq.one
 ·rw [hq'.1 1 (by decide) (by decide) (by decide) (by decide) (by decide)];exact hq.len
 ·rw [hq'.1 2 (by decide) (by decide) (by decide) (by decide) (by decide)];exact hq.ver
 ·rw [hq'.1 3 (by decide) (by decide) (by decide) (by decide) (by decide)];exact hq.row
 ·rw [hq'.1 4 (by decide) (by decide) (by decide) (by decide) (by decide)];exact hq.en
 obtain ⟨hq,h6⟩:=hq
 refine Goes.next (n:=1) (goes_join (k:=1) (post:=fun q=>Rg q L v r en'∧q 5=r+found M cb ce (w+cb)) (by decide) (by decide) (by decide) e17 ⟨⟨?_,?_,?_,?_,?_⟩,?_⟩) fun q hq=>?_
 ·rw [upd_ne _ _ (by decide)];exact hq.one
 ·rw [upd_ne _ _ (by decide)];exact hq.len
 ·rw [upd_ne _ _ (by decide)];exact hq.ver
 ·rw [upd_ne _ _ (by decide)];exact hq.row
 ·rw [upd_ne _ _ (by decide)];exact hq.en
 ·rw [upd_same,hq.row,h6,j1 hr]
 obtain ⟨hq,h5⟩:=hq
 have hlk:=look_any (p:=p+18) (by simpa [lookOps] using a4) hM hrb hre q hq.one (T++[1+i]++lookT cb (ce - cb))
 refine Goes.next (hlk.mono (post2:=fun q'=>Rg q' L v r en'∧q' 6=found M rb re (r+found M cb ce (w+cb))) fun q' hq'=>⟨⟨?_,?_,?_,?_,?_⟩,by rw [hq'.2,h5]⟩) fun q hq=>?_
 ·rw [hq'.1 0 (by decide) (by decide) (by decide) (by decide) (by decide)];exact hq.one
 ·rw [hq'.1 1 (by decide) (by decide) (by decide) (by decide) (by decide)];exact hq.len
 ·rw [hq'.1 2 (by decide) (by decide) (by decide) (by decide) (by decide)];exact hq.ver
 ·rw [hq'.1 3 (by decide) (by decide) (by decide) (by decide) (by decide)];exact hq.row
 ·rw [hq'.1 4 (by decide) (by decide) (by decide) (by decide) (by decide)];exact hq.en
 obtain ⟨hq,h6⟩:=hq
 have hr2:found M rb re (r+found M cb ce (w+cb))≤65535:=found_le hM _ _ _
 have hr1:r≤65535:=by omega
 generalize found M rb re (r+found M cb ce (w+cb))=r2 at *
 rw [show T++([1+i]++(lookT cb (ce - cb)++lookT rb (re - rb)))=T++[1+i]++lookT cb (ce - cb)++lookT rb (re - rb) by simp [List.append_assoc]]
 generalize T++[1+i]++lookT cb (ce - cb)++lookT rb (re - rb)=T9
 refine Goes.next (n:=1) (m:=2) (goes_join (k:=4) (post:=fun q=>Rg q L v r en'∧q 6=r2∧q 10=r ^^^ r2) (by decide) (by decide) (by decide) e28 ⟨⟨?_,?_,?_,?_,?_⟩,?_,?_⟩) fun q hq=>?_
 ·rw [upd_ne _ _ (by decide)];exact hq.one
 ·rw [upd_ne _ _ (by decide)];exact hq.len
 ·rw [upd_ne _ _ (by decide)];exact hq.ver
 ·rw [upd_ne _ _ (by decide)];exact hq.row
 ·rw [upd_ne _ _ (by decide)];exact hq.en
 ·rw [upd_ne _ _ (by decide)];exact h6
 ·rw [upd_same,j4,hq.row,h6]
 obtain ⟨hq,h6,h10⟩:=hq
 refine Goes.next (n:=1) (m:=1) (goes_join (k:=2) (post:=fun q=>Rg q L v r en'∧q 6=r2∧q 10=(r ^^^ r2) &&& endW en') (by decide) (by decide) (by decide) e29 ⟨⟨?_,?_,?_,?_,?_⟩,?_,?_⟩) fun q hq=>?_
 ·rw [upd_ne _ _ (by decide)];exact hq.one
 ·rw [upd_ne _ _ (by decide)];exact hq.len
 ·rw [upd_ne _ _ (by decide)];exact hq.ver
 ·rw [upd_ne _ _ (by decide)];exact hq.row
 ·rw [upd_ne _ _ (by decide)];exact hq.en
 ·rw [upd_ne _ _ (by decide)];exact h6
 ·rw [upd_same,j2,h10,hq.en]
 obtain ⟨hq,h6,h10⟩:=hq
 refine goes_join (k:=4) (by decide) (by decide) (by decide) e30 ⟨?_,?_,?_,?_,?_⟩
 ·rw [upd_ne _ _ (by decide)];exact hq.one
 ·rw [upd_ne _ _ (by decide)];exact hq.len
 ·rw [upd_ne _ _ (by decide)];exact hq.ver
 ·rw [upd_same,j4,h6,h10,pick_row hr1 hr2]
 ·rw [upd_ne _ _ (by decide)];exact hq.en
end Mc
end Go.Proofs.YtjooemengpeaaaaGreat
namespace Go.Proofs.YtjooemengpeaaaaGreat
namespace Mc
structure TabN where
 S:Nat
 C:Nat
 cl:Nat→Nat
 gr:Nat→Bool
 nx:Nat→Nat→Nat
structure TabN.Ok (t:TabN):Prop where
 s1:0 < t.S
 c1:0 < t.C
 s2:t.S≤24
 c2:t.C≤24
 cl:∀ b,b < 256→t.cl b < t.C
 nx:∀ q c,q < t.S→c < t.C→t.nx q c < t.S
end Mc
end Go.Proofs.YtjooemengpeaaaaGreat
namespace Go.Proofs.YtjooemengpeaaaaGreat
namespace Mc
open Go.RowKit
attribute [local go_sem ↓] Go.wp_at_zero Go.wp_at_succ
def tbC (cl:Nat→Nat) (C:Nat) (gv nv:Value):Array Value:=(ncs ((List.range 256).map cl)++[.int .i64 (C:Int),gv,nv]).toArray
theorem tbC_cl (cl:Nat→Nat) (C:Nat) (gv nv:Value) {b:Nat} (hb:b < 256):(tbC cl C gv nv)[b]?=some (.int .i64 ((cl b:Nat):Int)):=by
 unfold tbC
 rw [List.getElem?_toArray,List.getElem?_append_left (by rw [ncs_len];simpa using hb),ncs_get _ (by simpa using hb),List.getD_eq_getElem?_getD,List.getElem?_map,List.getElem?_range hb];rfl
theorem tbC_tail (cl:Nat→Nat) (C:Nat) (gv nv:Value) (j:Nat):(tbC cl C gv nv)[256+j]?=[.int .i64 (C:Int),gv,nv][j]?:=by
 unfold tbC
 rw [List.getElem?_toArray,List.getElem?_append_right (by rw [ncs_len];simp),ncs_len,List.length_map,List.length_range,Nat.add_sub_cancel_left]
def bcs (bs:List Bool):List Value:=bs.map fun b=>.bool b
def BR (w:World) (B:Nat) (v:Value) (bs:List Bool):Prop:=w.ownsRow B 4 1 v bs.length (bcs bs)
theorem BR.form {w:World} {B:Nat} {v:Value} {xs:List Bool} (h:BR w B v xs):(∃ a c,v=.slice a xs.length c):=by
 rcases h.2 with ⟨rfl,h0⟩ | ⟨g,cap,cur,rfl,_⟩
 ·exact ⟨none,0,by rw [h0]⟩
 ·exact ⟨_,_,rfl⟩
theorem row_keep {w w':World} {B e z:Nat} (hb:Below B w w') {v:Value} {n:Nat} {xs:List Value} (h:w.ownsRow 0 e z v n xs) (hq:∀ q,v.ownBlock=some q→q < B):w'.ownsRow 0 e z v n xs:=by
 refine ⟨h.1,?_⟩
 rcases h.2 with hl | ⟨g,cap,cur,rfl,h1,hg,rest⟩
 ·exact .inl hl
 ·exact .inr ⟨g,cap,cur,rfl,h1,(hb.block g (hq g rfl)).trans hg,rest⟩
set_option maxRecDepth 20000 in
theorem States_any (w:World) (B gt:Nat) (t:TabN) (h:TbB w B gt t):Calls Tryz.prog 109 #[.pointer (some ⟨gt,0,none⟩)] w fun e w'=>e=.returned (.int .i64 (t.S:Int))∧w'=w:=by
 obtain ⟨gv,nv,bs,ns,h1,h2,h3,q1,q2,hS,r⟩:=h.ex
 obtain ⟨a,c,rfl⟩:=h2.form
 have c0:w.cell? ⟨gt,257,none⟩=some (.slice a bs.length c):=by rw [cell_of_row _ _ _ _ _ _ h1];exact tbC_tail _ _ _ _ 1
 rw [hS] at c0
 clear h h1 h2 h3 q1 q2 hS r
 go_enter Tryz.func109,Tryz.ntmps109
 go_wp2
 go_ret
 exact ⟨rfl,rfl⟩
set_option maxRecDepth 20000 in
theorem Granted_any (w:World) (B gt:Nat) (t:TabN) (h:TbB w B gt t) (q:Nat) (hq:q < t.S):Calls Tryz.prog 110 #[.pointer (some ⟨gt,0,none⟩),.int .i64 (q:Int)] w fun e w'=>e=.returned (.bool (t.gr q))∧w'=w:=by
 obtain ⟨gv,nv,bs,ns,h1,h2,h3,q1,q2,hS,hg,r⟩:=h.ex
 have hok:=h.ok.s2
 obtain ⟨g,cap,rfl,hc⟩:=h2.at (k:=q) (by omega)
 rw [hg q hq] at hc
 have c0:w.cell? ⟨gt,257,none⟩=some (.slice (some ⟨g,0,none⟩) bs.length cap):=by rw [cell_of_row _ _ _ _ _ _ h1];exact tbC_tail _ _ _ _ 1
 rw [hS] at c0
 have hqI:(q:Int) < (t.S:Int):=by omega
 have hsI:(t.S:Int)≤24:=by omega
 clear h h1 h2 h3 q1 q2 hS hg r hq hok
 generalize t.gr q=x at *
 go_enter Tryz.func110,Tryz.ntmps110
 go_wp2
 go_ret
 exact ⟨rfl,rfl⟩
end Mc
end Go.Proofs.YtjooemengpeaaaaGreat
namespace Go.Proofs.YtjooemengpeaaaaGreat
namespace Mc
open Go.RowKit
attribute [local go_sem ↓] Go.wp_at_zero Go.wp_at_succ
section
variable {w w' : World} {B gl : Nat} {v : Value} {ds : List Nat}
end
theorem u8_wrap (b:Nat) (h:b < 256):IntKind.u8.wrap (b:Int)=(b:Int):=by
 unfold IntKind.wrap
 simp only [IntKind.bits,IntKind.signed]
 have h1:(b:Int) % (2 ^ 8:Int)=b:=Int.emod_eq_of_lt (by omega) (by omega)
 simp only [h1]
 simp
end Mc
end Go.Proofs.YtjooemengpeaaaaGreat
