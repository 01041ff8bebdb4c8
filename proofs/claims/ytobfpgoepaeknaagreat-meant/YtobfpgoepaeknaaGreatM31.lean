/-
  The patterns that are made: atom, turned.
-/
import Derived.Test.YtobfpgoepaeknaaGreatM30
namespace Go.Proofs.YtobfpgoepaeknaaGreat
open Go.RowKit
attribute [local go_sem ↓] Go.wp_at_zero Go.wp_at_succ
def Gq (x:List Nat) (v:Val):Prop:=Gp x v∧∀ y u,Gp y u→Gp (x++124 ::y) (altV v u)
theorem Gb.q {x:List Nat} {v:Val} (h:Gb x v):Gq x v:=⟨h.p,fun _ _ k=>h.alt k⟩
theorem Gq.alt {x y:List Nat} {v u:Val} (h:Gq x v) (k:Gb y u):Gq (x++124 ::y) (altV v u) :=
 ⟨h.2 y u k.p,fun z t hz=>by
  rw [List.append_assoc,List.cons_append,altV_assoc]
  exact h.2 _ _ (k.alt hz)⟩
def parT (x:List Nat):List Nat:=40 ::(x++[41])
theorem Gp.par {x:List Nat} {v:Val} (h:Gp x v):Ga (parT x) v:=Ga.par h
theorem parT_lead (x:List Nat):Lead (parT x):=⟨40,_,rfl,by decide⟩
def atomT (j:Nat):List Nat:=[[97],[98],[99],[46],[91,97,98,93],[91,94,97,93],[91,97,45,99,93],[92,54,49],[92,46],[91,98,45,97,93],[92,48,48],[91,94,98,45,92,102,102,93],[45],[91,94,92,48,48,97,45,98,93],[126],[40,41]].getD j []
theorem atom_tab (j:Nat) (hj:j < 16):∃ u,Ga (atomT j) u∧u.2=1:=by
 have ga:Gy [97] (97:Nat):=Gy.plain (by decide) (by decide)
 have gb:Gy [98] (98:Nat):=Gy.plain (by decide) (by decide)
 have gc:Gy [99] (99:Nat):=Gy.plain (by decide) (by decide)
 have h:j=0∨j=1∨j=2∨j=3∨j=4∨j=5∨j=6∨j=7∨j=8∨j=9∨j=10∨j=11∨j=12∨j=13∨j=14∨j=15:=by omega
 rcases h with rfl | rfl | rfl | rfl | rfl | rfl | rfl | rfl | rfl | rfl | rfl | rfl | rfl | rfl | rfl | rfl
 ·exact ⟨_,Ga.plain (c:=97) (by decide),rfl⟩
 ·exact ⟨_,Ga.plain (c:=98) (by decide),rfl⟩
 ·exact ⟨_,Ga.plain (c:=99) (by decide),rfl⟩
 ·exact ⟨_,Ga.dot,rfl⟩
 ·exact ⟨_,Ga.set (Gm.cons ga (Gm.one gb)),rfl⟩
 ·exact ⟨_,Ga.not (Gm.one ga),rfl⟩
 ·exact ⟨_,Ga.set (Gm.two ga gc),rfl⟩
 ·exact ⟨_,Ga.esc (b:=97) (by decide),rfl⟩
 ·exact ⟨_,Ga.mark (c:=46) (by decide),rfl⟩
 ·exact ⟨_,Ga.set (Gm.two gb ga),rfl⟩
 ·exact ⟨_,Ga.esc (b:=0) (by decide),rfl⟩
 ·exact ⟨_,Ga.not (Gm.two gb (Gy.esc (b:=255) (by decide))),rfl⟩
 ·exact ⟨_,Ga.plain (c:=45) (by decide),rfl⟩
 ·exact ⟨_,Ga.not (Gm.cons (Gy.esc (b:=0) (by decide)) (Gm.two ga gb)),rfl⟩
 ·exact ⟨_,Ga.plain (c:=126) (by decide),rfl⟩
 ·exact ⟨_,Ga.par Gb.nil.p,rfl⟩
theorem atom_size (j:Nat) (hj:j < 16):(atomT j).length≤9:=by
 revert j;decide
set_option maxHeartbeats 1000000 in
theorem atom_any (w:World) (k:Nat) (hk:k≤1000) :
  Calls Tryz.prog 50 #[.int .i64 (k:Int)] w fun e w'=>(∃ q:ByteArray,e=.returned (.string q)∧bytesN q=atomT (k % 16))∧Below w.heap.size w w':=by
 have hkI:(k:Int)≤1000:=by omega
 obtain ⟨j,hj⟩:∃ j:Nat,j=k % 16:=⟨_,rfl⟩
 rw [←hj]
 have e1:(k:Int) % 16=(j:Int):=by omega
 have h:j=0∨j=1∨j=2∨j=3∨j=4∨j=5∨j=6∨j=7∨j=8∨j=9∨j=10∨j=11∨j=12∨j=13∨j=14∨j=15:=by omega
 have HB:=hide (fun o=>(Below.refl w.heap.size w).alloc (Nat.le_refl _) o)
 clear hk hj
 rcases h with rfl | rfl | rfl | rfl | rfl | rfl | rfl | rfl | rfl | rfl | rfl | rfl | rfl | rfl | rfl | rfl
 all_goals
  go_enter Tryz.func50,Tryz.ntmps50
  go_wp2
  go_ret
  exact ⟨⟨_,rfl,rfl⟩,by exact unhide HB _⟩
end Go.Proofs.YtobfpgoepaeknaaGreat
