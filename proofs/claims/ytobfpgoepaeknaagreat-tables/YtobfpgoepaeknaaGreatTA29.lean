/-
  The law Tables.
-/
import Derived.Test.YtobfpgoepaeknaaGreatTA28
import Derived.Test.YtobfpgoepaeknaaGreatTA00
namespace Go.Proofs.YtobfpgoepaeknaaGreat
namespace Mc
open Go.RowKit
attribute [local go_sem ↓] Go.wp_at_zero Go.wp_at_succ
set_option maxRecDepth 20000 in
set_option maxHeartbeats 2000000 in
theorem RTable_bad (w:World) (p:ByteArray) (er pl:Int) (h0:er≠0) (hP:Calls Tryz.prog 21 #[.string p] w fun e w'=>e=.returned (.tuple #[.int .i64 er,.int .i64 pl])∧Below w.heap.size w w') :
  Calls Tryz.prog 7 #[.string p] w fun e w'=>e=.returned (.tuple #[.string ⟨#[]⟩,.int .i64 er])∧Below w.heap.size w w':=by
 have HP:=hide hP
 have h0':¬er=0:=h0
 clear hP h0
 go_enter Tryz.func7,Tryz.ntmps7
 go_wp2_with fail
 refine (unhide HP).mono ?_
 rintro e w1 ⟨rfl,hw1⟩
 have HB1:=hide hw1
 clear hw1 HP
 go_wp2_with fail
 go_ret2
 exact ⟨rfl,unhide HB1⟩
theorem tbl_same {e e':Ending} {L:List Nat→Prop} (h:TblOk e L) (h':TblOk e' L):e=e'∧∃ s er,e=.returned (.tuple #[.string s,.int .i64 er]):=by
 have key:∀ {e},TblOk e L→∃ x er,e=.returned (.tuple #[.string (strN x),.int .i64 er])∧TabAns L x er:=by
  rintro e (⟨S,C,nx,gr,cl,nc,rfl,ht⟩ | ⟨rfl,hm⟩)
  ·exact ⟨_,0,rfl,.inl ⟨rfl,S,C,nx,gr,cl,nc,ht,rfl⟩⟩
  ·exact ⟨[],3,rfl,.inr ⟨rfl,rfl,hm⟩⟩
 obtain ⟨x,er,rfl,hx⟩:=key h
 obtain ⟨x',er',rfl,hx'⟩:=key h'
 obtain ⟨rfl,rfl⟩:=hx.unique hx'
 exact ⟨rfl,_,_,rfl⟩
theorem tables_of (p:ByteArray) (w:World):Calls Tryz.prog 6 #[.string p] w fun e w'=>Below w.heap.size w w'∧∃ s er,e=.returned (.tuple #[.string s,.int .i64 er])∧∀ w1,Calls Tryz.prog 7 #[.string p] w1 fun e w'=>e=.returned (.tuple #[.string s,.int .i64 er])∧Below w1.heap.size w1 w':=by
 by_cases hp:p.size≤60
 ·refine (VTable_any w p hp).mono ?_
  rintro e w' ⟨hw',y,i,hr,hbad,hgood⟩
  refine ⟨hw',?_⟩
  have hro:=refOk_all p y i hp hr
  by_cases h0:(readErr p y).1=0
  ·obtain ⟨R,n,rs,k,S,f1,f2,f3,f4,f5,hT⟩:=hgood h0
   obtain ⟨n',rs',k',S',g1,g2,g3⟩:=read_okV hp hr h0
   have hsame:=rf_same f3 g1
   simp only [Prod.mk.injEq] at hsame
   obtain ⟨rfl,rfl⟩:=hsame
   have e1:S=S':=Dr.same f4 g2
   subst e1
   rw [f5] at hT
   obtain ⟨-,s,er,rfl⟩:=tbl_same hT hT
   refine ⟨s,er,rfl,fun w1=>(RTable_ok w1 p y hp hro h0 g1 g2 g3).mono ?_⟩
   rintro e2 w2 ⟨hw2,hT2⟩
   exact ⟨(tbl_same hT2 hT).1,hw2⟩
  ·exact ⟨_,_,hbad h0,fun w1=>RTable_bad w1 p _ _ h0 (RefPattern_any w1 p y hp hro)⟩
 ·refine (VTable_long w p (by omega)).mono ?_
  rintro e w' ⟨rfl,hw'⟩
  exact ⟨hw',_,_,rfl,fun w1=>RTable_bad w1 p 1 0 (by decide) (RefPattern_long w1 p (by omega))⟩
set_option maxRecDepth 20000 in
set_option maxHeartbeats 2000000 in
theorem Tables_of (p:ByteArray) (w:World) :
  Calls Tryz.prog 3 #[.string p] w fun e w'=>e=.returned (.bool true)∧Below w.heap.size w w':=by
 have HT:=hide (tables_of p w)
 go_enter Tryz.func3,Tryz.ntmps3
 go_wp2_with fail
 refine (unhide HT).mono ?_
 rintro e w1 ⟨hw1,s,er,rfl,hr⟩
 have HB1:=hide hw1
 have HR:=hide (hr w1)
 clear HT hw1 hr
 go_wp2_with fail
 refine (unhide HR).mono ?_
 rintro e w2 ⟨rfl,hw2⟩
 have HB2:=hide (below_trans' (unhide HB1) hw2)
 clear hw2 HB1 HR
 go_wp2_with (go_at_call 8;refine (num_any _ _).mono ?_;rintro e w' ⟨rfl,rfl⟩)
 all_goals go_ret
 all_goals exact ⟨by first | rfl | exact ret_bool (by simp),unhide HB2⟩
end Mc
end Go.Proofs.YtobfpgoepaeknaaGreat
