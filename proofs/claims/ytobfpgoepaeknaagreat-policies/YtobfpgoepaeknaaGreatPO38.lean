/-
  The law Tables.
  The document's answer: a table, by what is to be answered.
-/
import Derived.Test.YtobfpgoepaeknaaGreatPO37
import Derived.Test.YtobfpgoepaeknaaGreatPO04
import Derived.Test.YtobfpgoepaeknaaGreatPO19
namespace Go.Proofs.YtobfpgoepaeknaaGreat
namespace Mc
open Go.RowKit
attribute [local go_sem ↓] Go.wp_at_zero Go.wp_at_succ
set_option maxRecDepth 20000 in
set_option maxHeartbeats 2000000 in
theorem RTable_bad (w:World) (p:ByteArray) (er pl:Int) (h0:er≠0) (hP:Calls Tryz.prog 21 #[.string p] w fun e w'=>e=.returned (.tuple #[.int .i64 er,.int .i64 pl])∧Below w.heap.size w w') :
  Calls Tryz.prog 7 #[.string p] w fun e w'=>e=.returned (.tuple #[.string ⟨#[]⟩,.int .i64 er])∧Below w.heap.size w w':=by
 have HP:=hide hP
 have h0':¬er=0:=h0
 clear hP h0
 go_enter Tryz.func7,Tryz.ntmps7
 go_wp2_with fail
 refine (unhide HP).mono ?_
 rintro e w1 ⟨rfl,hw1⟩
 have HB1:=hide hw1
 clear hw1 HP
 go_wp2_with fail
 go_ret2
 exact ⟨rfl,unhide HB1⟩
theorem tbl_same {e e':Ending} {L:List Nat→Prop} (h:TblOk e L) (h':TblOk e' L):e=e'∧∃ s er,e=.returned (.tuple #[.string s,.int .i64 er]):=by
 have key:∀ {e},TblOk e L→∃ x er,e=.returned (.tuple #[.string (strN x),.int .i64 er])∧TabAns L x er:=by
  rintro e (⟨S,C,nx,gr,cl,nc,rfl,ht⟩ | ⟨rfl,hm⟩)
  ·exact ⟨_,0,rfl,.inl ⟨rfl,S,C,nx,gr,cl,nc,ht,rfl⟩⟩
  ·exact ⟨[],3,rfl,.inr ⟨rfl,rfl,hm⟩⟩
 obtain ⟨x,er,rfl,hx⟩:=key h
 obtain ⟨x',er',rfl,hx'⟩:=key h'
 obtain ⟨rfl,rfl⟩:=hx.unique hx'
 exact ⟨rfl,_,_,rfl⟩
end Mc
end Go.Proofs.YtobfpgoepaeknaaGreat
namespace Go.Proofs.YtobfpgoepaeknaaGreat
namespace Mc
open Go.RowKit
theorem RTable_P {p t:ByteArray} {er:Int} (h:PatA p t er) (w:World) :
  Calls Tryz.prog 7 #[.string p] w fun e w'=>e=.returned (.tuple #[.string t,.int .i64 er])∧Below w.heap.size w w':=by
 rcases h with ⟨hp,rfl,rfl⟩ | ⟨hp,y,i,hr,⟨h0,rfl,rfl⟩ | ⟨h0,n,rs,k,S,x,g1,g2,g3,rfl,hT⟩⟩
 ·exact RTable_bad w p 1 0 (by decide) (RefPattern_long w p hp)
 ·exact RTable_bad w p _ _ h0 (RefPattern_any w p y hp (refOk_all p y i hp hr))
 ·refine (RTable_ok w p y hp (refOk_all p y i hp hr) h0 g1 g2 g3).mono ?_
  rintro e w2 ⟨hw2,hT2⟩
  refine ⟨?_,hw2⟩
  have hT3:TblOk (.returned (.tuple #[.string (strN x),.int .i64 er])) S.L:=by
   rcases hT with ⟨rfl,S',C,nx,gr,cl,nc,ht,rfl⟩ | ⟨rfl,rfl,hm⟩
   ·exact .inl ⟨S',C,nx,gr,cl,nc,rfl,ht⟩
   ·exact .inr ⟨rfl,hm⟩
  exact (tbl_same hT2 hT3).1
end Mc
end Go.Proofs.YtobfpgoepaeknaaGreat
