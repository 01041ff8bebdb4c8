/-
  veil.Code, veil.Check.
-/
import Derived.Test.YtobfpgoepaeknaaGreatM27
namespace Go.Proofs.YtobfpgoepaeknaaGreat
namespace Mc
open Go.RowKit
attribute [local go_sem ↓] Go.wp_at_zero Go.wp_at_succ
theorem Tbs.up {w w':World} {g m:Nat} {ts:Nat→TabN} (h:Tbs w w.heap.size g m ts) (hb:Below w.heap.size w w'):Tbs w' w'.heap.size g m ts:=by
 refine ⟨fun j hj=>?_,Nat.lt_of_lt_of_le h.lt hb.size⟩
 obtain ⟨gv,nv,h1,h2⟩:=h.at_ j hj
 exact ⟨gv,nv,fun k v hv=>(Fr.ofBelow hb).cell (h1 k v hv) (by simp),h2.fr (Fr.ofBelow hb) (NoRows.nil _) hb.size⟩
def imV (x s:ByteArray):Bool:=trueF (imF x) (ruleT (bt x 3) (imT x) (btsN s))
def imTr (x:ByteArray):List Nat:=codeT 32 (bt x 2) (layP (imF x) (bt x 3) (imT x) (bt x 3))
def ChA (w w':World) (x s:ByteArray) (e:Ending):Prop :=
 (ImOk x∧s.size≤bt x 2∧∃ tv,e=.returned (.tuple #[.bool (imV x s),tv,.int .i64 0])∧NR w' w.heap.size tv (imTr x)) ∨
 (ImOk x∧bt x 2 < s.size∧e=.returned (.tuple #[.bool false,.slice none 0 0,.int .i64 1])) ∨
 (¬ImOk x∧e=.returned (.tuple #[.bool false,.slice none 0 0,.int .i64 7]))
set_option maxRecDepth 20000 in
set_option maxHeartbeats 1000000 in
theorem VCheck_any (w:World) (x s:ByteArray) (hx:x.size≤9223372036854775807) (hs:s.size≤9223372036854775807) :
  Calls Tryz.prog 16 #[.string x,.string s] w fun e w'=>Below w.heap.size w w'∧ChA w w' x s e:=by
 have HO:=hide (Open_any w x hx)
 have HS:=hide hs
 clear hx hs
 go_enter Tryz.func16,Tryz.ntmps16
 go_wp2_with fail
 refine (unhide HO).mono ?_
 rintro e w1 ⟨hb1,h⟩
 clear HO
 rcases h with ⟨hok,g,tc,rfl,htb⟩ | ⟨hno,rfl⟩
 ·have HB1:=hide hb1
  have HOK:=hide hok
  have HTB:Hid (Tbs (w1.alloc (.cells (imC (bt x 2) (imF x) (some ⟨g,0,none⟩) (bt x 3) tc) 76)) (w1.alloc (.cells (imC (bt x 2) (imF x) (some ⟨g,0,none⟩) (bt x 3) tc) 76)).heap.size g (bt x 3) (imT x)):=htb.up ((Below.refl _ _).alloc (Nat.le_refl _) _)
  have HIB:Hid (ImB (w1.alloc (.cells (imC (bt x 2) (imF x) (some ⟨g,0,none⟩) (bt x 3) tc) 76)) w1.heap.size (bt x 2) (imF x) (some ⟨g,0,none⟩) (bt x 3) tc):=⟨heap_alloc_new _ _⟩
  have HB2:Hid (Below w.heap.size w (w1.alloc (.cells (imC (bt x 2) (imF x) (some ⟨g,0,none⟩) (bt x 3) tc) 76))):=hb1.alloc hb1.size _
  clear hb1 hok htb
  unfold imC at *
  by_cases hl:s.size≤bt x 2
  ·have HL:=hide hl
   clear hl
   go_wp2_with fail
   refine (Check_ok _ w1.heap.size (bt x 2) (bt x 3) tc g (imF x) (imT x) (unhide HIB) (unhide HTB) (unhide HOK).r2 (by rw [imF_size (unhide HOK).fl];have:=(unhide HOK).f2;omega) (unhide HOK).n s (unhide HL)).mono ?_
   rintro e w3 ⟨tv,rfl,hb3,hd⟩
   have HB3:Hid (Below w.heap.size w w3):=(unhide HB2).trans (hb3.mono (unhide HB2).size)
   have HD3:Hid (NR w3 w.heap.size tv (imTr x)):=own_less hd (unhide HB2).size
   clear hb3 hd HB2 HIB HTB
   go_wp2_with fail
   refine bodyPost_ret (v:=.tuple #[.bool (imV x s),tv,.int .i64 0]) (by simp [results,Tryz.results16,go_sem,imV]) rfl ?_
   exact ⟨unhide HB3,.inl ⟨unhide HOK,unhide HL,tv,rfl,unhide HD3⟩⟩
  ·have HL:Hid (bt x 2 < s.size):=by show _ < _;omega
   clear hl
   go_wp2_with fail
   refine (Check_long _ w1.heap.size (bt x 2) (bt x 3) tc (imF x) _ (unhide HIB) (unhide HOK).n s (unhide HL) (unhide HS)).mono ?_
   rintro e w3 ⟨rfl,hb3⟩
   have HB3:Hid (Below w.heap.size w w3):=(unhide HB2).trans (hb3.mono (unhide HB2).size)
   clear hb3 HB2 HIB HTB
   go_wp2_with fail
   refine bodyPost_ret (v:=.tuple #[.bool false,.slice none 0 0,.int .i64 1]) (by simp [results,Tryz.results16,go_sem]) rfl ?_
   exact ⟨unhide HB3,.inr (.inl ⟨unhide HOK,unhide HL,rfl⟩)⟩
 ·have HB1:=hide hb1
  have HF:=hide hno
  clear hb1 hno
  unfold zIm at *
  go_wp2_with fail
  refine bodyPost_ret (v:=.tuple #[.bool false,.slice none 0 0,.int .i64 7]) (by simp [results,Tryz.results16,go_sem]) rfl ?_
  exact ⟨(unhide HB1).alloc (unhide HB1).size _,.inr (.inr ⟨unhide HF,rfl⟩)⟩
end Mc
end Go.Proofs.YtobfpgoepaeknaaGreat
