/-
  table.Table.Bytes: the walk.
-/
import Derived.Test.YtobfpgoepaeknaaT28
namespace Go.Proofs.Ytobfpgoepaeknaa
open Go.RowKit
attribute [local go_sem ↓] Go.wp_at_zero Go.wp_at_succ

set_option maxRecDepth 20000 in
set_option maxHeartbeats 4000000 in
theorem TBytes_any (w : World) (gt : Nat) (cl : Nat → Nat) (C : Nat) (bs : List Bool) (ns : List Nat) (h : TabB w gt cl C bs ns) (hC : C ≤ 24) (hS : bs.length ≤ 24) (hcl : ∀ b, b < 256 → cl b < 256) (hns : ∀ x ∈ ns, x < 256) (hnl : ns.length ≤ 1000) :
    Calls Try.prog 34 #[.pointer (some ⟨gt, 0, none⟩)] w fun e w' => e = .returned (.string (strN (bytesT bs.length C cl bs ns))) ∧ Below w.heap.size w w' := by
  obtain ⟨gv, nv, h1, h2, h3⟩ := h.ex
  obtain ⟨ga, gc, rfl⟩ := h2.form
  obtain ⟨na, nc, rfl⟩ := h3.form
  have HT1 := hide h1
  have HG := hide h2
  have HN := hide h3
  have c256 : w.cell? ⟨gt, 256, none⟩ = some (.int .i64 (C : Int)) := by rw [cell_of_row _ _ _ _ _ _ h1, tabA_256]
  have c257 : w.cell? ⟨gt, 257, none⟩ = some (.slice ga bs.length gc) := by rw [cell_of_row _ _ _ _ _ _ h1, tabA_257]
  have hw1 := wrapB C (by omega)
  have hw2 := wrapB bs.length (by omega)
  have hCI : (C : Int) ≤ 24 := by omega
  have hSI : (bs.length : Int) ≤ 24 := by omega
  have hnI : (ns.length : Int) ≤ 1000 := by omega
  have HC := hide hC
  have HS := hide hS
  have HCL := hide hcl
  have HNS := hide hns
  have HNL := hide hnl
  obtain ⟨i, i0, i1, i2, i3⟩ := info_of infoU8
  have HI := hide (And.intro i0 (And.intro i1 (And.intro i2 i3)))
  have H0 : Hid (ByI w (w.alloc (.cells #[.int .u8 ((bs.length : Nat) : Int), .int .u8 (C : Int)] 5)) (.slice (some ⟨w.heap.size, 0, none⟩) 2 2) [bs.length, C]) := by
    refine ⟨(Below.refl _ _).alloc (Nat.le_refl _) _, ?_⟩
    exact ⟨rfl, .inr ⟨_, 2, _, rfl, Nat.le_refl _, heap_alloc_new _ _, Nat.le_refl _, by unfold maxLen; omega, rfl, rfl⟩⟩
  clear i0 i1 i2 i3 h h1 h2 h3 hC hS hcl hns hnl
  go_enter Try.func34, Try.ntmps34
  go_upto_region 1 with fail
  go_cut [3] (fun tv wx => ∃ ta tc, tv = .slice ta 2 tc ∧ Hid (ByI w wx (.slice ta 2 tc) [bs.length, C]))
  case first =>
    go_region
    all_goals
      go_wp2_with fail
      go_meet
      exact ⟨_, _, rfl, (unhide H0).below.drew, (unhide H0).row⟩
  case rest =>
    rename World => w1
    obtain ⟨ta0, tc0, rfl, HC1⟩ := hcut
    clear H0 c256 c257 hw1 hw2
    go_wp2_with fail
    go_loopw [3, 4] (fun tv bx wr => ∃ (b : Nat) (xs : List Nat) (ta : Option Addr) (tc : Nat), tv = .slice ta xs.length tc ∧ bx = .int .i64 (b : Int) ∧ Hid (b ≤ 256 ∧ xs = [bs.length, C] ++ (List.range b).map cl ∧ ByI w wr (.slice ta xs.length tc) xs)) (fun _ bx _ => left256 bx)
    case atStart => exact ⟨0, [bs.length, C], ta0, tc0, rfl, rfl, Nat.zero_le _, rfl, unhide HC1⟩
    case round =>
      clear HC1
      rename World => wr
      obtain ⟨b, xs, ta, tc, rfl, rfl, HH⟩ := hrel
      obtain ⟨hb, hxs, hI⟩ := unhide HH
      have hT : wr.heap[gt]? = _ := (hI.below.block _ (Array.getElem?_eq_some_iff.1 (unhide HT1)).1).trans (unhide HT1)
      have HXS := hide hxs
      have HI1 := hide hI
      have HSZ : Hid (w.heap.size ≤ wr.heap.size) := hI.below.size
      by_cases hlt : b < 256
      · have hbI : (b : Int) < 256 := by omega
        have HLT := hide hlt
        have HXL : Hid (xs.length ≤ 300) := by rw [hxs]; simp [Hid]; omega
        have y0 : wr.cell? ⟨gt, b, none⟩ = some (.int .i64 ((cl b : Nat) : Int)) := by rw [cell_of_row _ _ _ _ _ _ hT, tabA_b _ _ _ _ hlt]
        have hgt : gt < wr.heap.size := (Array.getElem?_eq_some_iff.1 hT).1
        have hw := wrapB (cl b) (unhide HCL b hlt)
        have HO2 := hide (World.ownsRow.alloc hI.row (Obj.cells #[.int .u8 ((cl b : Nat) : Int)] 5))
        have HSN : Hid (xs ++ [cl b] = [bs.length, C] ++ (List.range (b + 1)).map cl) := by rw [hxs, map_snoc, List.append_assoc]; exact rfl
        generalize cl b = y at *
        clear hlt hb hxs hI hT HH
        go_wp2_with (at_builtin; refine wpList_append_own _ rfl (.tmp 24) (.tmp 32) 33 rfl w.heap.size 5 i (.int .u8 0) 1 1 Try.underlying33 (unhide HI).1 (unhide HI).2.1 (unhide HI).2.2.1 (unhide HI).2.2.2 rfl (by decide) _ _ _ rfl (unhide HO2) ⟨wr.heap.size, 0, none⟩ 1 1 [.int .u8 (y : Int)] rfl rfl (cell_one_new _ _ _) (by intro u hu; simp at hu; subst hu; rfl) (by have := unhide HXL; unfold maxLen; omega) (by have := unhide HXL; omega) (by have := unhide HSZ; simp; omega) ?_; intro v' w3 ho3 hg3 _; have HNW := hide (ByI.grown (unhide HI1) hg3 ho3); obtain ⟨g3, cap3, rfl⟩ := own_slice' ho3 (by omega); clear ho3 hg3)
        go_roundw
        case rel => exact ⟨b + 1, xs ++ [y], some ⟨g3, 0, none⟩, cap3, by simp, by go_num, unhide HLT, unhide HSN, by simpa using unhide HNW⟩
        case measure => have := unhide HLT; simp [left256, intOf]; omega
      · have hb2 : b = 256 := by omega
        subst hb2
        clear hlt hb hI hT HH hxs
        go_wp2_with fail
        go_loopw [3, 5] (fun tv kx wr => ∃ (k : Nat) (xs : List Nat) (ta : Option Addr) (tc : Nat), tv = .slice ta xs.length tc ∧ kx = .int .i64 (k : Int) ∧ Hid (k ≤ bs.length ∧ xs = [bs.length, C] ++ (List.range 256).map cl ++ (bs.take k).map bitN ∧ ByI w wr (.slice ta xs.length tc) xs)) (fun _ kx _ => bs.length - (intOf kx).toNat)
        case atStart => exact ⟨0, xs, ta, tc, rfl, rfl, Nat.zero_le _, by rw [unhide HXS]; simp, unhide HI1⟩
        case round =>
          clear HI1 HXS HSZ
          rename World => wr
          obtain ⟨k, xs, ta, tc, rfl, rfl, HH⟩ := hrel
          obtain ⟨hk, hxs, hI⟩ := unhide HH
          have hT : wr.heap[gt]? = _ := (hI.below.block _ (Array.getElem?_eq_some_iff.1 (unhide HT1)).1).trans (unhide HT1)
          have y0 : wr.cell? ⟨gt, 257, none⟩ = some (.slice ga bs.length gc) := by rw [cell_of_row _ _ _ _ _ _ hT, tabA_257]
          have HXS := hide hxs
          have HI1 := hide hI
          have HSZ : Hid (w.heap.size ≤ wr.heap.size) := hI.below.size
          by_cases hlt : k < bs.length
          · have hkI : (k : Int) < (bs.length : Int) := by omega
            have HLT := hide hlt
            have HXL : Hid (xs.length ≤ 300) := by rw [hxs]; simp [Hid]; have := unhide HS; omega
            obtain ⟨gg, cg, he, hx⟩ := ((unhide HG).below hI.below).at hlt
            have hgg : gg < wr.heap.size := by
              rw [he] at HG
              exact (((unhide HG).below hI.below).lt gg rfl).2
            simp only [Value.slice.injEq, true_and] at he
            obtain ⟨rfl, rfl⟩ := he
            have hgt : gt < wr.heap.size := (Array.getElem?_eq_some_iff.1 hT).1
            have HSN : Hid (∀ y, y = bitN (bs.getD k false) → xs ++ [y] = [bs.length, C] ++ (List.range 256).map cl ++ (bs.take (k + 1)).map bitN) := fun y hy => by rw [hxs, take_snoc bs false hlt, List.map_append, ← List.append_assoc, hy]; rfl
            have HO2 := hide (fun y : Int => World.ownsRow.alloc hI.row (Obj.cells #[.int .u8 y] 5))
            clear hlt hk hxs hI hT HH
            generalize bs.getD k false = q at *
            cases q
            · have HO2 := hide (unhide HO2 0)
              go_wp2_with (at_builtin; refine wpList_append_own _ rfl (.tmp 50) (.tmp 52) 33 rfl w.heap.size 5 i (.int .u8 0) 1 1 Try.underlying33 (unhide HI).1 (unhide HI).2.1 (unhide HI).2.2.1 (unhide HI).2.2.2 rfl (by decide) _ _ _ rfl (unhide HO2) ⟨wr.heap.size, 0, none⟩ 1 1 [.int .u8 0] rfl rfl (cell_one_new _ _ _) (by intro u hu; simp at hu; subst hu; rfl) (by have := unhide HXL; unfold maxLen; omega) (by have := unhide HXL; omega) (by have := unhide HSZ; simp; omega) ?_; intro v' w3 ho3 hg3 _; have HNW := hide (ByI.grown (unhide HI1) hg3 ho3); obtain ⟨g3, cap3, rfl⟩ := own_slice' ho3 (by omega); clear ho3 hg3)
              go_roundw
              case rel =>
                  repeat apply Exists.intro
                  exact ⟨⟨k + 1, xs ++ [0], some ⟨g3, 0, none⟩, cap3, by simp, by go_num, unhide HLT, unhide HSN 0 rfl, by simpa using unhide HNW⟩, rfl⟩
              case measure => have := unhide HLT; simp [intOf]; omega
            · have HO2 := hide (unhide HO2 1)
              go_wp2_with (at_builtin; refine wpList_append_own _ rfl (.tmp 50) (.tmp 52) 33 rfl w.heap.size 5 i (.int .u8 0) 1 1 Try.underlying33 (unhide HI).1 (unhide HI).2.1 (unhide HI).2.2.1 (unhide HI).2.2.2 rfl (by decide) _ _ _ rfl (unhide HO2) ⟨wr.heap.size, 0, none⟩ 1 1 [.int .u8 1] rfl rfl (cell_one_new _ _ _) (by intro u hu; simp at hu; subst hu; rfl) (by have := unhide HXL; unfold maxLen; omega) (by have := unhide HXL; omega) (by have := unhide HSZ; simp; omega) ?_; intro v' w3 ho3 hg3 _; have HNW := hide (ByI.grown (unhide HI1) hg3 ho3); obtain ⟨g3, cap3, rfl⟩ := own_slice' ho3 (by omega); clear ho3 hg3)
              go_roundw
              case rel =>
                  repeat apply Exists.intro
                  exact ⟨⟨k + 1, xs ++ [1], some ⟨g3, 0, none⟩, cap3, by simp, by go_num, unhide HLT, unhide HSN 1 rfl, by simpa using unhide HNW⟩, rfl⟩
              case measure => have := unhide HLT; simp [intOf]; omega
          · have hk2 : k = bs.length := by omega
            subst hk2
            have HXS2 : Hid (xs = [bs.length, C] ++ (List.range 256).map cl ++ bs.map bitN) := by rw [hxs, List.take_length]; exact rfl
            clear hlt hk hxs hI hT HH HXS
            go_wp2_with fail
            go_loopw [3, 7] (fun tv kx wr => ∃ (k : Nat) (xs : List Nat) (ta : Option Addr) (tc : Nat), tv = .slice ta xs.length tc ∧ kx = .int .i64 (k : Int) ∧ Hid (k ≤ ns.length ∧ xs = [bs.length, C] ++ (List.range 256).map cl ++ bs.map bitN ++ ns.take k ∧ ByI w wr (.slice ta xs.length tc) xs)) (fun _ kx _ => ns.length - (intOf kx).toNat)
            case atStart => exact ⟨0, xs, ta, tc, rfl, rfl, Nat.zero_le _, by rw [unhide HXS2]; simp, unhide HI1⟩
            case round =>
              clear HI1 HXS2 HSZ y0
              rename World => wr
              obtain ⟨k, xs, ta, tc, rfl, rfl, HH⟩ := hrel
              obtain ⟨hk, hxs, hI⟩ := unhide HH
              have hT : wr.heap[gt]? = _ := (hI.below.block _ (Array.getElem?_eq_some_iff.1 (unhide HT1)).1).trans (unhide HT1)
              have y0 : wr.cell? ⟨gt, 258, none⟩ = some (.slice na ns.length nc) := by rw [cell_of_row _ _ _ _ _ _ hT, tabA_258]
              have HI1 := hide hI
              have HSZ : Hid (w.heap.size ≤ wr.heap.size) := hI.below.size
              by_cases hlt : k < ns.length
              · have hkI : (k : Int) < (ns.length : Int) := by omega
                have HLT := hide hlt
                have HXL : Hid (xs.length ≤ 2000) := by rw [hxs]; simp [Hid]; have := unhide HS; have := unhide HNL; omega
                obtain ⟨gg, cg, he, hx⟩ := ((unhide HN).below hI.below).at hlt
                have hgg : gg < wr.heap.size := by
                  rw [he] at HN
                  exact (((unhide HN).below hI.below).lt gg rfl).2
                simp only [Value.slice.injEq, true_and] at he
                obtain ⟨rfl, rfl⟩ := he
                have hgt : gt < wr.heap.size := (Array.getElem?_eq_some_iff.1 hT).1
                have hy : ns.getD k 0 < 256 := by
                  rw [List.getD_eq_getElem?_getD, List.getElem?_eq_getElem hlt]; exact unhide HNS _ (List.getElem_mem _)
                have hw := wrapB _ hy
                have HSN : Hid (xs ++ [ns.getD k 0] = [bs.length, C] ++ (List.range 256).map cl ++ bs.map bitN ++ ns.take (k + 1)) := by rw [hxs, take_snoc ns 0 hlt, ← List.append_assoc]; exact rfl
                have HO2 := hide (World.ownsRow.alloc hI.row (Obj.cells #[.int .u8 ((ns.getD k 0 : Nat) : Int)] 5))
                clear hlt hk hxs hI hT HH hy
                generalize ns.getD k 0 = y at *
                go_wp2_with (at_builtin; refine wpList_append_own _ rfl (.tmp 63) (.tmp 72) 33 rfl w.heap.size 5 i (.int .u8 0) 1 1 Try.underlying33 (unhide HI).1 (unhide HI).2.1 (unhide HI).2.2.1 (unhide HI).2.2.2 rfl (by decide) _ _ _ rfl (unhide HO2) ⟨wr.heap.size, 0, none⟩ 1 1 [.int .u8 (y : Int)] rfl rfl (cell_one_new _ _ _) (by intro u hu; simp at hu; subst hu; rfl) (by have := unhide HXL; unfold maxLen; omega) (by have := unhide HXL; omega) (by have := unhide HSZ; simp; omega) ?_; intro v' w3 ho3 hg3 _; have HNW := hide (ByI.grown (unhide HI1) hg3 ho3); obtain ⟨g3, cap3, rfl⟩ := own_slice' ho3 (by omega); clear ho3 hg3)
                go_roundw
                case rel =>
                  repeat apply Exists.intro
                  exact ⟨⟨k + 1, xs ++ [y], some ⟨g3, 0, none⟩, cap3, by simp, by go_num, unhide HLT, unhide HSN, by simpa using unhide HNW⟩, rfl⟩
                case measure => have := unhide HLT; simp [intOf]; omega
              · have hk2 : k = ns.length := by omega
                subst hk2
                have hxe : xs = bytesT bs.length C cl bs ns := by rw [hxs, List.take_length]; rfl
                have hpos : 0 < xs.length := by rw [hxs]; simp
                obtain ⟨gg, cg, he⟩ := own_slice' hI.row hpos
                simp only [Value.slice.injEq, true_and] at he
                obtain ⟨rfl, rfl⟩ := he
                have hxb : ∀ x ∈ xs, x < 256 := fun x hx => by
                  rw [hxe] at hx
                  unfold bytesT at hx
                  have h1 := unhide HC
                  have h2 := unhide HS
                  rcases List.mem_append.1 hx with hx | hx
                  · rcases List.mem_append.1 hx with hx | hx
                    · rcases List.mem_append.1 hx with hx | hx
                      · simp at hx; omega
                      · obtain ⟨b, hb, rfl⟩ := List.mem_map.1 hx
                        exact unhide HCL b (List.mem_range.1 hb)
                    · obtain ⟨b, hb, rfl⟩ := List.mem_map.1 hx
                      cases b <;> simp [bitN]
                  · exact unhide HNS x hx
                have hcv := conv_row hI.row hxb
                have HXE := hide hxe
                clear hlt hk hxs hI hT HH hxe hpos hxb
                go_wp2_with fail
                go_ret
                exact ⟨by rw [unhide HXE]; rfl, (unhide HI1).below⟩

end Go.Proofs.Ytobfpgoepaeknaa
