/-
  veilref: Reach.all.
-/
import Derived.Test.YtnkdbcicphnmiaaDb
import Derived.Test.YtnkdbcicphnmiaaT22
namespace Go.Proofs.Ytnkdbcicphnmiaa
namespace Mc
open Go.RowKit
attribute [local go_sem ↓] Go.wp_at_zero Go.wp_at_succ

/-- A tuple's row in the making. -/
structure RowI (w : World) (gr : Nat) (wr : World) (tv : Value) (m : Nat) (ts : Nat → TabN) (i b : Nat) (σ : List Nat) (va : Option Addr) (vc : Nat) (row : List Nat) (fa : Option Addr) (fc : Nat) (F : List (List Nat)) (us : List Value) (na : Option Addr) (nc : Nat) (Nx : List (List Nat)) (ns : List Value) : Prop where
  re : ReI w gr wr tv fa fc F us na nc Nx ns
  dl : DlS m ts F i b
  few : F.length ≤ 256
  at_ : F[i]? = some σ
  nx : NxOk m ts F Nx
  nl : Nx.length = i
  rwm : NR wr w.heap.size (.slice va row.length vc) row
  rk : RwOk m ts F σ row
  s1 : Sep (.slice va row.length vc) us
  s2 : Sep (.slice va row.length vc) ns
section
variable {w : World} {gr : Nat} {wr w1 w2 : World} {tv : Value} {m : Nat} {ts : Nat → TabN} {i b : Nat} {σ : List Nat} {va : Option Addr} {vc : Nat} {row : List Nat} {fa : Option Addr} {fc : Nat} {F : List (List Nat)} {us : List Value} {na : Option Addr} {nc : Nat} {Nx : List (List Nat)} {ns : List Value}
theorem ReI.noI (h : ReI w gr wr tv fa fc F us na nc Nx ns) : NoI wr (gr :: (Value.slice fa F.length fc).ownBlock.toList) := fun q hq => by
  rcases List.mem_cons.1 hq with rfl | hq
  · exact noI_gr h.im q (by simp)
  · exact h.noI1 q hq
/-- A tuple is numbered. -/
theorem RowI.num (h : RowI w gr wr tv m ts i b σ va vc row fa fc F us na nc Nx ns) (hb : b < 256) {ua : Option Addr} {uc : Nat} (hn : NrI wr w1 ua uc (stpT m ts σ b)) {k : Nat} {F' : List (List Nat)} {us' : List Value} {fa' : Option Addr} {fc' : Nat} (hk : F'[k]? = some (stpT m ts σ b)) (hre : ReI w gr w2 tv fa' fc' F' us' na nc Nx ns) (hfr : Fr (gr :: (Value.slice fa F.length fc).ownBlock.toList) w1 w2) (hF : (F' = F ∧ us' = us) ∨ (F' = F ++ [stpT m ts σ b] ∧ us' = us ++ [.slice ua (stpT m ts σ b).length uc] ∧ ∀ k : Nat, F[k]? ≠ some (stpT m ts σ b))) :
    F'.length ≤ 257 ∧ DlS m ts F' i (b + 1) ∧ (F'.length ≤ 256 → RowI w gr w2 tv m ts i (b + 1) σ va vc row fa' fc' F' us' na nc Nx ns) := by
  have hrow : NR w2 w.heap.size (.slice va row.length vc) row := NR.fr ((Fr.ofBelow hn.below).own h.rwm (by simp)) hfr (h.re.next hn.below).noI
  rcases hF with ⟨rfl, rfl⟩ | ⟨rfl, rfl, hno⟩
  · have hd := h.dl.old h.at_ hb hk
    exact ⟨by have := h.few; omega, hd, fun hl => ⟨hre, hd, hl, h.at_, h.nx, h.nl, hrow, h.rk, h.s1, h.s2⟩⟩
  · have hd := h.dl.new h.at_ hb hno
    refine ⟨by have := h.few; simp; omega, hd, fun hl => ⟨hre, hd, hl, snoc_left h.at_, h.nx.more (by have := (List.getElem?_eq_some_iff.1 h.at_).1; have := h.nl; omega) _, h.nl, hrow, h.rk.more _, h.s1.snoc (fun q hq hq' => ?_), h.s2⟩⟩
    have h1 := (World.ownsRow.lt hn.row q hq).1
    have h2 := (World.ownsRow.lt h.rwm q hq').2
    omega
/-- A number is put behind the row. -/
theorem RowI.push (h : RowI w gr wr tv m ts i (b + 1) σ va vc row fa fc F us na nc Nx ns) (hl : row.length = b) {k g cap : Nat} (hk : F[k]? = some (stpT m ts σ b)) (hgrow : wr.grownBy w2 (.slice va row.length vc : Value).ownBlock) (ho : w2.ownsRow w.heap.size 3 1 (.slice (some ⟨g, 0, none⟩) (row.length + 1) cap) (row.length + 1) (ncs row ++ [.int .i64 (k : Int)])) (hlies : (Value.slice va row.length vc).ownBlock = some g ∨ g = wr.heap.size) : RowI w gr w2 tv m ts i (b + 1) σ (some ⟨g, 0, none⟩) cap (row ++ [k]) fa fc F us na nc Nx ns := by
  have e : (row ++ [k]).length = row.length + 1 := by simp
  refine ⟨h.re.grow h.rwm (Nat.le_refl _) h.s1 h.s2 hgrow, h.dl, h.few, h.at_, h.nx, h.nl, by rw [e]; exact NR.of ho, h.rk.snoc (by rw [hl]; exact hk), by rw [e]; exact Sep.grow h.re.tr h.s1 hlies, by rw [e]; exact Sep.grow h.re.nr h.s2 hlies⟩
theorem RowI.alloc (h : RowI w gr wr tv m ts i b σ va vc row fa fc F us na nc Nx ns) (o : Obj) : RowI w gr (wr.alloc o) tv m ts i b σ va vc row fa fc F us na nc Nx ns := ⟨h.re.alloc o, h.dl, h.few, h.at_, h.nx, h.nl, (Fr.ofAlloc wr o).own h.rwm (by simp), h.rk, h.s1, h.s2⟩
end
/-- What all answers. -/
def RaA (w : World) (gr : Nat) (w' : World) (tv : Value) (m : Nat) (ts : Nat → TabN) (e : Ending) : Prop :=
  (∃ fa fc F us na nc Nx ns, e = .returned (.bool true) ∧ ReI w gr w' tv fa fc F us na nc Nx ns ∧ DlS m ts F F.length 0 ∧ F.length ≤ 256 ∧ Nx.length = F.length ∧ NxOk m ts F Nx) ∨
  (Many (stT m ts) ∧ e = .returned (.bool false) ∧ Fr [gr] w w')
set_option maxRecDepth 20000 in
set_option maxHeartbeats 4000000 in
theorem rall_any (w : World) (gr gt m tc : Nat) (tb : Nat → ByteArray) (ts : Nat → TabN) (hT : TbD m tb ts) (h1 : 1 ≤ m) (h8 : m ≤ 8) (him : w.heap[gr]? = some (.cells #[.slice (some ⟨gt, 0, none⟩) m tc, .slice none 0 0, .slice none 0 0] 90 (0, 0))) (hgt : gt ≠ gr) (hct : ∀ i, i < m → w.cell? ⟨gt, i, none⟩ = some (.string (tb i))) :
    Calls Try.prog 46 #[.pointer (some ⟨gr, 0, none⟩)] w fun e w' => RaA w gr w' (.slice (some ⟨gt, 0, none⟩) m tc) m ts e := by
  have HT := hide hT
  have H1 := hide h1
  have H8 := hide h8
  have HR0 := hide (ReI.start him)
  have HGT := hide hgt
  have HCT := hide hct
  have hmI : (m : Int) ≤ 8 := by omega
  clear hT h1 h8 him hgt hct
  go_enter Try.func46, Try.ntmps46
  go_wp2_with fail
  go_loopw [3, 4] (fun vx ix wr => ∃ (i : Nat) (va : Option Addr) (vc : Nat), vx = .slice va i vc ∧ ix = .int .i64 (i : Int) ∧ Hid (i ≤ m ∧ NrI w wr va vc (List.replicate i 0))) (fun _ ix _ => lenLeft m ix)
  case atStart => exact ⟨0, none, 0, rfl, rfl, Nat.zero_le _, NrI.start w⟩
  case round =>
    rename World => wr
    obtain ⟨i, va, vc, rfl, rfl, HH⟩ := hrel
    obtain ⟨hi, hI⟩ := unhide HH
    clear HH
    have c0 := below_cell hI.below (unhide HR0).c0
    have hgr : gr < wr.heap.size := World.block_lt_of_cell? wr ⟨gr, 0, none⟩ c0
    by_cases hlt : i < m
    · have hiI : (i : Int) < (m : Int) := by omega
      have HLT := hide hlt
      have HSZ : Hid (w.heap.size ≤ wr.heap.size) := hI.below.size
      have HXA := hide (hI.alloc (Obj.cells #[.int .i64 0] 3))
      have HSN : Hid (List.replicate (i + 1) 0 = List.replicate i 0 ++ [0]) := List.replicate_succ'
      have HLN : Hid ((List.replicate i 0).length = i) := List.length_replicate
      clear hlt hi hI
      generalize List.replicate i 0 = xs at *
      have hxl := unhide HLN
      subst hxl
      go_wp2_with (at_builtin; refine app1 rfl (.tmp 19) (.tmp 20) rfl w.heap.size _ xs rfl (unhide HXA).row wr.heap.size 0 rfl (new_cell rfl) (by have := unhide HLT; have := unhide H8; omega) (by have := unhide HSZ; simp; omega) (wr.heap.size + 1) (by simp) ?_; intro g5 cap5 w8 ho hgrow hlies hlt5; have HP9 := hide ((unhide HXA).push hgrow ho); clear ho hgrow hlies)
      go_roundw
      case rel => exact ⟨xs.length + 1, some ⟨g5, 0, none⟩, cap5, rfl, by go_num, unhide HLT, by rw [unhide HSN]; exact unhide HP9⟩
      case measure => have := unhide HLT; simp [lenLeft, intOf]; omega
    · have hi2 : i = m := by omega
      subst hi2
      have HRE := hide ((unhide HR0).next hI.below)
      have hz : NR wr w.heap.size (.slice va i vc) (List.replicate i 0) := by have := hI.row; rwa [List.length_replicate] at this
      have HNU := hide (number_any w gr wr _ none 0 [] [] none 0 [] [] (unhide HRE) _ (List.replicate i 0) hz (by rw [List.length_replicate]; exact unhide H8) (by decide) (fun r hr => by cases hr))
      clear hlt hi hI hz
      go_wp2_with fail
      refine (unhide HNU).mono ?_
      rintro e w1 ⟨k, F', us', fa', fc', rfl, hk, hre, -, hF⟩
      have hF1 : F' = [List.replicate i 0] := by
        rcases hF with ⟨rfl, -⟩ | ⟨rfl, -, -⟩
        · simp at hk
        · rfl
      subst hF1
      have HR1 := hide hre
      clear hk hre hF HNU HRE HR0
      go_wp2_with fail
      go_loopw [5] (fun ix wr => ∃ (j : Nat) (fa : Option Addr) (fc : Nat) (F : List (List Nat)) (us : List Value) (na : Option Addr) (nc : Nat) (Nx : List (List Nat)) (ns : List Value), ix = .int .i64 (j : Int) ∧ Hid (ReI w gr wr (.slice (some ⟨gt, 0, none⟩) i tc) fa fc F us na nc Nx ns ∧ DlS i ts F j 0 ∧ F.length ≤ 256 ∧ Nx.length = j ∧ j ≤ F.length ∧ NxOk i ts F Nx)) (fun ix _ => lenLeft 256 ix)
      case atStart => exact ⟨0, _, _, _, _, _, _, [], _, rfl, unhide HR1, DlS.start, by simp, rfl, Nat.zero_le _, NxOk.nil⟩
      case round =>
        clear HR1 c0 hgr
        rename World => wx
        obtain ⟨j, fa, fc, F, us, na, nc, Nx, ns, rfl, HH⟩ := hrel
        obtain ⟨hre, hdl, hfew, hnl, hj, hnx⟩ := unhide HH
        clear HH
        have c1 := hre.c1
        have hgr := hre.lt
        have hFI : (F.length : Int) ≤ 256 := by omega
        by_cases hlt : j < F.length
        · have hjI : (j : Int) < (F.length : Int) := by omega
          obtain ⟨σ, hσ⟩ : ∃ σ, F[j]? = some σ := ⟨_, List.getElem?_eq_getElem hlt⟩
          have HRW : Hid (RowI w gr wx (.slice (some ⟨gt, 0, none⟩) i tc) i ts j 0 σ none 0 [] fa fc F us na nc Nx ns) := ⟨hre, hdl, hfew, hσ, hnx, hnl, NR.nil _ _, RwOk.nil, Sep.nil _, Sep.nil _⟩
          have HJ : Hid (j < 256) := by show _ < _; omega
          clear hre hdl hfew hnl hj hnx hlt hσ
          go_wp2_with fail
          go_loopw [6, 7] (fun vx bx wr => ∃ (b : Nat) (va : Option Addr) (vc : Nat) (row : List Nat) (fa : Option Addr) (fc : Nat) (F : List (List Nat)) (us : List Value), vx = .slice va b vc ∧ bx = .int .i64 (b : Int) ∧ Hid (b ≤ 256 ∧ row.length = b ∧ RowI w gr wr (.slice (some ⟨gt, 0, none⟩) i tc) i ts j b σ va vc row fa fc F us na nc Nx ns)) (fun _ bx _ => lenLeft 256 bx)
          case atStart => exact ⟨0, none, 0, [], fa, fc, F, us, rfl, rfl, by show 0 ≤ 256; decide, rfl, unhide HRW⟩
          case round =>
            clear HRW c1 hgr hFI hjI
            rename World => wy
            obtain ⟨b, va, vc, row, fa, fc, F, us, rfl, rfl, HH⟩ := hrel
            obtain ⟨hb, hrl, hR⟩ := unhide HH
            clear HH
            have hj0 : (0 : Int) ≤ (j : Int) := by omega
            have hj1 : ((j : Int)).toNat = j := by omega
            have hFI : (F.length : Int) ≤ 256 := by have := hR.few; omega
            have hgr := hR.re.lt
            by_cases hlt : b < 256
            · have hbI : (b : Int) < 256 := by omega
              have hjl := (List.getElem?_eq_some_iff.1 hR.at_).1
              have hjI : (j : Int) < (F.length : Int) := by omega
              obtain ⟨gf, u, hfa, hgf, -, cu, hu⟩ := hR.re.at1 hR.at_
              subst hfa
              have c1 := hR.re.c1
              obtain ⟨hsl, hss⟩ := hR.dl.byt (unhide HT).ok hR.at_
              have HBH := hide (behind_any wy gr gt i tc tb ts (unhide HT) (unhide H8) hR.re.c0 (fun q hq => hR.re.fr.cell (unhide HCT q hq) (by simpa using unhide HGT)) w.heap.size u σ hu hsl hss b hlt)
              obtain ⟨ua, uc, rfl⟩ := hu.form
              have HRR := hide hR
              have HLT := hide hlt
              have HRL := hide hrl
              have HLS : Hid ((stpT i ts σ b).length = i) := by show _ = _; rw [stpT_eq]; exact rmap_len _ _
              clear hb hR hlt hjl hu hsl hss hrl
              go_wp2_with fail
              refine (unhide HBH).mono ?_
              rintro e w3 ⟨xa, xc, rfl, hN⟩
              have hre3 := (unhide HRR).re.next hN.below
              have HN3 := hide hN
              have HNU := hide (number_any w gr w3 _ _ _ _ _ _ _ _ _ hre3 _ (stpT i ts σ b) (hN.row.less (unhide HRR).re.le) (by rw [unhide HLS]; exact unhide H8) (unhide HRR).few (fun r hr => by
                obtain ⟨q, hq⟩ := List.getElem?_of_mem hr
                rw [((unhide HRR).dl.byt (unhide HT).ok hq).1]; exact unhide H8))
              rw [unhide HLS] at HNU
              clear hN hre3 HBH cu hgf c1
              go_wp2_with fail
              refine (unhide HNU).mono ?_
              rintro e w4 ⟨k, F', us', fa', fc', rfl, hk, hre, hfr, hF⟩
              obtain ⟨hl, hd, hrow⟩ := (unhide HRR).num (unhide HLT) (unhide HN3) hk hre hfr (by rw [unhide HLS]; exact hF)
              have c1 := hre.c1
              have hgr4 := hre.lt
              have HK := hide hk
              have HRE := hide hre
              clear hre hfr hF HNU HN3 HRR hgr hk
              by_cases h257 : F'.length ≤ 256
              · have hFI' : (F'.length : Int) ≤ 256 := by omega
                have HR4 := hide (hrow h257)
                have HXA := hide ((hrow h257).alloc (Obj.cells #[.int .i64 (k : Int)] 3))
                have HWS : Hid (w.heap.size ≤ w4.heap.size) := (unhide HRE).le
                clear hl hd hrow h257
                have hrl := unhide HRL
                subst hrl
                go_wp2_with (at_builtin; refine app1 rfl (.tmp 57) (.tmp 59) rfl w.heap.size _ row rfl (unhide HXA).rwm w4.heap.size k rfl (new_cell rfl) (by have := unhide HLT; omega) (by have := unhide HWS; simp; omega) (w4.heap.size + 1) (by simp) ?_; intro g5 cap5 w8 ho hgrow hlies hlt5; have HP9 := hide ((unhide HXA).push rfl (unhide HK) hgrow ho (hlies.elim Or.inl (fun e => Or.inr (by rw [e]; simp)))); clear ho hgrow hlies)
                go_roundw
                case rel => exact ⟨row.length + 1, some ⟨g5, 0, none⟩, cap5, row ++ [k], _, _, _, _, rfl, by go_num, unhide HLT, by simp, unhide HP9⟩
                case measure => have := unhide HLT; simp [lenLeft, intOf]; omega
              · have hFI' : (F'.length : Int) = 257 := by omega
                have HMY := hide (hd.many (by omega))
                clear hl hd hrow h257
                go_wp2_with fail
                go_ret
                exact .inr ⟨unhide HMY, rfl, (unhide HRE).fr⟩
            · have hb2 : b = 256 := by omega
              subst hb2
              have c2 := hR.re.c2
              have hj256 : (j : Int) < 256 := by have := unhide HJ; omega
              have HRR := hide hR
              have HRL := hide hrl
              have HXA := hide (hR.alloc (Obj.cells #[.slice va 256 vc] 23))
              have HWS : Hid (w.heap.size ≤ wy.heap.size) := hR.re.le
              have HLF : Hid (j + 1 ≤ F.length) := (List.getElem?_eq_some_iff.1 hR.at_).1
              have HNL := hide hR.nl
              clear hb hR hlt hrl
              go_wp2_with (at_builtin; refine appII rfl (.tmp 65) (.tmp 67) rfl w.heap.size _ Nx.length ns rfl (unhide HXA).re.no wy.heap.size _ rfl rfl (new_cell rfl) (by have := unhide HNL; have := unhide HJ; omega) (by have := unhide HWS; simp; omega) (wy.heap.size + 1) (by simp) ?_; intro g5 cap5 w8 ho hgrow hlies hlt5; obtain ⟨y1, z1, hg8, hP⟩ := (unhide HXA).re.push2 (by have := (unhide HXA).rwm; rw [unhide HRL] at this; exact this) hgrow ho (hlies.elim Or.inl (fun e => Or.inr (by rw [e]; simp))); have HP9 := hide hP; clear ho hgrow hlies hP)
              go_roundw
              case rel => exact ⟨j + 1, _, _, F, us, some ⟨g5, 0, none⟩, cap5, Nx ++ [row], _, by go_num, unhide HP9, (unhide HRR).dl.row, (unhide HRR).few, by simp [unhide HNL], unhide HLF, (unhide HRR).nx.snoc (by rw [unhide HNL]; exact (unhide HRR).at_) (unhide HRL) (unhide HRR).rk⟩
              case measure => have := unhide HJ; simp [lenLeft, intOf]; omega
        · have hj2 : j = F.length := by omega
          subst hj2
          have hjI : ¬ (F.length : Int) < (F.length : Int) := by omega
          have HRE := hide hre
          have HDL := hide hdl
          have HFE := hide hfew
          have HNL := hide hnl
          have HNX := hide hnx
          clear hre hdl hfew hnl hj hnx hlt
          go_wp2_with fail
          go_ret
          exact .inl ⟨_, _, F, us, _, _, Nx, ns, rfl, unhide HRE, unhide HDL, unhide HFE, unhide HNL, unhide HNX⟩

end Mc
end Go.Proofs.Ytnkdbcicphnmiaa
