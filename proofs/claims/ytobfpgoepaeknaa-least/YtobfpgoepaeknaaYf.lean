/-
  The law Least: what is made of a text has a table, and the table is the least.
-/
import Derived.Test.YtobfpgoepaeknaaYe
import Derived.Test.YtobfpgoepaeknaaKg
namespace Go.Proofs.Ytobfpgoepaeknaa
open Go.RowKit

theorem Gp.weight {p : ByteArray} {x : List Nat} {v : Val} (h : Gp x v) (h60 : p.size ≤ 60) (hp : AtW p 0 x) (hl : x.length = p.size) {y : St} {i : Int} (hr : Rds p 0 0 x0 (y, i)) {R : Re} (hd : Dn y.ns y.fs R ((y.ns.length : Int) - 1)) : R.wt = v.2 := by
  obtain ⟨n', rs', k', f1, S', f2, f3⟩ := h.reads h60 hp hl
  have hn : ¬ (y.s.bad = true ∨ y.s.k < p.size) := fun hh => by
    have := (refOk_all p y i h60 hr).1 hh
    rw [h.place h60 hp hl] at this
    omega
  obtain ⟨R', n, rs, k, S, d', rfl, e, g1, g2, hv⟩ := read_meets p y i h60 hr hn
  have a := rfF_mono n (max n n') 0 p 0 0 [] _ (Nat.le_max_left _ _) g1
  have b := rfF_mono n' (max n n') 0 p 0 0 [] _ (Nat.le_max_right _ _) f1
  rw [a] at b
  simp only [Option.some.injEq, Prod.mk.injEq] at b
  obtain ⟨rfl, rfl⟩ := b
  have e1 : S.val = v := by rw [Dr.same g2 f2, f3]
  have e2 : R'.wt = v.2 := congrArg Prod.snd (hv.trans e1)
  rw [← e2, ← d'.weighs, ← hd.weighs]
theorem not_many {R : Re} (hw : R.wt ≤ 4) : ¬ (ManyStates R.L ∨ ManyClasses R.L) := by
  have hL : ∀ x, runN (autN (partN R)) 1 x &&& (autN (partN R)).last ≠ 0 ↔ R.L x := fun x => by rw [autN_match (partN_ok R), partN_L]
  have hl : (autN (partN R)).sets.length ≤ 5 := by
    rw [(autN_ok (partN_ok R)).1]
    have e2 : (autN (partN R)).next.length = (oneN fun _ => false).next.length + (partN R).next.length := behindN_len _ _
    have := partN_len R
    rw [e2]; simp [oneN]; omega
  rintro (h | h)
  · exact few_states (autN_spot0 _) hl hL h
  · exact few_classes (autN_spot0 _) hl hL h
theorem bytesOk_bytesN (s : ByteArray) : bytesOk (bytesN s) := fun x hx => by
  unfold bytesN at hx
  obtain ⟨b, _, rfl⟩ := List.mem_map.1 hx
  exact b.toNat_lt

set_option maxRecDepth 20000 in
set_option maxHeartbeats 2000000 in
theorem Least_any (raw s : ByteArray) (w : World) (hraw : raw.size ≤ 9223372036854775807) :
    Calls Try.prog 7 #[.string raw, .string s] w fun e w' => e = .returned (.bool true) ∧ Below w.heap.size w w' := by
  have HMA := hide (made_any w raw 4 50 hraw (by omega) (by omega) (by omega))
  clear hraw
  go_enter Try.func7, Try.ntmps7
  go_wp2_with fail
  refine (unhide HMA).mono ?_
  rintro e w1 ⟨⟨p, x, u, rfl, p1, p2, p3, p4, p5⟩, hw1⟩
  have HB1 := hide hw1
  have HG := hide p1.1
  have HU : Hid (u.2 ≤ 4) := by show _ ≤ _; rw [p2]; exact p4
  have HP := hide p5
  have HT := hide (VTable_any w1 p (by omega))
  clear p1 p2 p3 p4 p5 hw1 HMA
  go_wp2_with fail
  refine (unhide HT).mono ?_
  rintro e w2 ⟨hw2, y, i, hr, -, hgood⟩
  obtain ⟨g1, g2⟩ := (unhide HG).answer (by have := unhide HP; omega) (atW_all p) (bytesN_len p) (by have := unhide HU; omega) hr
  obtain ⟨R, n, rs, k, S0, f1, f2, f3, f4, f5, hok⟩ := hgood g1
  have hwt : R.wt ≤ 4 := by
    rw [(unhide HG).weight (by have := unhide HP; omega) (atW_all p) (bytesN_len p) hr f2]; exact unhide HU
  have hRL : R.L = u.1 := f5.trans (g2 n rs k S0 f3 f4)
  rcases hok with ⟨S, C, nx, gr, cl, nc, rfl, htab⟩ | ⟨-, hmany⟩
  · have htb := htab.tbl
    have HB2 := hide ((unhide HB1).trans (hw2.mono (unhide HB1).size))
    have HTAB := hide htab
    have HRL := hide hRL
    generalize strN (layTab S C cl gr nc) = t at *
    have HTB := hide htb
    clear hw2 hr hgood g1 g2 f1 f2 f3 f4 f5 hwt hRL htab htb HT HB1
    go_wp2_with fail
    refine (ttable_any w2 t S C cl gr nc (unhide HTB)).mono ?_
    rintro e w3 ⟨rfl, hww⟩
    obtain rfl : w2 = w3 := hww.symm
    clear hww
    go_wp2_with fail
    refine (short_any w2 s 16 (by omega)).mono ?_
    rintro e w3 ⟨⟨r, rfl, hr, -⟩, hww⟩
    obtain rfl : w2 = w3 := hww.symm
    clear hww
    have HR := hide hr
    clear hr
    go_wp2_with fail
    refine (tgranted_any w2 t r S C cl gr nc nx (unhide HTB) (unhide HTAB).nc (unhide HR)).mono ?_
    rintro e w3 ⟨rfl, hww⟩
    obtain rfl : w2 = w3 := hww.symm
    clear hww
    have HSY : Hid (gr (dRun nx 0 (bytesN r)) = true ↔ u.1 (bytesN r)) := by
      rw [← unhide HRL]; exact (unhide HTAB).dfa.says _ (bytesOk_bytesN r)
    generalize gr (dRun nx 0 (bytesN r)) = gb at *
    go_wp2_with fail
    refine (says_any w2 p r gb _ u (unhide HG) rfl (by have := unhide HP; omega) (by have := unhide HU; omega) (unhide HR) (unhide HSY)).mono ?_
    rintro e w3 ⟨rfl, hw3⟩
    have HB3 := hide ((unhide HB2).trans (hw3.mono (unhide HB2).size))
    clear hw3 HB2
    go_wp2_with fail
    refine (tordered_any w3 t R.L S C nx gr cl nc (unhide HTAB) (unhide HTB)).mono ?_
    rintro e w4 ⟨rfl, hww⟩
    obtain rfl : w3 = w4 := hww.symm
    clear hww
    go_wp2_with fail
    refine (tcolumns_any w3 t R.L S C nx gr cl nc (unhide HTAB) (unhide HTB)).mono ?_
    rintro e w4 ⟨rfl, hw4⟩
    have HB4 := hide ((unhide HB3).trans (hw4.mono (unhide HB3).size))
    clear hw4 HB3
    go_wp2_with fail
    refine (tapart_any w4 t R.L S C nx gr cl nc (unhide HTAB) (unhide HTB)).mono ?_
    rintro e w5 ⟨rfl, hw5⟩
    have HB5 := hide ((unhide HB4).trans (hw5.mono (unhide HB4).size))
    clear hw5 HB4
    go_wp2_with fail
    go_ret
    exact ⟨rfl, unhide HB5⟩
  · exact absurd hmany (not_many hwt)

end Go.Proofs.Ytobfpgoepaeknaa
