/-
  The document's answer: the states one after the other: what is kept on the way.
  The document's answer: the states one after the other: the walk.
-/
import Derived.Test.YtfooclcjehpcfaaGreatGb
namespace Go.Proofs.YtfooclcjehpcfaaGreat
namespace Mc
open Go.RowKit

theorem infoIIG : (Tryz.prog.info? 31).map (fun i => (i.zero, i.size, i.bytes)) = some (some (.slice none 0 0), 1, 24) := by kernel_rfl
/-- A row of numbers is appended. -/
theorem appNn {ops : Array Oper} {rest : List Oper} {o : Oper} {a : Act} {W : World} {Q : Exit → Act → World → Prop} (hgd : o.guard = none) (s x : Operand)
    (ho : o.op = .call { callee := .builtin .append, args := #[s, x], argTypes := #[49, 49] }) (B : Nat) (v : Value) (n : Nat) (us : List Value) (hs : a.eval s = v) (hown : W.ownsRow B 31 1 v n us) (g0 : Nat) (y : Value) (hy : y.oneCell' = true)
    (hx : a.eval x = .slice (some ⟨g0, 0, none⟩) 1 1) (hc : W.cell? ⟨g0, 0, none⟩ = some y) (hlen : n ≤ 1000) (hB : B ≤ W.heap.size) (H : Nat) (hH : W.heap.size = H)
    (h : ∀ g cap w', w'.ownsRow B 31 1 (.slice (some ⟨g, 0, none⟩) (n + 1) cap) (n + 1) (us ++ [y]) → W.grownBy w' v.ownBlock → (v.ownBlock = some g ∨ g = H) → g < w'.heap.size → wpList Tryz.prog ops Q rest (a.put o.dst (.slice (some ⟨g, 0, none⟩) (n + 1) cap)) w') : wpList Tryz.prog ops Q (o :: rest) a W := by
  obtain ⟨i, i0, i1, i2, i3⟩ := info_of infoIIG
  exact wpList_append_lies W hgd s x 49 ho B 31 i (.slice none 0 0) 1 24 Tryz.underlying49 i0 i1 i2 i3 rfl (by decide) v n us hs hown ⟨g0, 0, none⟩ 1 1 [y] hx rfl (one_cells hc) (by intro u hu; simp at hu; subst hu; exact hy) (by decide) (by unfold maxLen; omega) (by omega) hB H hH h
/-- A row of strings is appended, in a region that draws its order. -/
theorem appSlR {ops : Array Oper} {o : Oper} {a : Act} {W : World} {K : Act → World → Prop} {Q : Exit → Act → World → Prop} {E : Prop} (hgd : o.guard = none) (s x : Operand)
    (ho : o.op = .call { callee := .builtin .append, args := #[s, x], argTypes := #[45, 45] }) (B : Nat) (v : Value) (n : Nat) (us : List Value) (hs : a.eval s = v) (hown : W.ownsRow B 46 1 v n us) (g0 : Nat) (y : Value) (hy : y.oneCell' = true)
    (hx : a.eval x = .slice (some ⟨g0, 0, none⟩) 1 1) (hc : W.cell? ⟨g0, 0, none⟩ = some y) (hlen : n ≤ 1000) (hB : B ≤ W.heap.size) (H : Nat) (hH : W.heap.size = H)
    (h : ∀ g cap w', w'.ownsRow B 46 1 (.slice (some ⟨g, 0, none⟩) (n + 1) cap) (n + 1) (us ++ [y]) → W.grownBy w' v.ownBlock → (v.ownBlock = some g ∨ g = H) → g < w'.heap.size → K (a.put o.dst (.slice (some ⟨g, 0, none⟩) (n + 1) cap)) w') :
    if Region.wanted o (yielded ops a.tmps) = true then Oper.wp Tryz.prog o a W K Q else E := by
  obtain ⟨i, i0, i1, i2, i3⟩ := info_of infoSsG
  exact step_append_lies W hgd s x 45 ho B 46 i (.slice none 0 0) 1 24 Tryz.underlying45 i0 i1 i2 i3 rfl (by decide) v n us hs hown ⟨g0, 0, none⟩ 1 1 [y] hx rfl (one_cells hc) (by intro u hu; simp at hu; subst hu; exact hy) (by decide) (by unfold maxLen; omega) (by omega) hB H hH h

/-- Values that are rows of numbers. -/
structure Rwt (w : World) (B : Nat) (us : List Value) (F : List (List Nat)) : Prop where
  len : us.length = F.length
  row : ∀ (k : Nat) u r, us[k]? = some u → F[k]? = some r → NR w B u r
section
variable {w w' : World} {B : Nat} {us : List Value} {F : List (List Nat)}
theorem Rwt.nil : Rwt w B [] [] := ⟨rfl, fun k u r h => by simp at h⟩
theorem Rwt.at (h : Rwt w B us F) {k : Nat} {r : List Nat} (hk : F[k]? = some r) : ∃ u, us[k]? = some u ∧ NR w B u r := by
  have hl := get_lt hk
  have hu := List.getElem?_eq_getElem (show k < us.length by rw [h.len]; exact hl)
  exact ⟨_, hu, h.row k _ r hu hk⟩
theorem Rwt.mem (h : Rwt w B us F) {u : Value} (hu : u ∈ us) : ∃ r, NR w B u r := by
  obtain ⟨k, hk⟩ := List.getElem?_of_mem hu
  have hl := get_lt hk
  have hr := List.getElem?_eq_getElem (show k < F.length by rw [← h.len]; exact hl)
  exact ⟨_, h.row k u _ hk hr⟩
theorem Rwt.keep (h : Rwt w B us F) {S : List Nat} (f : Fr S w w') (hs : ∀ u ∈ us, ∀ q, u.ownBlock = some q → q ∉ S) : Rwt w' B us F := ⟨h.len, fun k u r hu hr => f.own (h.row k u r hu hr) (hs u (List.mem_of_getElem? hu))⟩
theorem Rwt.kp (h : Rwt w B us F) (k : KpN w w') : Rwt w' B us F := ⟨h.len, fun i u r hu hr => k.nr (h.row i u r hu hr)⟩
theorem Rwt.snoc (h : Rwt w B us F) {u : Value} {r : List Nat} (hu : NR w B u r) : Rwt w B (us ++ [u]) (F ++ [r]) := by
  refine ⟨by simp [h.len], fun k u' r' hu' hr' => ?_⟩
  rcases get_snoc hu' with h1 | ⟨rfl, rfl⟩
  · rcases get_snoc hr' with h2 | ⟨rfl, rfl⟩
    · exact h.row k u' r' h1 h2
    · have := get_lt h1; have := h.len; omega
  · rcases get_snoc hr' with h2 | ⟨-, rfl⟩
    · have := get_lt h2; have := h.len; omega
    · exact hu
theorem SepS.nil (us : List Value) : SepS (.slice none 0 0) us := fun u _ q _ h => by simp [Value.ownBlock] at h
theorem SepS.growN {v : Value} (h : Rwt w B us F) (hs : SepS v us) {g n cap : Nat} (hl : v.ownBlock = some g ∨ g = w.heap.size) : SepS (.slice (some ⟨g, 0, none⟩) n cap) us := fun u hu q hq hq' => by
  have e : g = q := by simpa [Value.ownBlock] using hq'
  subst e
  rcases hl with hl | hl
  · exact hs u hu g hq hl
  · obtain ⟨r, hr⟩ := h.mem hu
    have := (World.ownsRow.lt hr g hq).2
    omega
end
theorem KpN.below {w w1 : World} (h : Below w.heap.size w w1) : KpN w w1 := ⟨h.size, fun q cs ty fr g _ => by rw [h.block q (Array.getElem?_eq_some_iff.1 g).1]; exact g⟩
/-- The numbers in memory: the rows that are ready, the row in the making, the bytes. -/
structure RwI (w wr : World) (bv : Value) (hbs : List Nat) (na : Option Addr) (nc : Nat) (Nx : List (List Nat)) (ns : List Value) (va : Option Addr) (vc : Nat) (row : List Nat) : Prop where
  no : wr.ownsRow w.heap.size 31 1 (.slice na Nx.length nc) Nx.length ns
  nr : Rwt wr w.heap.size ns Nx
  rm : NR wr w.heap.size (.slice va row.length vc) row
  sp : SepS (.slice va row.length vc) ns
  bn : NR wr 0 bv hbs
  bl : ∀ q, bv.ownBlock = some q → q < w.heap.size
section
variable {w wr w2 : World} {bv : Value} {hbs : List Nat} {na : Option Addr} {nc : Nat} {Nx : List (List Nat)} {ns : List Value} {va : Option Addr} {vc : Nat} {row : List Nat}
theorem RwI.start {B : Nat} (h : NR w B bv hbs) (hk : KpN w wr) : RwI w wr bv hbs none 0 [] [] none 0 [] :=
  ⟨World.ownsRow_nil _ _ _ _, Rwt.nil, NR.nil _ _, SepS.nil _, (hk.nr h).less (Nat.zero_le _), fun q hq => (World.ownsRow.lt h q hq).2⟩
theorem RwI.kp (h : RwI w wr bv hbs na nc Nx ns va vc row) (k : KpN wr w2) : RwI w w2 bv hbs na nc Nx ns va vc row := ⟨k.own h.no (.inr rfl), h.nr.kp k, k.nr h.rm, h.sp, k.nr h.bn, h.bl⟩
theorem RwI.pushR (h : RwI w wr bv hbs na nc Nx ns va vc row) {g cap y : Nat} (hgrow : wr.grownBy w2 (.slice va row.length vc : Value).ownBlock) (ho : w2.ownsRow w.heap.size 3 1 (.slice (some ⟨g, 0, none⟩) (row.length + 1) cap) (row.length + 1) (ncs row ++ [.int .i64 (y : Int)])) (hl : (Value.slice va row.length vc).ownBlock = some g ∨ g = wr.heap.size) : RwI w w2 bv hbs na nc Nx ns (some ⟨g, 0, none⟩) cap (row ++ [y]) := by
  have hlen : (row ++ [y]).length = row.length + 1 := by simp
  refine ⟨(Fr.ofGrown hgrow).own h.no (fun q hq hm => ?_), h.nr.keep (Fr.ofGrown hgrow) (fun u hu q hq hm => h.sp u hu q hq (Option.mem_toList.1 hm)), by rw [hlen]; exact NR.of ho, by rw [hlen]; exact SepS.growN h.nr h.sp hl, (Fr.ofGrown hgrow).own h.bn (fun q hq hm => ?_), h.bl⟩
  · obtain ⟨cs, hc⟩ := own_tyT h.no hq
    obtain ⟨cs', hc'⟩ := own_tyT h.rm (Option.mem_toList.1 hm)
    rw [hc] at hc'
    simp at hc'
  · have h1 := h.bl q hq
    have h2 := (World.ownsRow.lt h.rm q (Option.mem_toList.1 hm)).1
    omega
theorem RwI.pushN (h : RwI w wr bv hbs na nc Nx ns va vc row) {g cap : Nat} (hgrow : wr.grownBy w2 (.slice na Nx.length nc : Value).ownBlock) (ho : w2.ownsRow w.heap.size 31 1 (.slice (some ⟨g, 0, none⟩) (Nx.length + 1) cap) (Nx.length + 1) (ns ++ [.slice va row.length vc])) : RwI w w2 bv hbs (some ⟨g, 0, none⟩) cap (Nx ++ [row]) (ns ++ [.slice va row.length vc]) none 0 [] := by
  have hlen : (Nx ++ [row]).length = Nx.length + 1 := by simp
  have hno : ∀ {B : Nat} {v : Value} {r : List Nat}, NR wr B v r → ∀ q, v.ownBlock = some q → q ∉ (Value.slice na Nx.length nc).ownBlock.toList := fun {B v r} hv q hq hm => by
    obtain ⟨cs, hc⟩ := own_tyT hv hq
    obtain ⟨cs', hc'⟩ := own_tyT h.no (Option.mem_toList.1 hm)
    rw [hc] at hc'
    simp at hc'
  exact ⟨by rw [hlen]; exact ho, (h.nr.keep (Fr.ofGrown hgrow) (fun u hu q hq => by
    obtain ⟨r, hr⟩ := h.nr.mem hu
    exact hno hr q hq)).snoc ((Fr.ofGrown hgrow).own h.rm (hno h.rm)), NR.nil _ _, SepS.nil _, (Fr.ofGrown hgrow).own h.bn (hno h.bn), h.bl⟩
end
section
variable {rs0 : List Rn} {U : List (List Nm)} {b gf : Nat} {w : World} {rs : List Rn} {wr w2 : World} {bv : Value} {sa : Option Addr} {sc : Nat} {St : List (List ByteArray)} {us : List Value} {ta : Option Addr} {tc : Nat} {T : List ByteArray} {rs1 rs2 : List Rn}
/-- The finder stays where a row of others grows. -/
theorem FnI.grown (h : FnI rs0 U b gf w rs wr bv sa sc St us ta tc T rs1) {e z n : Nat} {v : Value} {xs : List Value} (ho : wr.ownsRow w.heap.size e z v n xs) (h1 : e ≠ 110) (h2 : e ≠ 75) (h3 : e ≠ 48) (h4 : e ≠ 46) (h5 : e ≠ 9) (hgrow : wr.grownBy w2 v.ownBlock) : FnI rs0 U b gf w rs w2 bv sa sc St us ta tc T rs1 := by
  have hd : ∀ {B e' z' n' : Nat} {v' : Value} {xs' : List Value}, wr.ownsRow B e' z' v' n' xs' → e ≠ e' → ∀ q, v'.ownBlock = some q → q ∉ v.ownBlock.toList := fun {B e' z' n' v' xs'} hv hne q hq hm => by
    obtain ⟨cs, hc⟩ := own_tyT hv hq
    obtain ⟨cs', hc'⟩ := own_tyT ho (Option.mem_toList.1 hm)
    rw [hc] at hc'
    simp at hc'
    exact hne hc'.2.symm
  have f := Fr.ofGrown hgrow
  exact ⟨h.fv.fr f (fun x hx => .inr (ho.lt x (Option.mem_toList.1 hx)).1) h.hb h.ne, rts_fr h.rt f (noTree_own ho h1 h2), h.gr, h.ex, h.hb, h.hg, f.at h.im (fun hm => own_off ho h.im h3 _ (Option.mem_toList.1 hm) rfl), f.own h.so (hd h.so h4), h.sr.keep f (fun u hu q hq => by
    obtain ⟨X, hX⟩ := h.sr.mem hu
    exact hd hX h5 q hq), f.own h.tr (hd h.tr h5), h.sep, h.sets, h.tz⟩
end
theorem map_grow {rs0 rs1 : List Rn} {U : List (List Nm)} (hg : GrowT rs0 rs1) {St : List (List ByteArray)} (hS : ∀ X ∈ St, VSet rs0 rs1 U X) (x : List Rn) : St.map (stB (rs1 ++ x)) = St.map (stB rs1) := List.map_congr_left fun X hX => stB_app hg (hS X hX) x
section
variable {rsA : List Rn} {hbs : List Nat} {kd : Nat → Nat} {L : Lang} {st : List Lang} {e : Nat} {nx : List Nat} {A X : Lang} {k : Nat}
theorem found_X (h : FoundI hbs.length hbs L st e nx) (he : st[e / hbs.length]? = some A) (hX : X = derL (hbs.getD (e % hbs.length) 0) A) (hc : hbs.getD (e % hbs.length) 0 < 256) : ∃ u, bytesOk u ∧ EqB X (derS u L) := by
  obtain ⟨u, u1, u2⟩ := h.reach _ A he
  exact ⟨u ++ [hbs.getD (e % hbs.length) 0], bytesOk_snoc u1 hc, by rw [derS_snoc, hX]; exact u2.der hc⟩
theorem found_old (hs : Sorted 256 (alkB rsA) hbs kd) (hL : SameA rsA L) (h : FoundI hbs.length hbs L st e nx) (hM : 0 < hbs.length) (he : st[e / hbs.length]? = some A) (hX : X = derL (hbs.getD (e % hbs.length) 0) A) {Y : Lang} (hY : st[k]? = some Y) (hYX : ∀ x, (∀ c ∈ x, c ∈ hbs) → (Y x ↔ X x)) : FoundI hbs.length hbs L st (e + 1) (nx ++ [k]) := by
  have hc := (hs.head (e % hbs.length) (Nat.mod_lt _ hM)).1
  obtain ⟨u, -, u2⟩ := found_X h he hX hc
  obtain ⟨v, -, v2⟩ := h.reach k Y hY
  refine h.old hM he hY ?_
  rw [← hX]
  exact eqb_reps hs hL v2 u2 hYX
theorem found_new (hs : Sorted 256 (alkB rsA) hbs kd) (h : FoundI hbs.length hbs L st e nx) (hM : 0 < hbs.length) (he : st[e / hbs.length]? = some A) (hX : X = derL (hbs.getD (e % hbs.length) 0) A) (hno : ∀ Y ∈ st, ∃ s, Tells s Y X) : FoundI hbs.length hbs L (st ++ [X]) (e + 1) (nx ++ [st.length]) := by
  have hc := (hs.head (e % hbs.length) (Nat.mod_lt _ hM)).1
  refine h.new hM he (by rw [hX]; exact EqB.refl _) hc (fun i C hC hE => ?_)
  obtain ⟨s, hs'⟩ := hno C (List.mem_of_getElem? hC)
  exact hs' (hE (bytesN s ++ []) (by rw [List.append_nil]; exact bytesOk_bytesN s))
end
theorem div_at {M n r : Nat} (hr : r < M) : (n * M + r) / M = n ∧ (n * M + r) % M = r := by
  constructor
  · rw [Nat.mul_comm, Nat.mul_add_div (by omega), Nat.div_eq_of_lt hr, Nat.add_zero]
  · rw [Nat.mul_comm, Nat.mul_add_mod, Nat.mod_eq_of_lt hr]

end Mc
end Go.Proofs.YtfooclcjehpcfaaGreat
namespace Go.Proofs.YtfooclcjehpcfaaGreat
namespace Mc
open Go.RowKit
attribute [local go_sem ↓] Go.wp_at_zero Go.wp_at_succ

/-- In the midst of states. -/
structure SsI (rs0 : List Rn) (U : List (List Nm)) (b gf : Nat) (w : World) (rs : List Rn) (L : Lang) (hbs : List Nat) (bv : Value) (wr : World) (sa : Option Addr) (sc : Nat) (St : List (List ByteArray)) (us : List Value) (ta : Option Addr) (tc : Nat) (T : List ByteArray) (rs1 : List Rn) (na : Option Addr) (nc : Nat) (Nx : List (List Nat)) (ns : List Value) (va : Option Addr) (vc : Nat) (row : List Nat) : Prop where
  fn : FnI rs0 U b gf w rs wr bv sa sc St us ta tc T rs1
  rx : RwI w wr bv hbs na nc Nx ns va vc row
  fd : FoundI hbs.length hbs L (St.map (stB rs1)) (Nx.length * hbs.length + row.length) (Nx.flatten ++ row)
  len : ∀ r ∈ Nx, r.length = hbs.length
  few : St.length ≤ 24
  tl : T.length ≤ 24 * (Nx.length * hbs.length + row.length)
section
variable {rs0 : List Rn} {U : List (List Nm)} {b gf : Nat} {w : World} {rs : List Rn} {L : Lang} {hbs : List Nat} {bv : Value} {wr w2 : World} {sa : Option Addr} {sc : Nat} {St : List (List ByteArray)} {us : List Value} {ta : Option Addr} {tc : Nat} {T : List ByteArray} {rs1 rs2 : List Rn} {na : Option Addr} {nc : Nat} {Nx : List (List Nat)} {ns : List Value} {va : Option Addr} {vc : Nat} {row : List Nat}
theorem SsI.next (h : SsI rs0 U b gf w rs L hbs bv wr sa sc St us ta tc T rs1 na nc Nx ns va vc row) (k : TrK rs0 b wr rs1 w2 rs2) : SsI rs0 U b gf w rs L hbs bv w2 sa sc St us ta tc T rs2 na nc Nx ns va vc row := by
  refine ⟨h.fn.next k, h.rx.kp (KpN.fy k.fy h.fn.rt), ?_, h.len, h.few, h.tl⟩
  obtain ⟨x, hx⟩ := k.ex
  rw [hx, map_grow h.fn.gr h.fn.sets x]
  exact h.fd
theorem SsI.below (h : SsI rs0 U b gf w rs L hbs bv wr sa sc St us ta tc T rs1 na nc Nx ns va vc row) (k : Below wr.heap.size wr w2) : SsI rs0 U b gf w rs L hbs bv w2 sa sc St us ta tc T rs1 na nc Nx ns va vc row := h.next ((TrK.refl h.fn.rt h.fn.gr).below k)
theorem SsI.nl (h : SsI rs0 U b gf w rs L hbs bv wr sa sc St us ta tc T rs1 na nc Nx ns va vc row) (hM : 0 < hbs.length) : Nx.length ≤ St.length := by
  have h1 := h.fd.rows
  rw [List.length_map] at h1
  have : Nx.length ≤ (Nx.length * hbs.length + row.length) / hbs.length := by
    rw [Nat.le_div_iff_mul_le hM]; omega
  omega
theorem SsI.tn (h : SsI rs0 U b gf w rs L hbs bv wr sa sc St us ta tc T rs1 na nc Nx ns va vc row) (hM : 0 < hbs.length) (hl : hbs.length ≤ 256) (hr : row.length ≤ hbs.length) : T.length ≤ 900000 := by
  have h1 := h.nl hM
  have h2 := h.few
  have h3 := h.tl
  have h4 : Nx.length * hbs.length ≤ 24 * 256 := Nat.mul_le_mul (by omega) hl
  omega
/-- What state answers is right. -/
theorem SsI.found {rsA : List Rn} {kd : Nat → Nat} (hs : Sorted 256 (alkB rsA) hbs kd) (hL : SameA rsA L) (h : SsI rs0 U b gf w rs L hbs bv wr sa sc St us ta tc T rs1 na nc Nx ns va vc row) (hr : row.length < hbs.length) {Y : List ByteArray} (hY : St[Nx.length]? = some Y) {u : Value} {X : List ByteArray} (hX : stB rs1 X = derL (hbs.getD row.length 0) (stB rs1 Y)) (hvX : VSet rs0 rs1 U X) {e : Ending} (hS : StA rs0 U b gf w rs wr bv St us T.length rs1 u X hbs e w2) :
    ∃ (k : Nat) (sa' : Option Addr) (sc' : Nat) (St' : List (List ByteArray)) (us' : List Value) (ta' : Option Addr) (tc' : Nat) (T' : List ByteArray) (rs2 : List Rn), e = .returned (.int .i64 (k : Int)) ∧ FnI rs0 U b gf w rs w2 bv sa' sc' St' us' ta' tc' T' rs2 ∧ RwI w w2 bv hbs na nc Nx ns va vc row ∧ FoundI hbs.length hbs L (St'.map (stB rs2)) (Nx.length * hbs.length + row.length + 1) (Nx.flatten ++ row ++ [k]) ∧ St'.length ≤ 25 ∧ Nx.length < St'.length ∧ T'.length ≤ 24 * (Nx.length * hbs.length + row.length + 1) := by
  obtain ⟨k, sa', sc', St', us', ta', tc', T', rs2, he, hfn, ⟨x, hx⟩, hkp, htl, hc⟩ := hS
  have hM : 0 < hbs.length := by omega
  obtain ⟨d1, d2⟩ := div_at (n := Nx.length) hr
  have hst : (St.map (stB rs1))[(Nx.length * hbs.length + row.length) / hbs.length]? = some (stB rs1 Y) := by rw [d1, List.getElem?_map, hY]; rfl
  have hX' : stB rs1 X = derL (hbs.getD ((Nx.length * hbs.length + row.length) % hbs.length) 0) (stB rs1 Y) := by rw [d2]; exact hX
  have hTl : T'.length ≤ 24 * (Nx.length * hbs.length + row.length + 1) := by have := h.tl; have := h.few; omega
  have hnl := get_lt hY
  have hfew := h.few
  rcases hc with ⟨rfl, rfl, Y', hY', hsame⟩ | ⟨rfl, rfl, rfl, hno⟩
  · refine ⟨k, sa', sc', St', us', ta', tc', T', rs2, he, hfn, h.rx.kp hkp, ?_, by omega, hnl, hTl⟩
    rw [hx, map_grow h.fn.gr h.fn.sets x]
    exact found_old hs hL h.fd hM hst hX' (Y := stB rs1 Y') (by rw [List.getElem?_map, hY']; rfl) hsame
  · refine ⟨St.length, sa', sc', St ++ [X], us ++ [u], ta', tc', T', rs2, he, hfn, h.rx.kp hkp, ?_, by simp; omega, by simp; omega, hTl⟩
    rw [hx, map_grow h.fn.gr (fun Z hZ => by
      rcases List.mem_append.1 hZ with hZ | hZ
      · exact h.fn.sets Z hZ
      · rw [List.mem_singleton.1 hZ]; exact hvX) x, List.map_append]
    have := found_new hs h.fd hM hst hX' (fun Z hZ => by
      obtain ⟨Z', hZ', rfl⟩ := List.mem_map.1 hZ
      exact hno Z' hZ')
    rw [List.length_map] at this
    exact this
theorem onj_base {v : Value} {Y : List ByteArray} {Ln : Lang} {n : Nat} (h : OnJ rs0 U b (wr.drewN n) rs1 w2 v Y rs2 Ln) : OnJ rs0 U b wr rs1 w2 v Y rs2 Ln := ⟨on_base h.toOnI, h.new⟩
theorem SsI.pushR {k : Nat} (hfn : FnI rs0 U b gf w rs wr bv sa sc St us ta tc T rs1) (hrx : RwI w wr bv hbs na nc Nx ns va vc row) (hfd : FoundI hbs.length hbs L (St.map (stB rs1)) (Nx.length * hbs.length + row.length + 1) (Nx.flatten ++ row ++ [k])) (hl : ∀ r ∈ Nx, r.length = hbs.length) (hf : St.length ≤ 24) (ht : T.length ≤ 24 * (Nx.length * hbs.length + row.length + 1)) {g cap : Nat} (hgrow : wr.grownBy w2 (.slice va row.length vc : Value).ownBlock) (ho : w2.ownsRow w.heap.size 3 1 (.slice (some ⟨g, 0, none⟩) (row.length + 1) cap) (row.length + 1) (ncs row ++ [.int .i64 (k : Int)])) (hlies : (Value.slice va row.length vc).ownBlock = some g ∨ g = wr.heap.size) :
    SsI rs0 U b gf w rs L hbs bv w2 sa sc St us ta tc T rs1 na nc Nx ns (some ⟨g, 0, none⟩) cap (row ++ [k]) := by
  have hlen : (row ++ [k]).length = row.length + 1 := by simp
  refine ⟨hfn.grown hrx.rm (by decide) (by decide) (by decide) (by decide) (by decide) hgrow, hrx.pushR hgrow ho hlies, ?_, hl, hf, by rw [hlen]; omega⟩
  rw [hlen, ← Nat.add_assoc, ← List.append_assoc]
  exact hfd
theorem SsI.pushN (h : SsI rs0 U b gf w rs L hbs bv wr sa sc St us ta tc T rs1 na nc Nx ns va vc row) (hr : row.length = hbs.length) {g cap : Nat} (hgrow : wr.grownBy w2 (.slice na Nx.length nc : Value).ownBlock) (ho : w2.ownsRow w.heap.size 31 1 (.slice (some ⟨g, 0, none⟩) (Nx.length + 1) cap) (Nx.length + 1) (ns ++ [.slice va row.length vc])) :
    SsI rs0 U b gf w rs L hbs bv w2 sa sc St us ta tc T rs1 (some ⟨g, 0, none⟩) cap (Nx ++ [row]) (ns ++ [.slice va row.length vc]) none 0 [] := by
  have hlen : (Nx ++ [row]).length = Nx.length + 1 := by simp
  have hm : (Nx.length + 1) * hbs.length = Nx.length * hbs.length + row.length := by rw [Nat.add_mul, hr]; omega
  refine ⟨h.fn.grown h.rx.no (by decide) (by decide) (by decide) (by decide) (by decide) hgrow, h.rx.pushN hgrow ho, ?_, fun r hr' => ?_, h.few, ?_⟩
  · rw [hlen, hm, List.flatten_append]
    simp only [List.length_nil, Nat.add_zero, List.append_nil, List.flatten_cons, List.flatten_nil]
    exact h.fd
  · rcases List.mem_append.1 hr' with hr' | hr'
    · exact h.len r hr'
    · rw [List.mem_singleton.1 hr']; exact hr
  · rw [hlen, hm]; have := h.tl; simpa using this
end
/-- What states answers. -/
def SsA (rs0 : List Rn) (U : List (List Nm)) (b gf : Nat) (w : World) (rs : List Rn) (L : Lang) (hbs : List Nat) (bv : Value) (e : Ending) (w' : World) : Prop :=
  (Fv b gf w w' ∧ ManyStates L ∧ e = .returned (.tuple #[.slice none 0 0, .bool false])) ∨ ∃ (sa : Option Addr) (sc : Nat) (St : List (List ByteArray)) (us : List Value) (ta : Option Addr) (tc : Nat) (T : List ByteArray) (rs1 : List Rn) (na : Option Addr) (nc : Nat) (Nx : List (List Nat)) (ns : List Value), e = .returned (.tuple #[.slice na Nx.length nc, .bool true]) ∧ Nx.length = St.length ∧ SsI rs0 U b gf w rs L hbs bv w' sa sc St us ta tc T rs1 na nc Nx ns none 0 []
set_option maxRecDepth 20000 in
set_option maxHeartbeats 8000000 in
theorem states_any {rs0 : List Rn} {U : List (List Nm)} (hT : TrC rs0 U) {b gf : Nat} (w : World) (rs : List Rn) (bv : Value) (hI : FnI rs0 U b gf w rs w bv none 0 [] [] none 0 [] rs) (hbs : List Nat) (B3 : Nat) (hn : NR w B3 bv hbs) {rsA : List Rn} {kd : Nat → Nat} (hs : Sorted 256 (alkB rsA) hbs kd) (hbl : hbs.length ≤ 256) {L : Lang} (hL : SameA rsA L) (root : Nat) (hr : root < 256) (hX0 : VSet rs0 rs U [oneB root]) (hL0 : EqB (stB rs [oneB root]) L) :
    Calls Tryz.prog 12 #[.pointer (some ⟨gf, 0, none⟩), .int .i64 (root : Int)] w fun e w' => SsA rs0 U b gf w rs L hbs bv e w' := by
  obtain ⟨ba, bc, rfl⟩ := hn.form
  have hMI : (hbs.length : Int) ≤ 256 := by omega
  have HT := hide hT
  have HN := hide hn
  have HS := hide hs
  have HBL := hide hbl
  have HL := hide hL
  have H256 : Hid (∀ x ∈ hbs, x < 256) := fun x hx => by
    obtain ⟨k, hk, rfl⟩ := List.getElem_of_mem hx
    have := (hs.head k hk).1
    rwa [List.getD_eq_getElem?_getD, List.getElem?_eq_getElem hk] at this
  have HM : Hid (0 < hbs.length) := (hs.zero (by omega)).1
  have c2 : w.cell? ⟨gf, 2, none⟩ = some (.slice none 0 0) := hI.c2
  have hgf := hI.lt
  have hBX : Below w.heap.size w (((w.alloc (.cells #[.int .u8 (root : Int)] 5)).alloc (.cells #[.string (oneB root)] 9)).alloc (.cells #[.slice (some ⟨w.heap.size + 1, 0, none⟩) 1 1] 46)).drew := ((((Below.refl _ _).alloc (Nat.le_refl _) _).alloc (by simp) _).alloc (by simp; omega) _).drew
  have hXN : (((w.alloc (.cells #[.int .u8 (root : Int)] 5)).alloc (.cells #[.string (oneB root)] 9)).alloc (.cells #[.slice (some ⟨w.heap.size + 1, 0, none⟩) 1 1] 46)).drew.heap[w.heap.size + 1]? = some (.cells #[.string (oneB root)] 9 (0, 0)) := by
    show ((((w.alloc (.cells #[.int .u8 (root : Int)] 5)).alloc (.cells #[.string (oneB root)] 9)).alloc (.cells #[.slice (some ⟨w.heap.size + 1, 0, none⟩) 1 1] 46))).heap[w.heap.size + 1]? = _
    rw [Below.heap_alloc _ _ _ (by simp)]
    have := heap_alloc_new (w.alloc (.cells #[.int .u8 (root : Int)] 5)) (.cells #[.string (oneB root)] 9)
    simpa using this
  have hXU : SRow (((w.alloc (.cells #[.int .u8 (root : Int)] 5)).alloc (.cells #[.string (oneB root)] 9)).alloc (.cells #[.slice (some ⟨w.heap.size + 1, 0, none⟩) 1 1] 46)).drew 0 (.slice (some ⟨w.heap.size + 1, 0, none⟩) 1 1) [oneB root] := ⟨rfl, .inr ⟨_, 1, _, rfl, Nat.zero_le _, hXN, Nat.le_refl _, by unfold maxLen; omega, rfl, rfl⟩⟩
  have HXU := hide hXU
  have d1 : (w.alloc (.cells #[.int .u8 (root : Int)] 5)).cell? ⟨gf, 2, none⟩ = some (.slice none 0 0) := (hI.below ((Below.refl _ _).alloc (Nat.le_refl _) _)).c2
  have d2 : ((w.alloc (.cells #[.int .u8 (root : Int)] 5)).alloc (.cells #[.string (oneB root)] 9)).cell? ⟨gf, 2, none⟩ = some (.slice none 0 0) := (hI.below (((Below.refl _ _).alloc (Nat.le_refl _) _).alloc (by simp) _)).c2
  have d3 : (((w.alloc (.cells #[.int .u8 (root : Int)] 5)).alloc (.cells #[.string (oneB root)] 9)).alloc (.cells #[.slice (some ⟨w.heap.size + 1, 0, none⟩) 1 1] 46)).cell? ⟨gf, 2, none⟩ = some (.slice none 0 0) := (hI.below ((((Below.refl _ _).alloc (Nat.le_refl _) _).alloc (by simp) _).alloc (by simp; omega) _)).c2
  have HXI := hide (hI.below hBX)
  have HFD : Hid (FoundI hbs.length hbs L ([[oneB root]].map (stB rs)) (([] : List (List Nat)).length * hbs.length + ([] : List Nat).length) (([] : List (List Nat)).flatten ++ [])) := by
    show FoundI _ _ _ _ (0 * hbs.length + 0) _
    rw [Nat.zero_mul]
    exact FoundI.start _ hL0
  have HX0 := hide hX0
  have hcv := conv_cell (w.alloc (.cells #[.int .u8 (root : Int)] 5)) w.heap.size root hr (new_cell rfl)
  have hcv' := conv_cell (w.alloc (.cells #[.int .u8 (root : Int)] 5)).drew w.heap.size root hr (new_cell rfl)
  have hwr : IntKind.u8.wrap (root : Int) = (root : Int) := by unfold IntKind.wrap; simp [IntKind.bits, IntKind.signed]; omega
  have hrI : (root : Int) < 256 := by omega
  have HRW : Hid (∀ w8 x, ((((w.alloc (.cells #[.int .u8 (root : Int)] 5)).alloc (.cells #[.string (oneB root)] 9)).alloc (.cells #[.slice (some ⟨w.heap.size + 1, 0, none⟩) 1 1] 46)).drew).grownBy w8 (.slice none 0 0 : Value).ownBlock → RwI w (w8.setCell ⟨gf, 2, none⟩ x) (.slice ba hbs.length bc) hbs none 0 [] [] none 0 []) := fun w8 x hgrow => by
    have g2 : w8.heap[gf]? = _ := (Fr.ofGrown hgrow).at (hI.below hBX).im (by simp [Value.ownBlock])
    exact RwI.start hn (((KpN.below hBX).trans (KpN.fr (Fr.ofGrown hgrow) (fun q hq => by simp [Value.ownBlock] at hq))).trans (KpN.fr (Fr.ofSet _ _ _ _) (noInt_one g2 (by decide) (by decide))))
  clear hT hI hn hs hbl hL hX0 hL0 hBX hXN hXU
  go_enter Tryz.func12, Tryz.ntmps12
  go_wp2_with fail
  go_cut [] (fun wx => ∃ (sa : Option Addr) (sc : Nat) (us : List Value), Hid (SsI rs0 U b gf w rs L hbs (.slice ba hbs.length bc) wx sa sc [[oneB root]] us none 0 [] rs none 0 [] [] none 0 []))
  case first =>
    have HOB : Hid ((oneB root).size = 1) := rfl
    generalize hob : oneB root = ob at *
    go_region_law (refine appSlR (by rfl) _ _ (by rfl) w.heap.size _ 0 [] (by rfl) (by exact (unhide HXI).so) (w.heap.size + 2) (.slice (some ⟨w.heap.size + 1, 0, none⟩) 1 1) rfl (by rfl) (by exact new_cell (by simp)) (by omega) (by simp; omega) (w.heap.size + 3) (by simp) ?_; intro g5 cap5 w8 ho hgrow hlies hlt5; obtain ⟨y1, z1, hg8, hP⟩ := (unhide HXI).pushS (unhide HXU) (unhide HX0) (by intro q hq; simp [Value.ownBlock]) hgrow ho; have HP9 := hide hP; have HR9 := hide (unhide HRW w8 (.slice (some ⟨g5, 0, none⟩) 1 cap5) hgrow); clear ho hgrow hlies hP)
    all_goals
      go_wp2_with fail
      go_meet
      exact ⟨_, _, _, unhide HP9, unhide HR9, unhide HFD, (fun r hr => by cases hr), by simp, by simp⟩
  case rest =>
    rename World => w1
    obtain ⟨sa1, sc1, us1, H1⟩ := hcut
    clear HXU HXI HFD HX0 hcv hcv' hwr hrI HRW c2 hgf d1 d2 d3
    go_wp2_with fail
    go_loopw [6, 7] (fun vx ix wr => ∃ (sa : Option Addr) (sc : Nat) (St : List (List ByteArray)) (us : List Value) (ta : Option Addr) (tc : Nat) (T : List ByteArray) (rs1 : List Rn) (na : Option Addr) (nc : Nat) (Nx : List (List Nat)) (ns : List Value), vx = .slice na Nx.length nc ∧ ix = .int .i64 (Nx.length : Int) ∧ Hid (SsI rs0 U b gf w rs L hbs (.slice ba hbs.length bc) wr sa sc St us ta tc T rs1 na nc Nx ns none 0 [])) (fun _ ix _ => 24 - (intOf ix).toNat)
    case atStart => exact ⟨sa1, sc1, _, us1, none, 0, [], rs, none, 0, [], [], rfl, rfl, unhide H1⟩
    case round =>
      clear H1
      rename World => wr
      obtain ⟨sa, sc, St, us, ta, tc, T, rs1, na, nc, Nx, ns, rfl, rfl, HH⟩ := hrel
      have hI := unhide HH
      clear HH
      have f2 := hI.fn.c2
      have hgf := hI.fn.lt
      have hSI : (St.length : Int) ≤ 24 := by have := hI.few; omega
      have hnl := hI.nl (unhide HM)
      by_cases hlt : Nx.length < St.length
      · have hiI : (Nx.length : Int) < (St.length : Int) := by omega
        have HI := hide hI
        have HLT := hide hlt
        clear hI hlt hnl
        go_wp2_with fail
        go_loopw [8, 9] (fun vx jx wr => ∃ (sa : Option Addr) (sc : Nat) (St : List (List ByteArray)) (us : List Value) (ta : Option Addr) (tc : Nat) (T : List ByteArray) (rs1 : List Rn) (va : Option Addr) (vc : Nat) (row : List Nat), vx = .slice va row.length vc ∧ jx = .int .i64 (row.length : Int) ∧ Hid (row.length ≤ hbs.length ∧ Nx.length < St.length ∧ SsI rs0 U b gf w rs L hbs (.slice ba hbs.length bc) wr sa sc St us ta tc T rs1 na nc Nx ns va vc row)) (fun _ jx _ => hbs.length - (intOf jx).toNat)
        case atStart => exact ⟨sa, sc, St, us, ta, tc, T, rs1, none, 0, [], rfl, rfl, Nat.zero_le _, unhide HLT, unhide HI⟩
        case round =>
          clear HI HLT f2 hgf hSI hiI
          rename World => wy
          obtain ⟨sa, sc, St, us, ta, tc, T, rs1, va, vc, row, rfl, rfl, HH⟩ := hrel
          obtain ⟨hrl, hnl, hI⟩ := unhide HH
          clear HH
          have f0 := hI.fn.c0
          have f1 := hI.fn.c1
          have f2 := hI.fn.c2
          have hgf := hI.fn.lt
          have hSI : (St.length : Int) ≤ 24 := by have := hI.few; omega
          by_cases hlt : row.length < hbs.length
          · have hjI : (row.length : Int) < (hbs.length : Int) := by omega
            have hiI : (Nx.length : Int) < (St.length : Int) := by omega
            have hi0 : (0 : Int) ≤ (Nx.length : Int) := by omega
            have hi1 : ((Nx.length : Int)).toNat = Nx.length := by omega
            have hj0 : (0 : Int) ≤ (row.length : Int) := by omega
            have hj1 : ((row.length : Int)).toNat = row.length := by omega
            obtain ⟨Y, hY⟩ : ∃ Y, St[Nx.length]? = some Y := ⟨_, List.getElem?_eq_getElem hnl⟩
            obtain ⟨g, y, rfl, hgl, hcy, hry⟩ := hI.fn.at hY
            obtain ⟨gn, cn, he, ch⟩ := hI.rx.bn.at hlt
            simp only [Value.slice.injEq, true_and] at he
            obtain ⟨rfl, rfl⟩ := he
            have hgn : gn < wy.heap.size := World.block_lt_of_cell? wy ⟨gn, row.length, none⟩ ch
            have hc256 : hbs.getD row.length 0 < 256 := ((unhide HS).head _ hlt).1
            have hvY := hI.fn.sets Y (List.mem_of_getElem? hY)
            have HON := hide (fun n => on_j (b := b) (unhide HT) hc256 (wy.drewN n) rs1 (RtS_below hI.fn.rt (below_drewN (Below.refl _ _) n)) hI.fn.gr 0 y Y (show SRow wy 0 y Y from hry) hvY)
            obtain ⟨ya, yc, rfl⟩ := hry.form
            have HI := hide hI
            have HY := hide hY
            have HLT := hide hlt
            have HVY := hide hvY
            clear hI hlt hnl hrl hY hry hvY
            generalize hcc : hbs.getD row.length 0 = c at *
            have HCC := hide hcc
            clear hcc hc256
            go_upto_region 10 with fail
            go_cut [10] from 35 to 75 (fun cx wx => ∃ (ca : Option Addr) (cn cc : Nat) (C : List ByteArray) (rs2 : List Rn), cx = .slice ca cn cc ∧ Hid (OnJ rs0 U b wy rs1 wx (.slice ca cn cc) C rs2 (derL c (stB rs1 Y))))
            case first =>
              go_region_with (go_at_call 23; refine (unhide HON _).mono ?_; rintro e w3 ⟨v3, C, rs2, rfl, h3⟩; have h4 := onj_base h3; obtain ⟨ca, cc, rfl⟩ := h4.row.form; have HC4 := hide h4; clear h3 h4)
              all_goals
                go_wp2_with fail
                go_meet
                exact ⟨ca, _, cc, C, rs2, rfl, unhide HC4⟩
            case rest =>
              rename World => w3
              obtain ⟨ca, cn, cc, C, rs2, rfl, HC3⟩ := hcut
              have hC := unhide HC3
              have hI3 := (unhide HI).next hC.trk
              have HSA := hide (state_any (unhide HT) w rs w3 _ _ _ _ _ _ _ _ _ hI3.fn (.slice ca cn cc) C hC.row (fun q hq => fun e => by
                have h1 := hC.new q hq
                have h2 := (World.ownsRow.lt (unhide HI).fn.tr q e).2
                omega) hC.vs 0 hbs hI3.rx.bn (unhide H256) (unhide HBL) (by have := hI3.few; omega) (hI3.tn (unhide HM) (unhide HBL) (Nat.le_of_lt (unhide HLT))))
              have HEX : Hid (stB rs2 C = derL (hbs.getD row.length 0) (stB rs2 Y)) := by
                show _ = _
                rw [hC.eq, unhide HCC, (hC.trk.set (unhide HI).fn.gr (unhide HVY)).2]
              have HI3 := hide hI3
              have HVC := hide hC.vs
              clear HC3 hC hI3 HI HON f0 f1 f2 hgf hSI hiI hcy hgl ch hgn
              go_wp2_with fail
              refine (unhide HSA).mono ?_
              rintro e w4 hsa
              obtain ⟨k, sa', sc', St', us', ta', tc', T', rs3, rfl, hfn, hrx, hfd, h25, hnl4, htl⟩ := (unhide HI3).found (unhide HS) (unhide HL) (unhide HLT) (unhide HY) (unhide HEX) (unhide HVC) hsa
              have e2 := hfn.c2
              have hgf4 := hfn.lt
              have HLEN := hide (unhide HI3).len
              clear hsa HSA HI3 HEX HVC
              by_cases h24 : St'.length ≤ 24
              · have hSI : (St'.length : Int) ≤ 24 := by omega
                have HFN := hide (hfn.below ((Below.refl _ _).alloc (Nat.le_refl _) (.cells #[.int .i64 (k : Int)] 3)))
                have HRX := hide (hrx.kp (KpN.below ((Below.refl _ _).alloc (Nat.le_refl _) (.cells #[.int .i64 (k : Int)] 3))))
                have HFD := hide hfd
                have H24 := hide h24
                have HTL := hide htl
                have HNL4 := hide hnl4
                have HWS : Hid (w.heap.size ≤ w4.heap.size) := hfn.fv.size
                clear hfn hrx hfd h24 h25 htl hnl4
                go_wp2_with (at_builtin; refine app1 rfl (.tmp 72) (.tmp 74) rfl w.heap.size _ row rfl (unhide HRX).rm w4.heap.size k rfl (new_cell rfl) (by have := unhide HLT; have := unhide HBL; omega) (by have := unhide HWS; simp; omega) (w4.heap.size + 1) (by simp) ?_; intro g5 cap5 w8 ho hgrow hlies hlt5; have HP9 := hide (SsI.pushR (unhide HFN) (unhide HRX) (unhide HFD) (unhide HLEN) (unhide H24) (unhide HTL) hgrow ho (hlies.imp (fun e => e) (fun e => by rw [e]; simp))); clear ho hgrow hlies)
                go_roundw
                case rel => exact ⟨sa', sc', St', us', ta', tc', T', rs3, some ⟨g5, 0, none⟩, cap5, row ++ [k], by simp, by first | (simp; done) | go_num, by rw [List.length_append]; exact unhide HLT, unhide HNL4, unhide HP9⟩
                case measure => have := unhide HLT; simp [intOf]; omega
              · have hSI : ¬ (St'.length : Int) ≤ 24 := by omega
                have hSJ : (24 : Int) < (St'.length : Int) := by omega
                have HFV := hide hfn.fv
                have HMY : Hid (ManyStates L) := hfd.many (by rw [List.length_map]; omega)
                clear hfn hrx hfd h24 h25 htl hnl4
                go_wp2_with fail
                refine bodyPost_ret (v := .tuple #[.slice none 0 0, .bool false]) (by simp [results, Tryz.results12, go_sem]) rfl ?_
                exact .inl ⟨unhide HFV, unhide HMY, rfl⟩
          · have hj2 : row.length = hbs.length := by omega
            have hjI : ¬ (row.length : Int) < (hbs.length : Int) := by omega
            have HJ2 := hide hj2
            have HI := hide hI
            have HXA := hide (hI.below ((Below.refl _ _).alloc (Nat.le_refl _) (.cells #[.slice va row.length vc] 31)))
            have HWS : Hid (w.heap.size ≤ wy.heap.size) := hI.fn.fv.size
            have HN24 : Hid (Nx.length < 24) := by have := hI.few; show _ < _; omega
            have hN24 : (Nx.length : Int) < 24 := by have := hI.few; omega
            clear hI hlt hnl hrl hj2
            go_wp2_with (at_builtin; refine appNn rfl (.tmp 76) (.tmp 78) rfl w.heap.size _ Nx.length ns rfl (unhide HXA).rx.no wy.heap.size _ rfl rfl (new_cell rfl) (by have := unhide HN24; omega) (by have := unhide HWS; simp; omega) (wy.heap.size + 1) (by simp) ?_; intro g5 cap5 w8 ho hgrow hlies hlt5; have HP9 := hide ((unhide HXA).pushN (unhide HJ2) hgrow ho); clear ho hgrow hlies)
            go_roundw
            case rel => exact ⟨sa, sc, St, us, ta, tc, T, rs1, some ⟨g5, 0, none⟩, cap5, Nx ++ [row], _, by simp, by first | (simp; done) | go_num, unhide HP9⟩
            case measure => have := unhide HN24; simp [intOf]; omega
      · have hi2 : Nx.length = St.length := by omega
        have hiI : ¬ (Nx.length : Int) < (St.length : Int) := by omega
        have HI := hide hI
        have HI2 := hide hi2
        clear hI hlt hnl hi2
        go_wp2_with fail
        refine bodyPost_ret (v := .tuple #[.slice na Nx.length nc, .bool true]) (by simp [results, Tryz.results12, go_sem]) rfl ?_
        exact .inr ⟨sa, sc, St, us, ta, tc, T, rs1, na, nc, Nx, ns, rfl, unhide HI2, unhide HI⟩

end Mc
end Go.Proofs.YtfooclcjehpcfaaGreat
