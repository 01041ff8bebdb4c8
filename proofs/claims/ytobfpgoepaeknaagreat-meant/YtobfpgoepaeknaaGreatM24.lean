/-
  Plain mathematics: states found one after the other, by what is left behind their first strings; alike bytes.
  Plain mathematics: how long terms can be; sets of terms that are right; what they stand for.
  Texts that are too long for a pattern; a text that was read, with the weight of what the document reads.
  Lines of a text; what a table's text is to be.
-/
import Derived.Test.YtobfpgoepaeknaaGreatM14
import Derived.Test.YtobfpgoepaeknaaGreatM16
import Derived.Test.YtobfpgoepaeknaaGreatM23
import Derived.Test.YtobfpgoepaeknaaGreatM19
import Derived.Test.YtobfpgoepaeknaaGreatM09
namespace Go.Proofs.YtobfpgoepaeknaaGreat
theorem get_snoc {α:Type} {l:List α} {x a:α} {k:Nat} (h:(l++[x])[k]?=some a):l[k]?=some a∨(k=l.length∧a=x):=by
 by_cases g:k < l.length
 ·rw [List.getElem?_append_left g] at h;exact .inl h
 ·have:=(List.getElem?_eq_some_iff.1 h).1
  simp at this
  obtain rfl:k=l.length:=by omega
  simp at h
  exact .inr ⟨rfl,h.symm⟩
end Go.Proofs.YtobfpgoepaeknaaGreat
namespace Go.Proofs.YtobfpgoepaeknaaGreat
def WfT (rs:List Rn):Prop:=∀ (k:Nat) (r:Rn),rs[k]?=some r→(3≤r.kind→0≤r.l∧r.l < (k:Int))∧((r.kind=3∨r.kind=4)→0≤r.r∧r.r < (k:Int))
theorem WfT.snoc {rs:List Rn} (h:WfT rs) (n:Rn) (h1:3≤n.kind→0≤n.l∧n.l < (rs.length:Int)) (h2:(n.kind=3∨n.kind=4)→0≤n.r∧n.r < (rs.length:Int)):WfT (rs++[n]):=fun k r hk=>by
 rcases get_snoc hk with g | ⟨rfl,rfl⟩
 ·exact h k r g
 ·exact ⟨h1,h2⟩
theorem leafS_kind {p:ByteArray} {r:Rn} (h:leafS p=some r):r.kind=2:=by
 unfold leafS at h
 split at h
 ·split at h
  ·cases h;rfl
  ·split at h
   ·split at h
    ·split at h
     ·rw [Option.bind_eq_some_iff] at h
      obtain ⟨f,_,h⟩:=h
      cases h;rfl
     ·rw [Option.bind_eq_some_iff] at h
      obtain ⟨f,_,h⟩:=h
      cases h;rfl
    ·cases h
   ·rw [Option.bind_eq_some_iff] at h
    obtain ⟨f,_,h⟩:=h
    cases h;rfl
 ·cases h
theorem rfF_wf:∀ (n tag:Nat) (p:ByteArray) (a:Nat) (l:Int) (rs:List Rn) (r:List Rn × Int),rfF n tag p a l rs=some r→WfT rs→(tag=3→0≤l∧l < (rs.length:Int))→WfT r.1∧0≤r.2∧r.2 < (r.1.length:Int):=by
 intro n
 induction n with
 | zero=>intro tag p a l rs r h;simp [rfF] at h
 | succ n ih =>
  intro tag p a l rs r h hw hl
  have len1:∀ (x:List Rn) (y:Rn),((x++[y]).length:Int)=(x.length:Int)+1:=fun x y=>by simp
  match tag with
  | 0 =>
   simp only [rfF] at h
   exact ih 1 _ _ _ _ _ h hw (fun e=>by cases e)
  | 1 =>
   simp only [rfF] at h
   split at h
   ·rw [Option.bind_eq_some_iff] at h
    obtain ⟨j,_,h⟩:=h
    exact ih 1 _ _ _ _ _ h hw (fun e=>by cases e)
   ·split at h
    ·rw [Option.bind_eq_some_iff] at h
     obtain ⟨x,hx,h⟩:=h
     obtain ⟨g1,g2,g3⟩:=ih 2 _ _ _ _ _ hx hw (fun e=>by cases e)
     split at h
     ·simp only [Option.some.injEq] at h;subst h;exact ⟨g1,g2,g3⟩
     ·rw [Option.bind_eq_some_iff] at h
      obtain ⟨y,hy,h⟩:=h
      obtain ⟨q1,q2,q3⟩:=ih 0 _ _ _ _ _ hy g1 (fun e=>by cases e)
      have hg:=rfF_grows _ _ _ _ _ _ _ hy
      simp only [Option.some.injEq] at h;subst h
      refine ⟨q1.snoc _ (fun _=>⟨g2,by show x.2 < _;omega⟩) (fun _=>⟨q2,q3⟩),by show (0:Int)≤(y.1.length:Int);omega,?_⟩
      show (y.1.length:Int) < ((y.1++[_]).length:Int)
      rw [len1];omega
    ·cases h
  | 2 =>
   simp only [rfF] at h
   split at h
   ·simp only [Option.some.injEq] at h;subst h
    refine ⟨hw.snoc _ (fun e=>absurd e (by show ¬(3:Int)≤1;omega)) (fun e=>absurd e (by show ¬((1:Int)=3∨(1:Int)=4);omega)),by show (0:Int)≤(rs.length:Int);omega,?_⟩
    show (rs.length:Int) < ((rs++[_]).length:Int)
    rw [len1];omega
   ·rw [Option.bind_eq_some_iff] at h
    obtain ⟨j,_,h⟩:=h
    split at h
    ·rw [Option.bind_eq_some_iff] at h
     obtain ⟨x,hx,h⟩:=h
     obtain ⟨g1,g2,g3⟩:=ih 4 _ _ _ _ _ hx hw (fun e=>by cases e)
     exact ih 3 _ _ _ _ _ h g1 (fun _=>⟨g2,g3⟩)
    ·cases h
  | 3 =>
   obtain ⟨l0,l1⟩:=hl rfl
   have one:∀ (k m q:Int),3 < k→k≠4→WfT (rs++[⟨k,l,0,m,q,noSet⟩]):=fun k m q h3 h4=>hw.snoc _ (fun _=>⟨l0,l1⟩) (fun e=>absurd e (by show ¬(k=3∨k=4);omega))
   have nx:∀ y:Rn,(0:Int)≤(rs.length:Int)∧(rs.length:Int) < ((rs++[y]).length:Int):=fun y=>by rw [len1];omega
   simp only [rfF] at h
   split at h
   ·exact ih 3 _ _ _ _ _ h (one 5 0 0 (by omega) (by omega)) (fun _=>nx _)
   ·split at h
    ·exact ih 3 _ _ _ _ _ h (one 6 0 0 (by omega) (by omega)) (fun _=>nx _)
    ·split at h
     ·exact ih 3 _ _ _ _ _ h (one 7 0 0 (by omega) (by omega)) (fun _=>nx _)
     ·split at h
      ·split at h
       ·exact ih 3 _ _ _ _ _ h (one 8 _ _ (by omega) (by omega)) (fun _=>nx _)
       ·cases h
      ·split at h
       ·simp only [Option.some.injEq] at h;subst h;exact ⟨hw,l0,l1⟩
       ·split at h
        ·rw [Option.bind_eq_some_iff] at h
         obtain ⟨y,hy,h⟩:=h
         obtain ⟨q1,q2,q3⟩:=ih 2 _ _ _ _ _ hy hw (fun e=>by cases e)
         have hg:=rfF_grows _ _ _ _ _ _ _ hy
         simp only [Option.some.injEq] at h;subst h
         refine ⟨q1.snoc _ (fun _=>⟨l0,by show l < _;omega⟩) (fun _=>⟨q2,q3⟩),by show (0:Int)≤(y.1.length:Int);omega,?_⟩
         show (y.1.length:Int) < ((y.1++[_]).length:Int)
         rw [len1];omega
        ·cases h
  | t+4 =>
   simp only [rfF] at h
   split at h
   ·split at h
    ·exact ih 0 _ _ _ _ _ h hw (fun e=>by cases e)
    ·cases h
   ·rw [Option.bind_eq_some_iff] at h
    obtain ⟨x,hx,h⟩:=h
    have hk:=leafS_kind hx
    simp only [Option.some.injEq] at h;subst h
    refine ⟨hw.snoc _ (fun e=>by omega) (fun e=>by omega),by show (0:Int)≤(rs.length:Int);omega,?_⟩
    show (rs.length:Int) < ((rs++[_]).length:Int)
    rw [len1];omega
end Go.Proofs.YtobfpgoepaeknaaGreat
namespace Go.Proofs.YtobfpgoepaeknaaGreat
namespace Mc
open Go.RowKit
attribute [local go_sem ↓] Go.wp_at_zero Go.wp_at_succ
attribute [local go_sem ↓] zvT
attribute [local go_sem] zcT_size zcT_ne cells_agg
theorem rf_same {p:ByteArray} {n n':Nat} {r r':List Rn × Int} (h:rfF n 0 p 0 0 []=some r) (h':rfF n' 0 p 0 0 []=some r'):r=r':=by
 have a:=rfF_mono n (max n n') 0 p 0 0 [] r (Nat.le_max_left _ _) h
 have b:=rfF_mono n' (max n n') 0 p 0 0 [] r' (Nat.le_max_right _ _) h'
 rw [a] at b
 exact Option.some.inj b
theorem read_okV {p:ByteArray} {y:Go.Proofs.YtobfpgoepaeknaaGreat.St} {i:Int} (h60:p.size≤60) (hr:Rds p 0 0 x0 (y,i)) (h0:(readErr p y).1=0) :
  ∃ n rs k S,rfF n 0 p 0 0 []=some (rs,((k:Nat):Int))∧Dr rs S (k:Int)∧S.wt≤12:=by
 have hn:¬(y.s.bad=true∨y.s.k < p.size):=fun h=>by rw [readErr_bad h] at h0;cases h0
 have hb:y.s.bad=false:=by
  cases hbb:y.s.bad
  ·rfl
  ·exact absurd (Or.inl hbb) hn
 have hk:¬y.s.k < p.size:=fun h=>hn (Or.inr h)
 have hw:¬12 < lastW (weighAll y.ns):=fun h=>by rw [readErr_big hb hk h] at h0;cases h0
 obtain ⟨R,n,rs,k,S,d,rfl,e,f,g,hv⟩:=read_meets p y i h60 hr hn
 have h3:=rfF_wf n 0 p 0 0 [] (rs,k) f (fun k r h=>by simp at h) (fun h=>by omega)
 obtain ⟨k',rfl⟩:=Int.eq_ofNat_of_zero_le h3.2.1
 refine ⟨n,rs,k',S,f,g,?_⟩
 have e2:R.wt=S.wt:=congrArg Prod.snd hv
 rw [e] at hw
 unfold cl at hw
 split at hw<;>omega
set_option maxRecDepth 20000 in
set_option maxHeartbeats 2000000 in
theorem OfPattern_long (w:World) (p:ByteArray) (hp:60 < p.size) :
  Calls Tryz.prog 19 #[.string p] w fun e w'=>e=.returned (.tuple #[.agg zcT,.int .i64 1])∧Below w.heap.size w w':=by
 have hB0:Below w.heap.size w (w.alloc (.cells zcT 47)):=(Below.refl _ _).alloc (Nat.le_refl _) _
 have HR:=hide (Read_long (w.alloc (.cells zcT 47)) p hp)
 have HB0:=hide hB0
 clear hp hB0
 go_enter Tryz.func19,Tryz.ntmps19
 go_wp2_with fail
 refine (unhide HR).mono ?_
 rintro e w1 ⟨rfl,hw1⟩
 clear HR
 have hR1:w1.heap[w.heap.size]?=some (.cells zcT 47 (0,0)):=(hw1.block _ (by simp)).trans (heap_alloc_new w _)
 have hbw1:Below w.heap.size w w1:=(unhide HB0).trans (hw1.mono (by simp))
 have hsz1:w.heap.size < w1.heap.size:=(Array.getElem?_eq_some_iff.1 hR1).1
 have hb2:Below w1.heap.size w1 (w1.alloc (Obj.cells #[.slice none 0 0,.slice none 0 0] 86)):=(Below.refl _ _).alloc (Nat.le_refl _) _
 have HR2:=hide ((hb2.block _ hsz1).trans hR1)
 have HB2:=hide (below_then hbw1 (Obj.cells #[.slice none 0 0,.slice none 0 0] 86))
 clear hw1 hR1 hbw1 hb2
 go_wp2_with (refine wpList_store_row0 rfl 47 _ _ rfl rfl w.heap.size _ rfl rfl 47 _ (unhide HR2) (by rw [zcT_size];kernel_rfl) (by rw [zcT_size]) (tabA_one _ _ _ _ _ _ _ _) ?_)
 refine bodyPost_ret (v:=.tuple #[.agg zcT,.int .i64 1])
  (results_cell_row_tmp (p:=2) (u:=3) (ty:=47) rfl _ _ w.heap.size 47 _ (0,0) _ rfl (setRow_heap _ _ _ _ _ _ (unhide HR2)) Tryz.underlying47 rfl (by rw [zcT_size];kernel_rfl) _ rfl) rfl
  ⟨rfl,below_setRow (unhide HB2) (Nat.le_refl _) _⟩
end Mc
end Go.Proofs.YtobfpgoepaeknaaGreat
namespace Go.Proofs.YtobfpgoepaeknaaGreat
namespace Mc
open Go.RowKit
def cutS (p:ByteArray):Nat→List ByteArray × Nat
 | 0=>([],0)
 | i+1=>if bt p i=10 then ((cutS p i).1++[p.extract (cutS p i).2 i],i+1) else cutS p i
def cutL (p:ByteArray):List ByteArray:=(cutS p p.size).1
def cutR (p:ByteArray):ByteArray:=p.extract (cutS p p.size).2 p.size
theorem cutS_le (p:ByteArray):∀ i,(cutS p i).2≤i
 | 0=>Nat.le_refl _
 | i+1=>by
  have:=cutS_le p i
  unfold cutS
  split
  ·exact Nat.le_refl _
  ·omega
theorem cutS_len (p:ByteArray):∀ i,(cutS p i).1.length≤i
 | 0=>Nat.le_refl _
 | i+1=>by
  have:=cutS_len p i
  unfold cutS
  split
  ·simp;omega
  ·omega
theorem cutS_yes {p:ByteArray} {i:Nat} (h:bt p i=10):cutS p (i+1)=((cutS p i).1++[p.extract (cutS p i).2 i],i+1):=by show (if _ then _ else _)=_;rw [if_pos h]
theorem cutS_no {p:ByteArray} {i:Nat} (h:¬bt p i=10):cutS p (i+1)=cutS p i:=by show (if _ then _ else _)=_;rw [if_neg h]
theorem cutR_sz (p:ByteArray):(cutR p).size≤p.size:=by unfold cutR;rw [ByteArray.size_extract];omega
def PatA (p t:ByteArray) (er:Int):Prop :=
 (60 < p.size∧t=⟨#[]⟩∧er=1)∨(p.size≤60∧∃ y i,Rds p 0 0 x0 (y,i)∧(((readErr p y).1≠0∧t=⟨#[]⟩∧er=(readErr p y).1)∨((readErr p y).1=0∧∃ n rs k S x,rfF n 0 p 0 0 []=some (rs,((k:Nat):Int))∧Dr rs S (k:Int)∧S.wt≤12∧t=strN x∧TabAns S.L x er)))
end Mc
end Go.Proofs.YtobfpgoepaeknaaGreat
