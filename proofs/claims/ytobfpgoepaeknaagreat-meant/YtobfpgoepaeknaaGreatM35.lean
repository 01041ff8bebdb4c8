/-
  What is compiled of two patterns and a formula.
  veilkeep.short, veilkeep.sameInts.
  The law Meant.
-/
import Derived.Test.YtobfpgoepaeknaaGreatM29
import Derived.Test.YtobfpgoepaeknaaGreatM32
import Derived.Test.YtobfpgoepaeknaaGreatM34
import Derived.Test.YtobfpgoepaeknaaGreatM33
import Derived.Test.YtobfpgoepaeknaaGreatM09
import Derived.Laws.IdiomStrings
import Derived.Great.FillDense
import Derived.Test.YtobfpgoepaeknaaGreatM22
namespace Go.Proofs.YtobfpgoepaeknaaGreat
namespace Mc
open Go.RowKit
theorem goes_10 (x:Sc):(goesS x 10).1=false:=by
 have h1:mayBeEscapedB 10=false:=rfl
 have h2:hexB 10=false:=rfl
 have h3:decB 10=false:=rfl
 have h4:(outsideS x 10).1=false:=rfl
 have h5:(insideS x 10).1=false:=rfl
 unfold goesS
 repeat' split
 all_goals first | exact h4 | exact h5 | simp [h1,h2,h3] | rfl
theorem adv_10 (t:ByteArray):∀ (n k:Nat) (x y:Sc),adv t n k x=some y→∀ j,j < n→byteAt t (k+j)≠10
 | 0,_,_,_,_,j,hj=>by omega
 | n+1,k,x,y,h,j,hj=>by
  simp only [adv] at h
  split at h
  ·rename_i hg
   cases j with
   | zero =>
    intro e
    rw [Nat.add_zero] at e
    rw [e,goes_10] at hg
    cases hg
   | succ j =>
    have:=adv_10 t n (k+1) _ y h j (by omega)
    rw [show k+(j+1)=k+1+j by omega]
    exact this
  ·cases h
theorem bt_byteAt (t:ByteArray) (k:Nat):byteAt t k=((bt t k:Nat):Int):=by
 unfold byteAt bt
 split<;>rfl
theorem gp_10 {p:ByteArray} {v:Val} (h:Gp (bytesN p) v) (hp:p.size≤60):∀ k,k < p.size→bt p k≠10:=fun k hk e=>by
 obtain ⟨-,hs⟩:=h p 0 hp (atW_all p)
 obtain ⟨m',bk',-,-,hg⟩:=hs 0 0 0 (.inl rfl) (by decide)
 have:=adv_10 p _ _ _ _ hg k (by rw [bytesN_len];omega)
 rw [Nat.zero_add,bt_byteAt,e] at this
 exact this rfl
theorem ba_extL {a b:ByteArray} (hs:a.size=b.size) (h:∀ k,k < a.size→bt a k=bt b k):a=b:=by
 apply ByteArray.ext
 apply Array.ext
 ·exact hs
 ·intro k hk1 hk2
  have hk3:k < a.size:=hk1
  have hk4:k < b.size:=hk2
  have:=h k hk3
  rw [←bt_at a k hk3,←bt_at b k hk4] at this
  exact UInt8.toNat.inj this
theorem cutS_on {x:ByteArray} {s:Nat} {L:List ByteArray} (h:cutS x s=(L,s)):∀ n,(∀ j,j < n→bt x (s+j)≠10)→cutS x (s+n)=(L,s)
 | 0,_=>h
 | n+1,hn=>by
  rw [←Nat.add_assoc,cutS_no (hn n (by omega))]
  exact cutS_on h n fun j hj=>hn j (by omega)
theorem cutS_end {x:ByteArray} {s n:Nat} {L:List ByteArray} (h:cutS x s=(L,s)) (hn:∀ j,j < n→bt x (s+j)≠10) (he:bt x (s+n)=10):cutS x (s+n+1)=(L++[x.extract s (s+n)],s+n+1):=by
 have:=cutS_on h n hn
 rw [cutS_yes he,this]
section
variable {p q f : ByteArray}
def polB (p q f:ByteArray):ByteArray:=p++⟨#[10]⟩++q++⟨#[10]⟩++f
theorem polB_size (p q f:ByteArray):(polB p q f).size=p.size+1+q.size+1+f.size:=by
 unfold polB
 rw [ByteArray.size_append,ByteArray.size_append,ByteArray.size_append,ByteArray.size_append];rfl
theorem polB_p {k:Nat} (h:k < p.size):bt (polB p q f) k=bt p k:=by
 have e:(⟨#[10]⟩:ByteArray).size=1:=rfl
 unfold polB
 rw [bt_appB,if_pos (by simp only [ByteArray.size_append,e];omega),bt_appB,if_pos (by simp only [ByteArray.size_append,e];omega),bt_appB,if_pos (by simp only [ByteArray.size_append,e];omega),bt_appB,if_pos h]
theorem polB_1:bt (polB p q f) p.size=10:=by
 have e:(⟨#[10]⟩:ByteArray).size=1:=rfl
 unfold polB
 rw [bt_appB,if_pos (by simp only [ByteArray.size_append,e];omega),bt_appB,if_pos (by simp only [ByteArray.size_append,e];omega),bt_appB,if_pos (by simp only [ByteArray.size_append,e];omega),bt_appB,if_neg (by omega),Nat.sub_self];rfl
theorem polB_q {k:Nat} (h:k < q.size):bt (polB p q f) (p.size+1+k)=bt q k:=by
 have e:(⟨#[10]⟩:ByteArray).size=1:=rfl
 unfold polB
 rw [bt_appB,if_pos (by simp only [ByteArray.size_append,e];omega),bt_appB,if_pos (by simp only [ByteArray.size_append,e];omega),bt_appB,if_neg (by simp only [ByteArray.size_append,e];omega),ByteArray.size_append,e,Nat.add_sub_cancel_left]
theorem polB_2:bt (polB p q f) (p.size+1+q.size)=10:=by
 have e:(⟨#[10]⟩:ByteArray).size=1:=rfl
 unfold polB
 rw [bt_appB,if_pos (by simp only [ByteArray.size_append,e];omega),bt_appB,if_neg (by simp only [ByteArray.size_append,e];omega),ByteArray.size_append,ByteArray.size_append,e,Nat.sub_self];rfl
theorem polB_f {k:Nat}:bt (polB p q f) (p.size+1+q.size+1+k)=bt f k:=by
 have e:(⟨#[10]⟩:ByteArray).size=1:=rfl
 unfold polB
 rw [bt_appB,if_neg (by simp only [ByteArray.size_append,e];omega),ByteArray.size_append,ByteArray.size_append,ByteArray.size_append,e,Nat.add_sub_cancel_left]
theorem polB_cut (hp:∀ k,k < p.size→bt p k≠10) (hq:∀ k,k < q.size→bt q k≠10) (hf:∀ k,k < f.size→bt f k≠10):cutL (polB p q f)=[p,q]∧cutR (polB p q f)=f:=by
 have hz:=polB_size p q f
 have e1:(polB p q f).extract 0 (0+p.size)=p:=ba_extL (by rw [ByteArray.size_extract];omega) fun k hk=>by
  rw [ByteArray.size_extract] at hk
  rw [bt_ext,if_pos (by omega),Nat.zero_add,polB_p (by omega)]
 have c1:=cutS_end (x:=polB p q f) (s:=0) (n:=p.size) (L:=[]) rfl (fun j hj=>by rw [Nat.zero_add,polB_p hj];exact hp j hj) (by rw [Nat.zero_add];exact polB_1)
 rw [e1,Nat.zero_add] at c1
 have e2:(polB p q f).extract (p.size+1) (p.size+1+q.size)=q:=ba_extL (by rw [ByteArray.size_extract];omega) fun k hk=>by
  rw [ByteArray.size_extract] at hk
  rw [bt_ext,if_pos (by omega),polB_q (by omega)]
 have c2:=cutS_end c1 (n:=q.size) (fun j hj=>by rw [polB_q hj];exact hq j hj) polB_2
 rw [e2] at c2
 have c3:=cutS_on c2 f.size (fun j hj=>by rw [polB_f];exact hf j hj)
 rw [←hz] at c3
 unfold cutL cutR
 rw [c3]
 refine ⟨rfl,?_⟩
 exact ba_extL (by rw [ByteArray.size_extract];omega) fun k hk=>by
  rw [ByteArray.size_extract] at hk
  rw [bt_ext,if_pos (by omega)]
  exact polB_f
end
theorem form_10 {k:Nat} (hk:k < 10):∀ j,j < (formS k).size→bt (formS k) j≠10:=by
 rcases lt10 hk with rfl | rfl | rfl | rfl | rfl | rfl | rfl | rfl | rfl | rfl<;>decide +kernel
theorem form_ok {k:Nat} (hk:k < 10):(fcheck 2 (formS k)).1=0:=fcheck_ok.1.2 ⟨by have:=form_size hk;omega,form_scan hk⟩
section
variable {p : ByteArray} {v : Val}
theorem made_pat (hG:Gp (bytesN p) v) (hp:p.size≤60) (hw:v.2≤4) {t:ByteArray} {er:Int} (h:PatA p t er):er=0∧∃ S C nx gr cl nc,t=strN (layTab S C cl gr nc)∧TabOf v.1 S C nx gr cl nc:=by
 rcases h with ⟨h60,-,-⟩ | ⟨-,y,i,hr,hrest⟩
 ·omega
 ·obtain ⟨g1,g2⟩:=hG.answer hp (atW_all p) (bytesN_len p) (by omega) hr
  rcases hrest with ⟨h0,-,-⟩ | ⟨-,n,rs,k,S,x,f1,f2,f3,rfl,hT⟩
  ·exact absurd g1 h0
  ·obtain ⟨n',rs',k',r1,S',r2,r3⟩:=hG.reads hp (atW_all p) (bytesN_len p)
   have hsame:=rf_same f1 r1
   simp only [Prod.mk.injEq] at hsame
   obtain ⟨rfl,rfl⟩:=hsame
   have e1:S=S':=Dr.same f2 r2
   subst e1
   have eL:S.L=v.1:=congrArg Prod.fst r3
   have eW:S.wt=v.2:=congrArg Prod.snd r3
   rcases hT with ⟨rfl,S',C,nx,gr,cl,nc,ht,rfl⟩ | ⟨-,-,hm⟩
   ·rw [eL] at ht
    exact ⟨rfl,S',C,nx,gr,cl,nc,rfl,ht⟩
   ·exact absurd hm (not_many (by omega))
end
theorem same_of {a t:TabN} (ha:a.Ok) (ht:t.Ok) (h:tbS a=tbS t):SameT a t:=by
 have hS:a.S=t.S:=by rw [←tbS_0 ha,h,tbS_0 ht]
 have hC:a.C=t.C:=by rw [←tbS_1 ha,h,tbS_1 ht]
 refine ⟨hS,hC,fun b hb=>by rw [←tbS_cl ha hb,h,tbS_cl ht hb],fun q hq=>?_,fun q c hq hc=>?_⟩
 ·have h1:=tbS_gr ha (q:=q) (by omega)
  have h2:=tbS_gr ht hq
  rw [h,h2] at h1
  revert h1
  cases a.gr q<;>cases t.gr q<;>simp
 ·have h1:=tbS_nx ha (q:=q) (c:=c) (by omega) (by omega)
  have h2:=tbS_nx ht hq hc
  rw [h,hS,hC,h2] at h1
  exact h1.symm
theorem SameT.trans {a b c:TabN} (h:SameT a b) (k:SameT b c):SameT a c :=
 ⟨h.S.trans k.S,h.C.trans k.C,fun x hx=>(h.cl x hx).trans (k.cl x hx),fun q hq=>(h.gr q (by rw [k.S];exact hq)).trans (k.gr q hq),fun q c hq hc=>(h.nx q c (by rw [k.S];exact hq) (by rw [k.C];exact hc)).trans (k.nx q c hq hc)⟩
theorem SameT.fold {a t:TabN} (h:SameT a t) (ht:t.Ok):∀ (bs:List Nat) (q:Nat),bytesOk bs→q < t.S→bs.foldl (fun q b=>a.nx q (a.cl b)) q=bs.foldl (fun q b=>t.nx q (t.cl b)) q∧bs.foldl (fun q b=>t.nx q (t.cl b)) q < t.S
 | [],q,_,hq=>⟨rfl,hq⟩
 | b ::bs,q,hb,hq=>by
  have hb':=bytesOk_tail hb
  have e:a.nx q (a.cl b)=t.nx q (t.cl b):=by rw [h.cl b hb'.1,h.nx q _ hq (ht.cl b hb'.1)]
  simp only [List.foldl_cons,e]
  exact SameT.fold h ht bs _ hb'.2 (ht.nx _ _ hq (ht.cl b hb'.1))
theorem SameT.grants {a t:TabN} (h:SameT a t) (ht:t.Ok) {bs:List Nat} (hb:bytesOk bs):a.gr (a.run bs)=t.gr (t.run bs):=by
 obtain ⟨h1,h2⟩:=h.fold ht bs 0 hb ht.s1
 show a.gr (bs.foldl _ 0)=t.gr (bs.foldl _ 0)
 rw [h1]
 exact h.gr _ h2
theorem run_dRun {L:List Nat→Prop} {S C:Nat} {nx:Nat→Nat→Nat} {gr:Nat→Bool} {cl:Nat→Nat} {nc:Nat→Nat→Nat} (h:TabOf L S C nx gr cl nc):∀ (bs:List Nat) (q:Nat),bytesOk bs→q < S→bs.foldl (fun q b=>nc q (cl b)) q=dRun nx q bs
 | [],_,_,_=>rfl
 | b ::bs,q,hb,hq=>by
  have hb':=bytesOk_tail hb
  rw [List.foldl_cons,h.nc q b hq hb'.1]
  exact run_dRun h bs _ hb'.2 (h.dfa.lt q b hq hb'.1)
theorem btsN_bytesN (s:ByteArray):btsN s=bytesN s:=by
 apply List.ext_getElem?
 intro k
 unfold btsN bytesN
 rw [List.getElem?_map,List.getElem?_map]
 by_cases hk:k < s.size
 ·have hk2:k < s.data.toList.length:=by simpa using hk
  rw [List.getElem?_range hk,List.getElem?_eq_getElem hk2,Option.map_some,Option.map_some,←bt_at s k hk]
  rfl
 ·rw [List.getElem?_eq_none (by simp;omega),List.getElem?_eq_none (by simpa using hk)]
  rfl
theorem tab_says {L:List Nat→Prop} {S C:Nat} {nx:Nat→Nat→Nat} {gr:Nat→Bool} {cl:Nat→Nat} {nc:Nat→Nat→Nat} (h:TabOf L S C nx gr cl nc) {a t:TabN} (ha:SameT a t) (ht:t.Ok) (hs:tbS t=strN (layTab S C cl gr nc)) {bs:List Nat} (hb:bytesOk bs):a.gr (a.run bs)=true↔L bs:=by
 have h2:SameT t ⟨S,C,cl,gr,nc⟩:=same_of ht (tab_ok h) hs
 rw [(ha.trans h2).grants (tab_ok h) hb]
 show gr (bs.foldl (fun q b=>nc q (cl b)) 0)=true↔_
 rw [run_dRun h bs 0 hb h.dfa.pos]
 exact h.dfa.says bs hb
end Mc
end Go.Proofs.YtobfpgoepaeknaaGreat
namespace Go.Proofs.YtobfpgoepaeknaaGreat
namespace Mc
open Go.RowKit
attribute [local go_sem ↓] Go.wp_at_zero Go.wp_at_succ
def kshortS (s:ByteArray) (n:Nat):ByteArray:=if n < s.size then s.extract 0 n else s
theorem kshortS_le (s:ByteArray) (n:Nat):(kshortS s n).size≤n:=by
 unfold kshortS
 split
 ·rw [ByteArray.size_extract];omega
 ·omega
set_option maxRecDepth 20000 in
theorem kshort_any (w:World) (s:ByteArray) (n:Nat) (hs:s.size≤9223372036854775807) (hn:n≤1000):Calls Tryz.prog 12 #[.string s,.int .i64 (n:Int)] w fun e w'=>e=.returned (.string (kshortS s n))∧w'=w:=by
 have hsI:(s.size:Int)≤9223372036854775807:=by omega
 have hnI:(n:Int)≤1000:=by omega
 have h0:(0:Int)≤(n:Int):=by omega
 have h1:((n:Int)).toNat=n:=by omega
 unfold kshortS
 by_cases h:n < s.size
 ·rw [if_pos h]
  have hI:(n:Int) < (s.size:Int):=by omega
  have hI2:(n:Int)≤(s.size:Int):=by omega
  clear h hs hn
  go_enter Tryz.func12,Tryz.ntmps12
  go_wp2_with fail
  go_ret
  exact ⟨rfl,rfl⟩
 ·rw [if_neg h]
  have hI:(s.size:Int)≤(n:Int):=by omega
  clear h hs hn
  go_enter Tryz.func12,Tryz.ntmps12
  go_wp2_with fail
  go_ret
  exact ⟨rfl,rfl⟩
end Mc
end Go.Proofs.YtobfpgoepaeknaaGreat
namespace Go.Proofs.YtobfpgoepaeknaaGreat
namespace Mc
open Go.RowKit
attribute [local go_sem ↓] Go.wp_at_zero Go.wp_at_succ
section
variable {p q : ByteArray} {u u2 : Val} {k : Nat}
theorem meant_comp (hp:Gp (bytesN p) u) (hq:Gp (bytesN q) u2) (hps:p.size≤50) (hqs:q.size≤50) (hu:u.2≤4) (hu2:u2.2≤4) (hk:k < 10) {x:ByteArray} {er at_:Int} (h:CpA (polB p q (formS k)) 16 x er at_) :
  er=0∧∃ ts:Nat→TabN,x=imB 16 (formS k) 2 (fun j=>tbS (ts j))∧(∀ j,j < 2→(ts j).Ok)∧PatA p (tbS (ts 0)) 0∧PatA q (tbS (ts 1)) 0:=by
 obtain ⟨hL,hR⟩:=polB_cut (gp_10 hp (by omega)) (gp_10 hq (by omega)) (form_10 hk)
 have hlen:(cutL (polB p q (formS k))).length=2:=by rw [hL];rfl
 rcases h with ⟨hE,-⟩ | ⟨N,ts,hO,rfl,rfl,-⟩
 ·exfalso
  rcases hE with ⟨h,rfl,rfl⟩ | ⟨h,hn,rfl,rfl⟩ | ⟨h,hn,hl,rfl,rfl⟩ | ⟨h,hn,hl,i,hi,hb,he,hpa,rfl⟩ | ⟨h,hn,hl,hb,hf,rfl,rfl⟩
  ·have:=form_size hk;rw [polB_size] at h;omega
  ·exact hn (by decide)
  ·rw [hlen] at hl;omega
  ·rw [hlen] at hi
   rw [hL] at hpa
   have hi2:i=0∨i=1:=by omega
   rcases hi2 with rfl | rfl
   ·exact he (made_pat hp (by omega) hu hpa).1
   ·exact he (made_pat hq (by omega) hu2 hpa).1
  ·rw [hlen,hR,form_ok hk] at hf
   cases hf
 ·have hN:N=16:=by have:=hO.n_;omega
  subst hN
  refine ⟨rfl,ts,by rw [hR,hlen],fun j hj=>hO.ok j (by rw [hlen];exact hj),?_,?_⟩
  ·have:=hO.pat 0 (by rw [hlen];decide)
   rw [hL] at this
   exact this
  ·have:=hO.pat 1 (by rw [hlen];decide)
   rw [hL] at this
   exact this
theorem meant_val (hp:Gp (bytesN p) u) (hq:Gp (bytesN q) u2) (hps:p.size≤50) (hqs:q.size≤50) (hu:u.2≤4) (hu2:u2.2≤4) (hk:k < 10) {ts:Nat→TabN} (hok:∀ j,j < 2→(ts j).Ok) (h0:PatA p (tbS (ts 0)) 0) (h1:PatA q (tbS (ts 1)) 0) {s:ByteArray} {a b:Bool} (ha:a=true↔u.1 (bytesN s)) (hb:b=true↔u2.1 (bytesN s)) :
  ImOk (imB 16 (formS k) 2 (fun j=>tbS (ts j)))∧bt (imB 16 (formS k) 2 (fun j=>tbS (ts j))) 2=16∧imV (imB 16 (formS k) 2 (fun j=>tbS (ts j))) s=holdsB k a b:=by
 obtain ⟨hI,hF,hN,hm,hT⟩:=imB_ok (N:=16) (m:=2) (f:=formS k) (ts:=ts) (by omega) (by omega) (by omega) (form_ok hk) hok
 refine ⟨hI,hN,?_⟩
 obtain ⟨-,S,C,nx,gr,cl,nc,e0,t0⟩:=made_pat hp (by omega) hu h0
 obtain ⟨-,S2,C2,nx2,gr2,cl2,nc2,e1,t1⟩:=made_pat hq (by omega) hu2 h1
 have g0:=tab_says t0 (hT 0 (by omega)) (hok 0 (by omega)) e0 (bytesOk_bytesN s)
 have g1:=tab_says t1 (hT 1 (by omega)) (hok 1 (by omega)) e1 (bytesOk_bytesN s)
 generalize imB 16 (formS k) 2 (fun j=>tbS (ts j))=x at *
 unfold imV
 rw [hF,hm,←form_true hk,btsN_bytesN]
 congr 1
 show [(imT x 0).gr ((imT x 0).run (bytesN s)),(imT x 1).gr ((imT x 1).run (bytesN s))]=_
 rw [show (imT x 0).gr ((imT x 0).run (bytesN s))=a from Bool.eq_iff_iff.2 (g0.trans ha.symm),show (imT x 1).gr ((imT x 1).run (bytesN s))=b from Bool.eq_iff_iff.2 (g1.trans hb.symm)]
end
theorem match_made (w:World) {p s:ByteArray} {u:Val} (hp:Gp (bytesN p) u) (hps:p.size≤50) (hu:u.2≤4) (hs:s.size≤16) :
  Calls Tryz.prog 17 #[.string p,.string s] w fun e w'=>∃ a,e=.returned (.tuple #[.bool a,.int .i64 0])∧(a=true↔u.1 (bytesN s))∧Below w.heap.size w w':=by
 refine (VMatch_any w p s (by omega) hs).mono ?_
 rintro e w' ⟨y,i,b,hr,rfl,hb,-,hok⟩
 obtain ⟨g1,g2⟩:=hp.answer (by omega) (atW_all p) (bytesN_len p) (by omega) hr
 obtain ⟨n,rs,k,S,f1,f2,f3⟩:=hok g1
 refine ⟨b,by rw [g1],?_,hb⟩
 rw [f3,g2 n rs k S f1 f2]
set_option maxRecDepth 20000 in
set_option maxHeartbeats 4000000 in
theorem Meant_any (raw other:ByteArray) (k:Int) (s:ByteArray) (w:World) (h1:raw.size≤9223372036854775807) (h2:other.size≤9223372036854775807) (hk1:-9223372036854775808≤k) (hk2:k≤9223372036854775807) (hs:s.size≤9223372036854775807) :
  Calls Tryz.prog 5 #[.string raw,.string other,.int .i64 k,.string s] w fun e w'=>e=.returned (.bool true)∧Below w.heap.size w w':=by
 have HM1:=hide (made_any w raw 4 50 h1 (by omega) (by omega) (by omega))
 have HM2:=hide (fun w=>made_any w other 4 50 h2 (by omega) (by omega) (by omega))
 have HSH:=hide (fun w=>kshort_any w s 16 hs (by omega))
 have HPK:=hide (fun w=>kpick_any w k 10 (by omega) (by omega) hk1 hk2)
 have HK:Hid (pickN k 10 < 10):=pickN_lt k (by omega)
 have HSL:Hid ((kshortS s 16).size≤16):=kshortS_le s 16
 clear h1 h2 hk1 hk2 hs
 generalize kshortS s 16=sh at *
 generalize pickN k 10=kk at *
 have HFO:=hide (fun w=>kform_any w kk (unhide HK))
 have HFS:=hide (form_size (unhide HK))
 go_enter Tryz.func5,Tryz.ntmps5
 go_wp2_with fail
 refine (unhide HM1).mono ?_
 rintro e w1 ⟨⟨p,x1,u,rfl,p1,p2,p3,p4,p5⟩,hb1⟩
 have HB1:=hide hb1
 have HG1:=hide p1.1
 have HU1:Hid (u.2≤4):=by show _≤_;rw [p2];exact p4
 have HZ1:=hide p5
 clear p1 p2 p3 p4 hb1 HM1
 go_wp2_with fail
 refine (unhide HM2 w1).mono ?_
 rintro e w2 ⟨⟨q,x2,u2,rfl,q1,q2,q3,q4,q5⟩,hb2⟩
 have HB2:=hide (below_tr (unhide HB1) hb2)
 have HG2:=hide q1.1
 have HU2:Hid (u2.2≤4):=by show _≤_;rw [q2];exact q4
 have HZ2:=hide q5
 clear q1 q2 q3 q4 hb2 HM2 HB1
 go_wp2_with fail
 refine (unhide HSH w2).mono ?_
 rintro e w3 ⟨rfl,rfl⟩
 go_wp2_with fail
 refine (unhide HPK _).mono ?_
 rintro e w3 ⟨rfl,rfl⟩
 clear HSH HPK
 go_wp2_with fail
 refine (unhide HFO _).mono ?_
 rintro e w4 ⟨rfl,hb4⟩
 have HB4:=hide (below_tr (unhide HB2) hb4)
 have HPS:Hid ((polB p q (formS kk)).size≤9223372036854775807):=by rw [Hid,polB_size];have:=unhide HFS;omega
 have HVC:=hide (VCompile_any w4 (polB p q (formS kk)) 16 (unhide HPS))
 have hz1:¬9223372036854775807 < p.size+1:=by omega
 have hz2:¬9223372036854775807 < p.size+1+q.size:=by omega
 have hz3:¬9223372036854775807 < p.size+1+q.size+1:=by omega
 have hz4:¬9223372036854775807 < p.size+1+q.size+1+(formS kk).size:=by have:=unhide HFS;omega
 have HCC:Hid (∀ x er at_,CpA (polB p q (formS kk)) 16 x er at_→er=0∧∃ ts:Nat→TabN,x=imB 16 (formS kk) 2 (fun j=>tbS (ts j))∧(∀ j,j < 2→(ts j).Ok)∧PatA p (tbS (ts 0)) 0∧PatA q (tbS (ts 1)) 0):=fun x er at_ h=>meant_comp (unhide HG1) (unhide HG2) (unhide HZ1) (unhide HZ2) (unhide HU1) (unhide HU2) (unhide HK) h
 have HMV:Hid (∀ (ts:Nat→TabN),(∀ j,j < 2→(ts j).Ok)→PatA p (tbS (ts 0)) 0→PatA q (tbS (ts 1)) 0→∀ a b:Bool,(a=true↔u.1 (bytesN sh))→(b=true↔u2.1 (bytesN sh))→ImOk (imB 16 (formS kk) 2 (fun j=>tbS (ts j)))∧bt (imB 16 (formS kk) 2 (fun j=>tbS (ts j))) 2=16∧imV (imB 16 (formS kk) 2 (fun j=>tbS (ts j))) sh=holdsB kk a b):=fun ts h1 h2 h3 a b h4 h5=>meant_val (unhide HG1) (unhide HG2) (unhide HZ1) (unhide HZ2) (unhide HU1) (unhide HU2) (unhide HK) h1 h2 h3 h4 h5
 unfold polB at HVC
 clear hb4 HB2 p5 q5
 generalize formS kk=f at *
 go_wp2_with fail
 refine (unhide HVC).mono ?_
 rintro e w5 ⟨hb5,x,er,at_,rfl,hA⟩
 obtain ⟨rfl,ts,rfl,hok,hp0,hq1⟩:=unhide HCC x er at_ hA
 have HB5:=hide (below_tr (unhide HB4) hb5)
 have hz5:=imB_size 16 f 2 (fun j=>tbS (ts j))
 have hjz:=joinT_size (fun j=>tbS (ts j)) 2 (fun j hj=>tbS_le (hok j hj))
 have HXZ:Hid ((imB 16 f 2 (fun j=>tbS (ts j))).size≤9223372036854775807):=by have:=unhide HFS;show _≤_;omega
 have HCK:=hide (VCheck_any w5 (imB 16 f 2 (fun j=>tbS (ts j))) sh (unhide HXZ) (by have:=unhide HSL;omega))
 have HMV2:=hide (unhide HMV ts hok hp0 hq1)
 have hne:¬(imB 16 f 2 (fun j=>tbS (ts j))).toList=[]:=fun e=>by
  rw [ByteArray.toList_eq] at e
  have:(imB 16 f 2 (fun j=>tbS (ts j))).size=0:=by have:=congrArg List.length e;rwa [Array.length_toList] at this
  omega
 clear hb5 hA HCC HMV hok hp0 hq1 hz1 hz2 hz3 hz4 HVC hz5 hjz HXZ HPS
 generalize imB 16 f 2 (fun j=>tbS (ts j))=x at *
 go_wp2_with fail
 have hIM:ImOk x∧bt x 2=16:=by
  have:=unhide HMV2 (@decide (u.1 (bytesN sh)) (Classical.propDecidable _)) (@decide (u2.1 (bytesN sh)) (Classical.propDecidable _)) (by simp) (by simp)
  exact ⟨this.1,this.2.1⟩
 have HMV3:Hid (∀ v,imV x sh=v→∀ a b:Bool,(a=true↔u.1 (bytesN sh))→(b=true↔u2.1 (bytesN sh))→v=holdsB kk a b):=fun v hv a b ha hb=>by rw [←hv];exact (unhide HMV2 a b ha hb).2.2
 refine (unhide HCK).mono ?_
 rintro e w6 ⟨hb6,⟨-,-,tv,rfl,hnr⟩ | ⟨-,hbad,-⟩ | ⟨hbad,-⟩⟩
 ·obtain ⟨tva,tvc,rfl⟩:=hnr.form
  have HB6:=hide (below_tr (unhide HB5) hb6)
  obtain ⟨v,hv⟩:∃ v,imV x sh=v:=⟨_,rfl⟩
  have HV:=hide (unhide HMV3 v hv)
  rw [hv]
  generalize (imTr x).length=tl at *
  clear hb6 hnr HCK HMV2 HMV3 hv HB5 HB4
  go_wp2_with fail
  refine (match_made w6 (unhide HG1) (unhide HZ1) (unhide HU1) (unhide HSL)).mono ?_
  rintro e w7 ⟨a,rfl,ha,hb7⟩
  have HB7:=hide (below_tr (unhide HB6) hb7)
  have HA:=hide ha
  clear hb7 ha HB6
  go_wp2_with fail
  refine (match_made w7 (unhide HG2) (unhide HZ2) (unhide HU2) (unhide HSL)).mono ?_
  rintro e w8 ⟨b,rfl,hb,hb8⟩
  have HB8:=hide (below_tr (unhide HB7) hb8)
  obtain rfl:=unhide HV a b (unhide HA) hb
  clear hb8 hb HB7 HA HV
  go_wp2_with (go_at_call 18;refine (kholds_any _ kk (unhide HK) a b).mono ?_;rintro e w' ⟨rfl,rfl⟩)
  go_ret
  exact ⟨by first | rfl | exact ret_bool (by simp [hne]),unhide HB8⟩
 ·have:=hIM.2
  have:=unhide HSL
  omega
 ·exact absurd hIM.1 hbad
end Mc
end Go.Proofs.YtobfpgoepaeknaaGreat
