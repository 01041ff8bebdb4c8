/-
  The patterns that are made: turned.
  The patterns that are made: turned, with a number of times; made.
  The law Least: what is made of a text has a table, and the table is the least.
-/
import Derived.Test.YtobfpgoepaeknaaGreatM31
import Derived.Test.YtobfpgoepaeknaaGreatM23
import Derived.Deep.QuietTactic
import Derived.BigQuiet
import Derived.Test.YtobfpgoepaeknaaGreatM22
namespace Go.Proofs.YtobfpgoepaeknaaGreat
open Go.RowKit
attribute [local go_sem ↓] Go.wp_at_zero Go.wp_at_succ
def Turned (e:Ending):Prop:=∃ (q:ByteArray) (x:Int) (u:Val),e=.returned (.tuple #[.string q,.int .i64 x])∧Gq (bytesN q) u∧u.2=x∧1≤x∧x≤4000∧q.size≤100
theorem par_bytes (t:ByteArray):bytesN (({ data:=#[40] }:ByteArray)++t++{ data:=#[41] })=parT (bytesN t):=by
 rw [bytesN_app,bytesN_app];rfl
theorem par_size (t:ByteArray):(({ data:=#[40] }:ByteArray)++t++{ data:=#[41] }).size=t.size+2:=by
 rw [ByteArray.size_append,ByteArray.size_append];show 1+t.size+1=_;omega
set_option maxHeartbeats 1000000 in
theorem turned_0 (w:World) (t:ByteArray) (wt:Int) (c k:Nat) (v:Val) (hG:Gq (bytesN t) v) (hv:v.2=wt) (h0:1≤wt) (h1:wt≤1000) (ht:t.size≤60) (hk:k≤31) (e1:(c:Int) / 8=(k:Int)) (e2:(c:Int) % 8=0) (hc:(c:Int) < 256) :
  Calls Tryz.prog 30 #[.string t,.int .i64 wt,.int .i64 (c:Int)] w fun e w'=>Turned e∧Below w.heap.size w w':=by
 have HA:=hide (atom_any w k (by omega))
 have HG:=hide hG
 have HV:=hide hv
 have HK:=hide (show k % 16 < 16 by omega)
 have HT:=hide ht
 clear hG hv hk
 go_enter Tryz.func30,Tryz.ntmps30
 go_wp2_with fail
 refine (unhide HA).mono ?_
 rintro e w1 ⟨⟨a,rfl,ha⟩,hw1⟩
 have has:a.size≤9:=by rw [←bytesN_len,ha];exact atom_size _ (unhide HK)
 have HAB:=hide ha
 have HW:=hide hw1
 clear ha hw1 HA
 go_wp2
 go_ret2
 obtain ⟨ua,hA,hw⟩:=atom_tab _ (unhide HK)
 have hv:=unhide HV
 have ht:=unhide HT
 refine ⟨⟨({ data:=#[40] }++t++{ data:=#[41] })++a,wt+1,catV v ua,rfl,?_,?_,by omega,by omega,?_⟩,unhide HW⟩
 ·rw [bytesN_app,par_bytes,unhide HAB]
  exact ((Gp.par (unhide HG).1).i.cat hA.i.b hA.1).q
 ·show v.2+ua.2=_;omega
 ·rw [ByteArray.size_append,par_size];omega
set_option maxHeartbeats 1000000 in
theorem turned_1 (w:World) (t:ByteArray) (wt:Int) (c k:Nat) (v:Val) (hG:Gq (bytesN t) v) (hv:v.2=wt) (h0:1≤wt) (h1:wt≤1000) (ht:t.size≤60) (hk:k≤31) (e1:(c:Int) / 8=(k:Int)) (e2:(c:Int) % 8=1) (hc:(c:Int) < 256) :
  Calls Tryz.prog 30 #[.string t,.int .i64 wt,.int .i64 (c:Int)] w fun e w'=>Turned e∧Below w.heap.size w w':=by
 have HA:=hide (atom_any w k (by omega))
 have HG:=hide hG
 have HV:=hide hv
 have HK:=hide (show k % 16 < 16 by omega)
 have HT:=hide ht
 clear hG hv hk
 go_enter Tryz.func30,Tryz.ntmps30
 go_wp2_with fail
 refine (unhide HA).mono ?_
 rintro e w1 ⟨⟨a,rfl,ha⟩,hw1⟩
 have has:a.size≤9:=by rw [←bytesN_len,ha];exact atom_size _ (unhide HK)
 have HAB:=hide ha
 have HW:=hide hw1
 clear ha hw1 HA
 go_wp2
 go_ret2
 obtain ⟨ua,hA,hw⟩:=atom_tab _ (unhide HK)
 have hv:=unhide HV
 have ht:=unhide HT
 refine ⟨⟨t++{ data:=#[124] }++a,wt+1,altV v ua,rfl,?_,?_,by omega,by omega,?_⟩,unhide HW⟩
 ·rw [bytesN_app,bytesN_app,unhide HAB,List.append_assoc]
  exact (unhide HG).alt hA.i.b
 ·show v.2+ua.2=_;omega
 ·rw [ByteArray.size_append,ByteArray.size_append];show t.size+1+a.size≤100;omega
set_option maxHeartbeats 1000000 in
theorem turned_2 (w:World) (t:ByteArray) (wt:Int) (c k:Nat) (v:Val) (hG:Gq (bytesN t) v) (hv:v.2=wt) (h0:1≤wt) (h1:wt≤1000) (ht:t.size≤60) (hk:k≤31) (e1:(c:Int) / 8=(k:Int)) (e2:(c:Int) % 8=2) (hc:(c:Int) < 256) :
  Calls Tryz.prog 30 #[.string t,.int .i64 wt,.int .i64 (c:Int)] w fun e w'=>Turned e∧Below w.heap.size w w':=by
 have HA:=hide (atom_any w k (by omega))
 have HG:=hide hG
 have HV:=hide hv
 have HK:=hide (show k % 16 < 16 by omega)
 have HT:=hide ht
 clear hG hv hk
 go_enter Tryz.func30,Tryz.ntmps30
 go_wp2_with fail
 refine (unhide HA).mono ?_
 rintro e w1 ⟨⟨a,rfl,ha⟩,hw1⟩
 have has:a.size≤9:=by rw [←bytesN_len,ha];exact atom_size _ (unhide HK)
 have HAB:=hide ha
 have HW:=hide hw1
 clear ha hw1 HA
 go_wp2
 go_ret2
 have hv:=unhide HV
 have ht:=unhide HT
 refine ⟨⟨({ data:=#[40] }++t++{ data:=#[41] })++{ data:=#[42] },wt,starV v,rfl,?_,?_,by omega,by omega,?_⟩,unhide HW⟩
 ·rw [bytesN_app,par_bytes]
  exact (Gi.of (Gp.par (unhide HG).1) Gs.star).b.q
 ·exact hv
 ·rw [ByteArray.size_append,par_size];show t.size+2+1≤100;omega
set_option maxHeartbeats 1000000 in
theorem turned_3 (w:World) (t:ByteArray) (wt:Int) (c k:Nat) (v:Val) (hG:Gq (bytesN t) v) (hv:v.2=wt) (h0:1≤wt) (h1:wt≤1000) (ht:t.size≤60) (hk:k≤31) (e1:(c:Int) / 8=(k:Int)) (e2:(c:Int) % 8=3) (hc:(c:Int) < 256) :
  Calls Tryz.prog 30 #[.string t,.int .i64 wt,.int .i64 (c:Int)] w fun e w'=>Turned e∧Below w.heap.size w w':=by
 have HA:=hide (atom_any w k (by omega))
 have HG:=hide hG
 have HV:=hide hv
 have HK:=hide (show k % 16 < 16 by omega)
 have HT:=hide ht
 clear hG hv hk
 go_enter Tryz.func30,Tryz.ntmps30
 go_wp2_with fail
 refine (unhide HA).mono ?_
 rintro e w1 ⟨⟨a,rfl,ha⟩,hw1⟩
 have has:a.size≤9:=by rw [←bytesN_len,ha];exact atom_size _ (unhide HK)
 have HAB:=hide ha
 have HW:=hide hw1
 clear ha hw1 HA
 go_wp2
 go_ret2
 have hv:=unhide HV
 have ht:=unhide HT
 refine ⟨⟨({ data:=#[40] }++t++{ data:=#[41] })++{ data:=#[63] },wt,optV v,rfl,?_,?_,by omega,by omega,?_⟩,unhide HW⟩
 ·rw [bytesN_app,par_bytes]
  exact (Gi.of (Gp.par (unhide HG).1) Gs.opt).b.q
 ·exact hv
 ·rw [ByteArray.size_append,par_size];show t.size+2+1≤100;omega
set_option maxHeartbeats 1000000 in
theorem turned_6 (w:World) (t:ByteArray) (wt:Int) (c k:Nat) (v:Val) (hG:Gq (bytesN t) v) (hv:v.2=wt) (h0:1≤wt) (h1:wt≤1000) (ht:t.size≤60) (hk:k≤31) (e1:(c:Int) / 8=(k:Int)) (e2:(c:Int) % 8=6) (hc:(c:Int) < 256) :
  Calls Tryz.prog 30 #[.string t,.int .i64 wt,.int .i64 (c:Int)] w fun e w'=>Turned e∧Below w.heap.size w w':=by
 have HA:=hide (atom_any w k (by omega))
 have HG:=hide hG
 have HV:=hide hv
 have HK:=hide (show k % 16 < 16 by omega)
 have HT:=hide ht
 clear hG hv hk
 go_enter Tryz.func30,Tryz.ntmps30
 go_wp2_with fail
 refine (unhide HA).mono ?_
 rintro e w1 ⟨⟨a,rfl,ha⟩,hw1⟩
 have has:a.size≤9:=by rw [←bytesN_len,ha];exact atom_size _ (unhide HK)
 have HAB:=hide ha
 have HW:=hide hw1
 clear ha hw1 HA
 go_wp2
 go_ret2
 have hv:=unhide HV
 have ht:=unhide HT
 refine ⟨⟨({ data:=#[40] }++t++{ data:=#[41] })++{ data:=#[43] },wt,plusV v,rfl,?_,?_,by omega,by omega,?_⟩,unhide HW⟩
 ·rw [bytesN_app,par_bytes]
  exact (Gi.of (Gp.par (unhide HG).1) Gs.plus).b.q
 ·exact hv
 ·rw [ByteArray.size_append,par_size];show t.size+2+1≤100;omega
set_option maxHeartbeats 1000000 in
theorem turned_5 (w:World) (t:ByteArray) (wt:Int) (c k:Nat) (v:Val) (hG:Gq (bytesN t) v) (hv:v.2=wt) (h0:1≤wt) (h1:wt≤1000) (ht:t.size≤60) (hk:k≤31) (e1:(c:Int) / 8=(k:Int)) (e2:(c:Int) % 8=5) (hc:(c:Int) < 256) :
  Calls Tryz.prog 30 #[.string t,.int .i64 wt,.int .i64 (c:Int)] w fun e w'=>Turned e∧Below w.heap.size w w':=by
 have HA:=hide (atom_any w k (by omega))
 have HG:=hide hG
 have HV:=hide hv
 have HK:=hide (show k % 16 < 16 by omega)
 have HT:=hide ht
 clear hG hv hk
 go_enter Tryz.func30,Tryz.ntmps30
 go_wp2_with fail
 refine (unhide HA).mono ?_
 rintro e w1 ⟨⟨a,rfl,ha⟩,hw1⟩
 have has:a.size≤9:=by rw [←bytesN_len,ha];exact atom_size _ (unhide HK)
 have HAB:=hide ha
 have HW:=hide hw1
 clear ha hw1 HA
 go_wp2
 go_ret2
 obtain ⟨ua,hA,hw⟩:=atom_tab _ (unhide HK)
 have hv:=unhide HV
 have ht:=unhide HT
 refine ⟨⟨a++({ data:=#[40] }++t++{ data:=#[41] }),wt+1,catV ua v,rfl,?_,?_,by omega,by omega,?_⟩,unhide HW⟩
 ·rw [bytesN_app,par_bytes,unhide HAB]
  exact (hA.i.cat (Gp.par (unhide HG).1).i.b (parT_lead _)).q
 ·show ua.2+v.2=_;omega
 ·rw [ByteArray.size_append,par_size];omega
set_option maxHeartbeats 1000000 in
theorem turned_7 (w:World) (t:ByteArray) (wt:Int) (c k:Nat) (v:Val) (hG:Gq (bytesN t) v) (hv:v.2=wt) (_h0:1≤wt) (_h1:wt≤1000) (ht:t.size≤60) (hk:k≤31) (e1:(c:Int) / 8=(k:Int)) (e2:(c:Int) % 8=7) (hc:(c:Int) < 256) :
  Calls Tryz.prog 30 #[.string t,.int .i64 wt,.int .i64 (c:Int)] w fun e w'=>Turned e∧Below w.heap.size w w':=by
 have HA:=hide (atom_any w k (by omega))
 have HG:=hide hG
 have HV:=hide hv
 have HK:=hide (show k % 16 < 16 by omega)
 have HT:=hide ht
 clear hG hv hk
 go_enter Tryz.func30,Tryz.ntmps30
 go_wp2_with fail
 refine (unhide HA).mono ?_
 rintro e w1 ⟨⟨a,rfl,ha⟩,hw1⟩
 have has:a.size≤9:=by rw [←bytesN_len,ha];exact atom_size _ (unhide HK)
 have HAB:=hide ha
 have HW:=hide hw1
 clear ha hw1 HA
 go_wp2
 go_ret2
 obtain ⟨ua,hA,hw⟩:=atom_tab _ (unhide HK)
 refine ⟨⟨a,1,ua,rfl,?_,?_,by omega,by omega,?_⟩,unhide HW⟩
 ·rw [unhide HAB]
  exact hA.i.b.q
 ·exact hw
 ·omega
end Go.Proofs.YtobfpgoepaeknaaGreat
namespace Go.Proofs.YtobfpgoepaeknaaGreat
open Go.RowKit
attribute [local go_sem ↓] Go.wp_at_zero Go.wp_at_succ
set_option maxRecDepth 20000 in
set_option maxHeartbeats 400000 in
theorem turned_4a (w:World) (t:ByteArray) (wt:Int) (c k:Nat) (v:Val) (hG:Gq (bytesN t) v) (hv:v.2=wt) (h0:1≤wt) (_h1:wt≤1000) (ht:t.size≤60) (hk:k≤31) (e1:(c:Int) / 8=(k:Int)) (e2:(c:Int) % 8=4) (hc:(c:Int) < 256) (m k4 n:Nat) (e3:(k:Int) % 4=(m:Int)) (e4:(k:Int) / 4=(k4:Int)) (e5:(k4:Int) % 4=(n:Int)) (hz:wt * (n:Int) < 1) :
  Calls Tryz.prog 30 #[.string t,.int .i64 wt,.int .i64 (c:Int)] w fun e w'=>Turned e∧Below w.heap.size w w':=by
 have l1:(m:Int) < 4:=by omega
 have l2:(n:Int) < 4:=by omega
 have b1:0≤wt * (n:Int):=Int.mul_nonneg (by omega) (by omega)
 have b2:wt * (n:Int)≤4000:=by
  have:wt * (n:Int)≤wt * 3:=Int.mul_le_mul_of_nonneg_left (by omega) (by omega)
  omega
 have HA:=hide (atom_any w k (by omega))
 have HG:=hide hG
 have HV:=hide hv
 have HK:=hide (show k % 16 < 16 by omega)
 have HT:=hide ht
 clear hG hv hk
 go_enter Tryz.func30,Tryz.ntmps30
 go_wp2_with fail
 refine (unhide HA).mono ?_
 rintro e w1 ⟨⟨a,rfl,ha⟩,hw1⟩
 have has:a.size≤9:=by rw [←bytesN_len,ha];exact atom_size _ (unhide HK)
 have HAB:=hide ha
 have HW:=hide hw1
 clear ha hw1 HA
 have HM:=hide (show bytesN (digitsB.extract m (m+1))=[48+m] by rw [digits_at m (by omega)];unfold hexd;rw [if_pos (by omega)])
 have HN:=hide (show bytesN (digitsB.extract n (n+1))=[48+n] by rw [digits_at n (by omega)];unfold hexd;rw [if_pos (by omega)])
 go_wp2
 go_quiet (fail)
 go_wp2
 go_ret2
 have hv:=unhide HV
 have ht:=unhide HT
 have hb:bytesN (({ data:=#[40] }++t++{ data:=#[41] })++{ data:=#[123] }++digitsB.extract m (m+1)++{ data:=#[44] }++digitsB.extract n (n+1)++{ data:=#[125] })=parT (bytesN t)++[123,48+m,44,48+n,125]:=by
  rw [bytesN_app,bytesN_app,bytesN_app,bytesN_app,bytesN_app,par_bytes,unhide HM,unhide HN];simp [bytesN]
 refine ⟨?_,below_drewN (unhide HW) _⟩
 have key:Gq (bytesN (({ data:=#[40] }++t++{ data:=#[41] })++{ data:=#[123] }++digitsB.extract m (m+1)++{ data:=#[44] }++digitsB.extract n (n+1)++{ data:=#[125] })) (timesV m n v):=by
  rw [hb]
  exact (Gi.of (Gp.par (unhide HG).1) (Gs.times (by omega) (by omega))).b.q
 have k2:(timesV m n v).2=1:=by
  show max1 (v.2 * (n:Int))=_
  rw [hv];unfold max1
  rw [if_pos (by omega)]
 have k3:(({ data:=#[40] }++t++{ data:=#[41] })++{ data:=#[123] }++digitsB.extract m (m+1)++{ data:=#[44] }++digitsB.extract n (n+1)++{ data:=#[125] }).size≤100:=by
  rw [←bytesN_len,hb,List.length_append]
  have:(parT (bytesN t)).length=t.size+2:=by simp [parT,bytesN_len]
  rw [this];simp;omega
 exact ⟨_,1,_,rfl,key,k2,by omega,by omega,k3⟩
set_option maxRecDepth 20000 in
set_option maxHeartbeats 2000000 in
theorem turned_4b (w:World) (t:ByteArray) (wt:Int) (c k:Nat) (v:Val) (hG:Gq (bytesN t) v) (hv:v.2=wt) (h0:1≤wt) (h1:wt≤1000) (ht:t.size≤60) (hk:k≤31) (e1:(c:Int) / 8=(k:Int)) (e2:(c:Int) % 8=4) (hc:(c:Int) < 256) (m k4 n:Nat) (e3:(k:Int) % 4=(m:Int)) (e4:(k:Int) / 4=(k4:Int)) (e5:(k4:Int) % 4=(n:Int)) (hz:1≤wt * (n:Int)) :
  Calls Tryz.prog 30 #[.string t,.int .i64 wt,.int .i64 (c:Int)] w fun e w'=>Turned e∧Below w.heap.size w w':=by
 have l1:(m:Int) < 4:=by omega
 have l2:(n:Int) < 4:=by omega
 have b1:0≤wt * (n:Int):=Int.mul_nonneg (by omega) (by omega)
 have b2:wt * (n:Int)≤4000:=by
  have:wt * (n:Int)≤wt * 3:=Int.mul_le_mul_of_nonneg_left (by omega) (by omega)
  omega
 have HA:=hide (atom_any w k (by omega))
 have HG:=hide hG
 have HV:=hide hv
 have HK:=hide (show k % 16 < 16 by omega)
 have HT:=hide ht
 clear hG hv hk
 go_enter Tryz.func30,Tryz.ntmps30
 go_wp2_with fail
 refine (unhide HA).mono ?_
 rintro e w1 ⟨⟨a,rfl,ha⟩,hw1⟩
 have has:a.size≤9:=by rw [←bytesN_len,ha];exact atom_size _ (unhide HK)
 have HAB:=hide ha
 have HW:=hide hw1
 clear ha hw1 HA
 have HM:=hide (show bytesN (digitsB.extract m (m+1))=[48+m] by rw [digits_at m (by omega)];unfold hexd;rw [if_pos (by omega)])
 have HN:=hide (show bytesN (digitsB.extract n (n+1))=[48+n] by rw [digits_at n (by omega)];unfold hexd;rw [if_pos (by omega)])
 go_wp2
 go_quiet (fail)
 go_wp2
 go_ret2
 have hv:=unhide HV
 have ht:=unhide HT
 have hb:bytesN (({ data:=#[40] }++t++{ data:=#[41] })++{ data:=#[123] }++digitsB.extract m (m+1)++{ data:=#[44] }++digitsB.extract n (n+1)++{ data:=#[125] })=parT (bytesN t)++[123,48+m,44,48+n,125]:=by
  rw [bytesN_app,bytesN_app,bytesN_app,bytesN_app,bytesN_app,par_bytes,unhide HM,unhide HN];simp [bytesN]
 refine ⟨⟨({ data:=#[40] }++t++{ data:=#[41] })++{ data:=#[123] }++digitsB.extract m (m+1)++{ data:=#[44] }++digitsB.extract n (n+1)++{ data:=#[125] },wt * (n:Int),timesV m n v,rfl,?_,?_,by omega,by omega,?_⟩,below_drewN (unhide HW) _⟩
 ·rw [hb]
  exact (Gi.of (Gp.par (unhide HG).1) (Gs.times (by omega) (by omega))).b.q
 ·show max1 (v.2 * (n:Int))=_
  rw [hv];unfold max1
  rw [if_neg (by omega)]
 ·rw [←bytesN_len,hb,List.length_append]
  have:(parT (bytesN t)).length=t.size+2:=by simp [parT,bytesN_len]
  rw [this];simp;omega
theorem turned_any (w:World) (t:ByteArray) (wt:Int) (c:Nat) (v:Val) (hG:Gq (bytesN t) v) (hv:v.2=wt) (h0:1≤wt) (h1:wt≤1000) (ht:t.size≤60) (hc:c < 256) :
  Calls Tryz.prog 30 #[.string t,.int .i64 wt,.int .i64 (c:Int)] w fun e w'=>Turned e∧Below w.heap.size w w':=by
 have e1:(c:Int) / 8=((c / 8:Nat):Int):=by omega
 have hk:c / 8≤31:=by omega
 have hcI:(c:Int) < 256:=by omega
 have h:c % 8=0∨c % 8=1∨c % 8=2∨c % 8=3∨c % 8=4∨c % 8=5∨c % 8=6∨c % 8=7:=by omega
 rcases h with h | h | h | h | h | h | h | h
 ·exact turned_0 w t wt c (c / 8) v hG hv h0 h1 ht hk e1 (by omega) hcI
 ·exact turned_1 w t wt c (c / 8) v hG hv h0 h1 ht hk e1 (by omega) hcI
 ·exact turned_2 w t wt c (c / 8) v hG hv h0 h1 ht hk e1 (by omega) hcI
 ·exact turned_3 w t wt c (c / 8) v hG hv h0 h1 ht hk e1 (by omega) hcI
 ·by_cases hz:wt * ((c / 8 / 4 % 4:Nat):Int) < 1
  ·exact turned_4a w t wt c (c / 8) v hG hv h0 h1 ht hk e1 (by omega) hcI (c / 8 % 4) (c / 8 / 4) (c / 8 / 4 % 4) (by omega) (by omega) (by omega) hz
  ·exact turned_4b w t wt c (c / 8) v hG hv h0 h1 ht hk e1 (by omega) hcI (c / 8 % 4) (c / 8 / 4) (c / 8 / 4 % 4) (by omega) (by omega) (by omega) (by omega)
 ·exact turned_5 w t wt c (c / 8) v hG hv h0 h1 ht hk e1 (by omega) hcI
 ·exact turned_6 w t wt c (c / 8) v hG hv h0 h1 ht hk e1 (by omega) hcI
 ·exact turned_7 w t wt c (c / 8) v hG hv h0 h1 ht hk e1 (by omega) hcI
set_option maxHeartbeats 1000000 in
theorem made_any (w:World) (raw:ByteArray) (most room:Nat) (hraw:raw.size≤9223372036854775807) (hmo:most≤1000) (hro:room≤60) (hm1:1≤most) :
  Calls Tryz.prog 11 #[.string raw,.int .i64 (most:Int),.int .i64 (room:Int)] w fun e w'=>(∃ (q:ByteArray) (x:Int) (u:Val),e=.returned (.tuple #[.string q,.int .i64 x])∧Gq (bytesN q) u∧u.2=x∧1≤x∧x≤most∧q.size≤room)∧Below w.heap.size w w':=by
 have hrI:(raw.size:Int)≤9223372036854775807:=by omega
 have HRAW:=hide (And.intro hmo hro)
 have hmI:(most:Int)≤1000:=by omega
 have hrmI:(room:Int)≤60:=by omega
 have HM1:=hide hm1
 clear hraw hmo hro hm1
 go_enter Tryz.func11,Tryz.ntmps11
 go_wp2
 go_loopw [8,9,10] (fun tx wx ix wr=>∃ (k:Nat) (t:ByteArray) (x:Int),ix=.int .i64 (k:Int)∧tx=.string t∧wx=.int .i64 x∧k≤raw.size∧Hid ((∃ u,Gq (bytesN t) u∧u.2=x)∧1≤x∧x≤most∧t.size≤room∧Below w.heap.size w wr)) (fun _ _ ix _=>raw.size - (intOf ix).toNat)
 case atStart=>exact ⟨0,⟨#[]⟩,1,rfl,rfl,rfl,Nat.zero_le _,⟨_,Gb.nil.q,rfl⟩,by omega,by have:=unhide HM1;omega,Nat.zero_le _,Below.refl _ _⟩
 case round =>
  rename World=>wr
  obtain ⟨k,t,x,rfl,rfl,rfl,hk,HH⟩:=hrel
  by_cases hlt:k < raw.size
  ·have hlt':(k:Int) < (raw.size:Int):=by omega
   have hbt:raw[k].toNat < 256:=raw[k].toNat_lt
   obtain ⟨⟨u,g1,g2⟩,g3,g4,g5,g6⟩:=unhide HH
   have HC:=hide (turned_any wr t x raw[k].toNat u g1 g2 g3 (by have:=(unhide HRAW).1;omega) (by have:=(unhide HRAW).2;omega) hbt)
   have hbI:(raw[k].toNat:Int) < 256:=by omega
   clear hbt g1 g2 g3 g4 g5 g6
   go_wp2_with fail
   refine (unhide HC).mono ?_
   rintro e w2 ⟨⟨q,x2,u2,rfl,p1,p2,p3,p4,p5⟩,hw2⟩
   have hqI:(q.size:Int)≤100:=by omega
   have HB2:Hid (Below w.heap.size w w2):=(unhide HH).2.2.2.2.trans (hw2.mono (unhide HH).2.2.2.2.size)
   have HP:=hide (And.intro p1 p2)
   clear hw2 p1 p2 hbI HC
   by_cases hA:x2≤(most:Int)
   ·by_cases hB:(q.size:Int)≤(room:Int)
    ·have HAB:=hide (And.intro hA hB)
     go_wp2
     go_roundw
     case rel=>exact ⟨k+1,q,x2,by go_num,rfl,rfl,by omega,⟨u2,(unhide HP).1,(unhide HP).2⟩,p3,(unhide HAB).1,by have:=(unhide HAB).2;omega,unhide HB2⟩
     case measure=>simp [intOf];omega
    ·have hB':(room:Int) < (q.size:Int):=by omega
     clear hB
     go_wp2
     go_roundw
     case rel=>exact ⟨k+1,t,x,by go_num,rfl,rfl,by omega,(unhide HH).1,(unhide HH).2.1,(unhide HH).2.2.1,(unhide HH).2.2.2.1,unhide HB2⟩
     case measure=>simp [intOf];omega
   ·have hA':(most:Int) < x2:=by omega
    clear hA
    go_wp2
    go_roundw
    case rel=>exact ⟨k+1,t,x,by go_num,rfl,rfl,by omega,(unhide HH).1,(unhide HH).2.1,(unhide HH).2.2.1,(unhide HH).2.2.2.1,unhide HB2⟩
    case measure=>simp [intOf];omega
  ·have hk2:k=raw.size:=by omega
   subst hk2
   go_wp2
   go_ret2
   obtain ⟨⟨u,g1,g2⟩,g3,g4,g5,g6⟩:=unhide HH
   exact ⟨⟨t,x,u,rfl,g1,g2,g3,g4,g5⟩,g6⟩
end Go.Proofs.YtobfpgoepaeknaaGreat
namespace Go.Proofs.YtobfpgoepaeknaaGreat
open Go.RowKit
theorem not_many {R:Re} (hw:R.wt≤4):¬(ManyStates R.L∨ManyClasses R.L):=by
 have hL:∀ x,runN (autN (partN R)) 1 x &&& (autN (partN R)).last≠0↔R.L x:=fun x=>by rw [autN_match (partN_ok R),partN_L]
 have hl:(autN (partN R)).sets.length≤5:=by
  rw [(autN_ok (partN_ok R)).1]
  have e2:(autN (partN R)).next.length=(oneN fun _=>false).next.length+(partN R).next.length:=behindN_len _ _
  have:=partN_len R
  rw [e2];simp [oneN];omega
 rintro (h | h)
 ·exact few_states (autN_spot0 _) hl hL h
 ·exact few_classes (autN_spot0 _) hl hL h
theorem bytesOk_bytesN (s:ByteArray):bytesOk (bytesN s):=fun x hx=>by
 unfold bytesN at hx
 obtain ⟨b,_,rfl⟩:=List.mem_map.1 hx
 exact b.toNat_lt
end Go.Proofs.YtobfpgoepaeknaaGreat
