import Derived.Test.YtodihkdmneihiaaGreatDoorFsap
namespace Go.Proofs.YtodihkdmneihiaaGreatDoor
open Go.RowKit Dsk
set_option linter.unusedVariables false
set_option linter.unusedSimpArgs false
namespace Dsk
def bnd (r : Int × Ds) (f : Ds → Int × Ds) : Int × Ds := if r.1 = 0 then f r.2 else r
def off2 (E : Int) (r : Int × Ds) : Int × Ds := if r.1 = 0 then (E, r.2) else (50, r.2)
def Ds.raway (T : Ds) (n : By) : Int × Ds := bnd (T.remove n) fun T => T.syncNames
def Ds.rput2 (T : Ds) (n q : By) : Int × Ds := bnd (T.sync q) fun T => bnd (T.rename q n) fun T => T.syncNames
def Ds.rput1 (T : Ds) (was : Bool) (n q d : By) : Int × Ds :=
 if (T.create q).1 = 0 then (if ((T.create q).2.append q d).1 = 0 then ((T.create q).2.append q d).2.rput2 n q else if ((T.create q).2.append q d).1 = 50 then (T.create q).2.append q d else off2 ((T.create q).2.append q d).1 (((T.create q).2.append q d).2.raway q))
 else if (T.create q).1 = 50 ∨ was = false then T.create q else off2 (T.create q).1 (T.create q).2.syncNames
def Ds.rput (T : Ds) (n d : By) : Int × Ds := if isPut n = true then (if T.on = true then (if (T.find (43 :: n)).1 = 0 then bnd (T.remove (43 :: n)) fun T => T.rput1 true n (43 :: n) d else T.rput1 false n (43 :: n) d) else (50, T)) else (51, T)
theorem Ds.raway_drop (T : Ds) (n : By) (h : isNm n = true) : T.raway n = T.drop n := by unfold Ds.raway Ds.drop bnd; rw [h]; rfl
end Dsk
section
variable {X : Nat → Prop} {wa w w' : World} {q : Nat} {T : Ds} {M : Nat}
theorem Rx.back {w2 : World} {T' : Ds} {K : Nat} (h : Rx X wa w q T M) (h2 : Rx X w w2 q T' K) : Rx X wa w2 q T' K := by
 obtain ⟨A, o, h1, ho, hk, hb⟩ := h
 obtain ⟨A', o', h1', ho', hk', hb'⟩ := h2
 exact ⟨A', o', h1', fun b hx => ⟨(ho' b hx).1, (ho b hx).2⟩, hk.trans hk' (fun _ h _ => h), hb'⟩
theorem rx_as {P : Program} {f : FuncId} {args : Array Value} {r : Int × Ds} {E : Int} {T' : Ds} {K : Nat} (h : Calls P f args w fun e w' => e = .returned (.int .i64 r.1) ∧ Rx X wa w' q r.2 K) (hr : r = (E, T')) : Calls P f args w fun e w' => e = .returned (.int .i64 E) ∧ Rx X wa w' q T' K := by
 subst hr; exact h
set_option maxHeartbeats 1600000 in
set_option maxRecDepth 100000 in
theorem has_rx (h : Rx X wa w q T M) (hM : M ≤ 268435456) (n : By) (hn : n.length ≤ 4611686018427387904) : Calls Tryz.prog 60 #[.pointer (some ⟨q, 0, none⟩), encStr n] w fun e w' => e = .returned (.bool (decide ((T.find n).1 = 0))) ∧ w' = w := by
 have hs := size_rx h hM n hn
 generalize (T.find n).1 = E at *
 generalize T.size n = z at *
 by_cases h0 : E = 0
 ·subst h0
  clear h
  go_enter Tryz.func60, Tryz.ntmps60
  go_wp2_with (go_at_call 63; refine hs.mono ?_; rintro e w' ⟨rfl, hww⟩; obtain rfl := hww.symm; clear hs)
  go_ret
  exact ⟨rfl, rfl⟩
 ·have e0 : (E == 0) = false := by simpa using h0
  have e2 : decide (E = 0) = false := by simpa using h0
  rw [e2]
  clear h
  go_enter Tryz.func60, Tryz.ntmps60
  go_wp2_with (go_at_call 63; refine hs.mono ?_; rintro e w' ⟨rfl, hww⟩; obtain rfl := hww.symm; clear hs)
  go_ret
  exact ⟨rfl, rfl⟩
set_option maxHeartbeats 1600000 in
set_option maxRecDepth 100000 in
theorem away_rx (h : Rx X wa w q T M) (hM : M + 4 ≤ 268435456) (n : By) (hn : n.length ≤ 4611686018427387904) : Calls Tryz.prog 61 #[.pointer (some ⟨q, 0, none⟩), encStr n] w fun e w' => e = .returned (.int .i64 (T.raway n).1) ∧ Rx X wa w' q (T.raway n).2 (M + 3) := by
 have HX0 := hide h
 clear h
 obtain ⟨E1, T1, h1⟩ : ∃ E T', T.remove n = (E, T') := ⟨_, _, rfl⟩
 have c1 := rx_as (remove_rx HX0.out (by omega) n hn) h1
 by_cases h0 : E1 = 0
 ·subst h0
  have HC : Hid (T.raway n = T1.syncNames) := hide (by simp [Ds.raway, bnd, h1])
  rw [HC.out]
  go_enter Tryz.func61, Tryz.ntmps61
  go_wp2_with (first
   | (go_at_call 32; refine c1.mono ?_; rintro e w1 ⟨rfl, hx⟩; have c2 := syncNames_rx hx (by omega); clear hx c1)
   | (go_at_call 36; refine c2.mono ?_; rintro e w2 ⟨rfl, hx⟩; have HX2 := hide hx; clear hx c2))
  go_ret
  exact ⟨rfl, HX2.out⟩
 ·have e0 : (E1 == 0) = false := by simpa using h0
  have e1 : (E1 != 0) = true := by simpa using h0
  have HC : Hid (T.raway n = (E1, T1)) := hide (by simp [Ds.raway, bnd, h1, h0])
  rw [HC.out]
  clear h0
  go_enter Tryz.func61, Tryz.ntmps61
  go_wp2_with (go_at_call 32; refine c1.mono ?_; rintro e w1 ⟨rfl, hx⟩; have HX2 := hide hx; clear hx c1)
  go_ret
  exact ⟨rfl, HX2.out.mono (by omega)⟩
set_option maxHeartbeats 1600000 in
set_option maxRecDepth 100000 in
theorem rdrop_rx (h : Rx X wa w q T M) (hM : M + 4 ≤ 268435456) (n : By) (hn : n.length ≤ 4611686018427387900) : Calls Tryz.prog 20 #[.pointer (some ⟨q, 0, none⟩), encStr n] w fun e w' => e = .returned (.int .i64 (T.drop n).1) ∧ Rx X wa w' q (T.drop n).2 (M + 3) := by
 have HX0 := hide h
 have c1 := rIsName_ok n w (by omega)
 by_cases hp : isNm n = true
 ·have c2 := away_rx h hM n (by omega)
  rw [Ds.raway_drop T n hp] at c2
  rw [hp] at c1
  clear h
  go_enter Tryz.func20, Tryz.ntmps20
  go_wp2_with (first
   | (go_at_call 62; refine c1.mono ?_; rintro e w' ⟨rfl, hww⟩; obtain rfl := hww.symm; clear c1)
   | (go_at_call 61; refine c2.mono ?_; rintro e w2 ⟨rfl, hx⟩; have HX2 := hide hx; clear hx c2))
  go_ret
  exact ⟨rfl, HX2.out⟩
 ·have hp' : isNm n = false := by simpa using hp
  have HC : Hid (T.drop n = (51, T)) := hide (by unfold Ds.drop; rw [hp']; rfl)
  rw [hp'] at c1
  rw [HC.out]
  clear h hp
  go_enter Tryz.func20, Tryz.ntmps20
  go_wp2_with (go_at_call 62; refine c1.mono ?_; rintro e w' ⟨rfl, hww⟩; obtain rfl := hww.symm; clear c1)
  go_ret
  exact ⟨rfl, HX0.out.mono (by omega)⟩
set_option maxHeartbeats 16000000 in
set_option maxRecDepth 100000 in
theorem rput_rx0 (h : Rx X w w q T M) (n : By) {ao : Option Addr} {m c : Nat} {d : By} (hM : M + 1048620 ≤ 268435456) (hm8 : m ≤ 4611686018427387900) (hn : n.length ≤ 4611686018427387900) (hl : d.length = m) (hs : Sl w ao d) (h0 : ao = none → m = 0 ∧ c = 0) (hfar : d ≠ [] → ∀ a, ao = some a → X a.block) :
  Calls Tryz.prog 16 #[.pointer (some ⟨q, 0, none⟩), encStr n, .slice ao m c] w fun e w' => e = .returned (.int .i64 (T.rput n d).1) ∧ Rx X w w' q (T.rput n d).2 (M + min m 1048576 + 20) := by
 have HX0 := hide h
 have c1 := lays_ok n w hn
 have hof := roff_rx h
 have HAP : Hid (∀ v (T' : Ds) (K : Nat), Rx X w v q T' K → K ≤ M + 10 → Calls Tryz.prog 26 #[.pointer (some ⟨q, 0, none⟩), encStr (43 :: n), .slice ao m c] v fun e w' => e = .returned (.int .i64 (T'.append (43 :: n) d).1) ∧ Rx X w w' q (T'.append (43 :: n) d).2 (K + min m 1048576 + 2)) := hide (fun v T' K hx hK => append_rxm hx (43 :: n) (by simp; omega) (by omega) hm8 hl (hs.keep hx.old (fun hd a ha hm => hm (hfar hd a ha))) h0 hfar)
 have hcc : (ByteArray.mk #[43] ++ ByteArray.mk n.toArray) = ByteArray.mk (43 :: n).toArray := by apply ByteArray.ext; simp [ByteArray.data_append]
 have hpl : (43 :: n).length ≤ 4611686018427387904 := by simp; omega
 have hmn : min m 1048576 ≤ 1048576 := Nat.min_le_right _ _
 clear hs h0 hfar hl
 by_cases hp : isPut n = true
 ·rw [hp] at c1
  by_cases hon : T.on = true
  ·rw [hon] at hof
   have hha := has_rx h (by omega) (43 :: n) hpl
   obtain ⟨P, hP⟩ : ∃ P, 43 :: n = P := ⟨_, rfl⟩
   have HPP := hide hP
   have HRP : Hid (T.rput n d = if (T.find P).1 = 0 then bnd (T.remove P) fun T => T.rput1 true n P d else T.rput1 false n P d) := hide (by unfold Ds.rput; rw [if_pos hp, if_pos hon, hP])
   rw [hP] at hha HAP hpl hcc
   clear h hP hp hon
   by_cases hf : (T.find P).1 = 0
   ·rw [show decide ((T.find P).1 = 0) = true by simpa using hf] at hha
    obtain ⟨E1, T1, h1⟩ : ∃ E T', T.remove P = (E, T') := ⟨_, _, rfl⟩
    have K1 : Hid (∀ v, Rx X w v q T (M) → Calls Tryz.prog 32 #[.pointer (some ⟨q, 0, none⟩), encStr P] v fun e w' => e = .returned (.int .i64 E1) ∧ Rx X w w' q T1 (M + 2)) := hide (fun v hx => rx_as (remove_rx hx (by omega) P hpl) h1)
    by_cases z1 : E1 = 0
    ·subst z1
     obtain ⟨E2, T2, h2⟩ : ∃ E T', T1.create P = (E, T') := ⟨_, _, rfl⟩
     have K2 : Hid (∀ v, Rx X w v q T1 (M + 2) → Calls Tryz.prog 24 #[.pointer (some ⟨q, 0, none⟩), encStr P] v fun e w' => e = .returned (.int .i64 E2) ∧ Rx X w w' q T2 (M + 2 + 1)) := hide (fun v hx => rx_as (create_rx hx (by omega) P hpl) h2)
     by_cases z2 : E2 = 0
     ·subst z2
      obtain ⟨E3, T3, h3⟩ : ∃ E T', T2.append P d = (E, T') := ⟨_, _, rfl⟩
      have K3 : Hid (∀ v, Rx X w v q T2 (M + 2 + 1) → Calls Tryz.prog 26 #[.pointer (some ⟨q, 0, none⟩), encStr P, .slice ao m c] v fun e w' => e = .returned (.int .i64 E3) ∧ Rx X w w' q T3 (M + 2 + 1 + min m 1048576 + 2)) := hide (fun v hx => rx_as (HAP.out _ _ _ hx (by omega)) h3)
      by_cases z3 : E3 = 0
      ·subst z3
       obtain ⟨E4, T4, h4⟩ : ∃ E T', T3.sync P = (E, T') := ⟨_, _, rfl⟩
       have K4 : Hid (∀ v, Rx X w v q T3 (M + 2 + 1 + min m 1048576 + 2) → Calls Tryz.prog 34 #[.pointer (some ⟨q, 0, none⟩), encStr P] v fun e w' => e = .returned (.int .i64 E4) ∧ Rx X w w' q T4 (M + 2 + 1 + min m 1048576 + 2 + 1)) := hide (fun v hx => rx_as (sync_rx hx (by omega) P hpl) h4)
       by_cases z4 : E4 = 0
       ·subst z4
        obtain ⟨E5, T5, h5⟩ : ∃ E T', T4.rename P n = (E, T') := ⟨_, _, rfl⟩
        have K5 : Hid (∀ v, Rx X w v q T4 (M + 2 + 1 + min m 1048576 + 2 + 1) → Calls Tryz.prog 30 #[.pointer (some ⟨q, 0, none⟩), encStr P, encStr n] v fun e w' => e = .returned (.int .i64 E5) ∧ Rx X w w' q T5 (M + 2 + 1 + min m 1048576 + 2 + 1 + 2)) := hide (fun v hx => rx_as (rename_rx hx (by omega) P n hpl (by omega)) h5)
        by_cases z5 : E5 = 0
        ·subst z5
         obtain ⟨E6, T6, h6⟩ : ∃ E T', T5.syncNames = (E, T') := ⟨_, _, rfl⟩
         have K6 : Hid (∀ v, Rx X w v q T5 (M + 2 + 1 + min m 1048576 + 2 + 1 + 2) → Calls Tryz.prog 36 #[.pointer (some ⟨q, 0, none⟩)] v fun e w' => e = .returned (.int .i64 E6) ∧ Rx X w w' q T6 (M + 2 + 1 + min m 1048576 + 2 + 1 + 2 + 1)) := hide (fun v hx => rx_as (syncNames_rx hx (by omega)) h6)
         have HC : Hid (T.rput n d = (E6, T6)) := hide (by rw [HRP.out]; simp [Ds.rput1, Ds.rput2, bnd, off2, hf, h1, h2, h3, h4, h5, h6])
         rw [HC.out]
         clear hf h1 h2 h3 h4 h5 h6 HRP HC
         go_enter Tryz.func16, Tryz.ntmps16
         go_wp2_with (first
          | (go_at_call 59; refine c1.mono ?_; rintro e w' ⟨rfl, hww⟩; obtain rfl := hww.symm; clear c1)
          | (go_at_call 42; refine hof.mono ?_; rintro e w' ⟨rfl, hww⟩; obtain rfl := hww.symm; clear hof)
          | (go_at_call 60; refine hha.mono ?_; rintro e w' ⟨rfl, hww⟩; obtain rfl := hww.symm; clear hha)
          | (go_at_call 32; have Ha := K1; refine (K1.out _ HX0.out).mono ?_; rintro e w1 ⟨rfl, hx⟩; have HX1 := hide hx; clear Ha K1 hx)
          | (go_at_call 24; have Ha := K2; refine (K2.out _ HX1.out).mono ?_; rintro e w2 ⟨rfl, hx⟩; have HX2 := hide hx; clear Ha K2 hx)
          | (go_at_call 26; have Ha := K3; refine (K3.out _ HX2.out).mono ?_; rintro e w3 ⟨rfl, hx⟩; have HX3 := hide hx; clear Ha K3 hx)
          | (go_at_call 34; have Ha := K4; refine (K4.out _ HX3.out).mono ?_; rintro e w4 ⟨rfl, hx⟩; have HX4 := hide hx; clear Ha K4 hx)
          | (go_at_call 30; have Ha := K5; refine (K5.out _ HX4.out).mono ?_; rintro e w5 ⟨rfl, hx⟩; have HX5 := hide hx; clear Ha K5 hx)
          | (go_at_call 36; have Ha := K6; refine (K6.out _ HX5.out).mono ?_; rintro e w6 ⟨rfl, hx⟩; have HX6 := hide hx; clear Ha K6 hx))
         go_ret
         exact ⟨rfl, HX6.out.mono (by omega)⟩
        ·have y5 : (E5 == 0) = false := by simpa using z5
         have x5 : (E5 != 0) = true := by simpa using z5
         have HC : Hid (T.rput n d = (E5, T5)) := hide (by rw [HRP.out]; simp [Ds.rput1, Ds.rput2, bnd, off2, hf, h1, h2, h3, h4, h5, z5])
         rw [HC.out]
         clear hf h1 h2 h3 h4 h5 z5 HRP HC
         go_enter Tryz.func16, Tryz.ntmps16
         go_wp2_with (first
          | (go_at_call 59; refine c1.mono ?_; rintro e w' ⟨rfl, hww⟩; obtain rfl := hww.symm; clear c1)
          | (go_at_call 42; refine hof.mono ?_; rintro e w' ⟨rfl, hww⟩; obtain rfl := hww.symm; clear hof)
          | (go_at_call 60; refine hha.mono ?_; rintro e w' ⟨rfl, hww⟩; obtain rfl := hww.symm; clear hha)
          | (go_at_call 32; have Ha := K1; refine (K1.out _ HX0.out).mono ?_; rintro e w1 ⟨rfl, hx⟩; have HX1 := hide hx; clear Ha K1 hx)
          | (go_at_call 24; have Ha := K2; refine (K2.out _ HX1.out).mono ?_; rintro e w2 ⟨rfl, hx⟩; have HX2 := hide hx; clear Ha K2 hx)
          | (go_at_call 26; have Ha := K3; refine (K3.out _ HX2.out).mono ?_; rintro e w3 ⟨rfl, hx⟩; have HX3 := hide hx; clear Ha K3 hx)
          | (go_at_call 34; have Ha := K4; refine (K4.out _ HX3.out).mono ?_; rintro e w4 ⟨rfl, hx⟩; have HX4 := hide hx; clear Ha K4 hx)
          | (go_at_call 30; have Ha := K5; refine (K5.out _ HX4.out).mono ?_; rintro e w5 ⟨rfl, hx⟩; have HX5 := hide hx; clear Ha K5 hx))
         go_ret
         exact ⟨rfl, HX5.out.mono (by omega)⟩
       ·have y4 : (E4 == 0) = false := by simpa using z4
        have x4 : (E4 != 0) = true := by simpa using z4
        have HC : Hid (T.rput n d = (E4, T4)) := hide (by rw [HRP.out]; simp [Ds.rput1, Ds.rput2, bnd, off2, hf, h1, h2, h3, h4, z4])
        rw [HC.out]
        clear hf h1 h2 h3 h4 z4 HRP HC
        go_enter Tryz.func16, Tryz.ntmps16
        go_wp2_with (first
         | (go_at_call 59; refine c1.mono ?_; rintro e w' ⟨rfl, hww⟩; obtain rfl := hww.symm; clear c1)
         | (go_at_call 42; refine hof.mono ?_; rintro e w' ⟨rfl, hww⟩; obtain rfl := hww.symm; clear hof)
         | (go_at_call 60; refine hha.mono ?_; rintro e w' ⟨rfl, hww⟩; obtain rfl := hww.symm; clear hha)
         | (go_at_call 32; have Ha := K1; refine (K1.out _ HX0.out).mono ?_; rintro e w1 ⟨rfl, hx⟩; have HX1 := hide hx; clear Ha K1 hx)
         | (go_at_call 24; have Ha := K2; refine (K2.out _ HX1.out).mono ?_; rintro e w2 ⟨rfl, hx⟩; have HX2 := hide hx; clear Ha K2 hx)
         | (go_at_call 26; have Ha := K3; refine (K3.out _ HX2.out).mono ?_; rintro e w3 ⟨rfl, hx⟩; have HX3 := hide hx; clear Ha K3 hx)
         | (go_at_call 34; have Ha := K4; refine (K4.out _ HX3.out).mono ?_; rintro e w4 ⟨rfl, hx⟩; have HX4 := hide hx; clear Ha K4 hx))
        go_ret
        exact ⟨rfl, HX4.out.mono (by omega)⟩
      ·have y3 : (E3 == 0) = false := by simpa using z3
       have x3 : (E3 != 0) = true := by simpa using z3
       by_cases v3 : E3 = 50
       ·subst v3
        have HC : Hid (T.rput n d = (50, T3)) := hide (by rw [HRP.out]; simp [Ds.rput1, Ds.rput2, bnd, off2, hf, h1, h2, h3])
        rw [HC.out]
        clear hf h1 h2 h3 HRP HC
        go_enter Tryz.func16, Tryz.ntmps16
        go_wp2_with (first
         | (go_at_call 59; refine c1.mono ?_; rintro e w' ⟨rfl, hww⟩; obtain rfl := hww.symm; clear c1)
         | (go_at_call 42; refine hof.mono ?_; rintro e w' ⟨rfl, hww⟩; obtain rfl := hww.symm; clear hof)
         | (go_at_call 60; refine hha.mono ?_; rintro e w' ⟨rfl, hww⟩; obtain rfl := hww.symm; clear hha)
         | (go_at_call 32; have Ha := K1; refine (K1.out _ HX0.out).mono ?_; rintro e w1 ⟨rfl, hx⟩; have HX1 := hide hx; clear Ha K1 hx)
         | (go_at_call 24; have Ha := K2; refine (K2.out _ HX1.out).mono ?_; rintro e w2 ⟨rfl, hx⟩; have HX2 := hide hx; clear Ha K2 hx)
         | (go_at_call 26; have Ha := K3; refine (K3.out _ HX2.out).mono ?_; rintro e w3 ⟨rfl, hx⟩; have HX3 := hide hx; clear Ha K3 hx))
        go_ret
        exact ⟨rfl, HX3.out.mono (by omega)⟩
       ·have u3 : (E3 != 50) = true := by simpa using v3
        have t3 : (E3 == 50) = false := by simpa using v3
        obtain ⟨E7, T7, h7⟩ : ∃ E T', T3.raway P = (E, T') := ⟨_, _, rfl⟩
        have K7 : Hid (∀ v, Rx X w v q T3 (M + 2 + 1 + min m 1048576 + 2) → Calls Tryz.prog 61 #[.pointer (some ⟨q, 0, none⟩), encStr P] v fun e w' => e = .returned (.int .i64 E7) ∧ Rx X w w' q T7 (M + 2 + 1 + min m 1048576 + 2 + 3)) := hide (fun v hx => rx_as (away_rx hx (by omega) P hpl) h7)
        by_cases z7 : E7 = 0
        ·subst z7
         have HC : Hid (T.rput n d = (E3, T7)) := hide (by rw [HRP.out]; simp [Ds.rput1, Ds.rput2, bnd, off2, hf, h1, h2, h3, z3, v3, h7])
         rw [HC.out]
         clear hf h1 h2 h3 z3 v3 h7 HRP HC
         go_enter Tryz.func16, Tryz.ntmps16
         go_wp2_with (first
          | (go_at_call 59; refine c1.mono ?_; rintro e w' ⟨rfl, hww⟩; obtain rfl := hww.symm; clear c1)
          | (go_at_call 42; refine hof.mono ?_; rintro e w' ⟨rfl, hww⟩; obtain rfl := hww.symm; clear hof)
          | (go_at_call 60; refine hha.mono ?_; rintro e w' ⟨rfl, hww⟩; obtain rfl := hww.symm; clear hha)
          | (go_at_call 32; have Ha := K1; refine (K1.out _ HX0.out).mono ?_; rintro e w1 ⟨rfl, hx⟩; have HX1 := hide hx; clear Ha K1 hx)
          | (go_at_call 24; have Ha := K2; refine (K2.out _ HX1.out).mono ?_; rintro e w2 ⟨rfl, hx⟩; have HX2 := hide hx; clear Ha K2 hx)
          | (go_at_call 26; have Ha := K3; refine (K3.out _ HX2.out).mono ?_; rintro e w3 ⟨rfl, hx⟩; have HX3 := hide hx; clear Ha K3 hx)
          | (go_at_call 61; have Ha := K7; refine (K7.out _ HX3.out).mono ?_; rintro e w4 ⟨rfl, hx⟩; have HX4 := hide hx; clear Ha K7 hx))
         go_ret
         exact ⟨rfl, HX4.out.mono (by omega)⟩
        ·have y7 : (E7 == 0) = false := by simpa using z7
         have x7 : (E7 != 0) = true := by simpa using z7
         have HC : Hid (T.rput n d = (50, T7)) := hide (by rw [HRP.out]; simp [Ds.rput1, Ds.rput2, bnd, off2, hf, h1, h2, h3, z3, v3, h7, z7])
         rw [HC.out]
         clear hf h1 h2 h3 z3 v3 h7 z7 HRP HC
         go_enter Tryz.func16, Tryz.ntmps16
         go_wp2_with (first
          | (go_at_call 59; refine c1.mono ?_; rintro e w' ⟨rfl, hww⟩; obtain rfl := hww.symm; clear c1)
          | (go_at_call 42; refine hof.mono ?_; rintro e w' ⟨rfl, hww⟩; obtain rfl := hww.symm; clear hof)
          | (go_at_call 60; refine hha.mono ?_; rintro e w' ⟨rfl, hww⟩; obtain rfl := hww.symm; clear hha)
          | (go_at_call 32; have Ha := K1; refine (K1.out _ HX0.out).mono ?_; rintro e w1 ⟨rfl, hx⟩; have HX1 := hide hx; clear Ha K1 hx)
          | (go_at_call 24; have Ha := K2; refine (K2.out _ HX1.out).mono ?_; rintro e w2 ⟨rfl, hx⟩; have HX2 := hide hx; clear Ha K2 hx)
          | (go_at_call 26; have Ha := K3; refine (K3.out _ HX2.out).mono ?_; rintro e w3 ⟨rfl, hx⟩; have HX3 := hide hx; clear Ha K3 hx)
          | (go_at_call 61; have Ha := K7; refine (K7.out _ HX3.out).mono ?_; rintro e w4 ⟨rfl, hx⟩; have HX4 := hide hx; clear Ha K7 hx))
         go_ret
         exact ⟨rfl, HX4.out.mono (by omega)⟩
     ·have y2 : (E2 == 0) = false := by simpa using z2
      have x2 : (E2 != 0) = true := by simpa using z2
      by_cases v2 : E2 = 50
      ·subst v2
       have HC : Hid (T.rput n d = (50, T2)) := hide (by rw [HRP.out]; simp [Ds.rput1, Ds.rput2, bnd, off2, hf, h1, h2])
       rw [HC.out]
       clear hf h1 h2 HRP HC
       go_enter Tryz.func16, Tryz.ntmps16
       go_wp2_with (first
        | (go_at_call 59; refine c1.mono ?_; rintro e w' ⟨rfl, hww⟩; obtain rfl := hww.symm; clear c1)
        | (go_at_call 42; refine hof.mono ?_; rintro e w' ⟨rfl, hww⟩; obtain rfl := hww.symm; clear hof)
        | (go_at_call 60; refine hha.mono ?_; rintro e w' ⟨rfl, hww⟩; obtain rfl := hww.symm; clear hha)
        | (go_at_call 32; have Ha := K1; refine (K1.out _ HX0.out).mono ?_; rintro e w1 ⟨rfl, hx⟩; have HX1 := hide hx; clear Ha K1 hx)
        | (go_at_call 24; have Ha := K2; refine (K2.out _ HX1.out).mono ?_; rintro e w2 ⟨rfl, hx⟩; have HX2 := hide hx; clear Ha K2 hx))
       go_ret
       exact ⟨rfl, HX2.out.mono (by omega)⟩
      ·have u2 : (E2 != 50) = true := by simpa using v2
       have t2 : (E2 == 50) = false := by simpa using v2
       obtain ⟨E8, T8, h8⟩ : ∃ E T', T2.syncNames = (E, T') := ⟨_, _, rfl⟩
       have K8 : Hid (∀ v, Rx X w v q T2 (M + 2 + 1) → Calls Tryz.prog 36 #[.pointer (some ⟨q, 0, none⟩)] v fun e w' => e = .returned (.int .i64 E8) ∧ Rx X w w' q T8 (M + 2 + 1 + 1)) := hide (fun v hx => rx_as (syncNames_rx hx (by omega)) h8)
       by_cases z8 : E8 = 0
       ·subst z8
        have HC : Hid (T.rput n d = (E2, T8)) := hide (by rw [HRP.out]; simp [Ds.rput1, Ds.rput2, bnd, off2, hf, h1, h2, z2, v2, h8])
        rw [HC.out]
        clear hf h1 h2 z2 v2 h8 HRP HC
        go_enter Tryz.func16, Tryz.ntmps16
        go_wp2_with (first
         | (go_at_call 59; refine c1.mono ?_; rintro e w' ⟨rfl, hww⟩; obtain rfl := hww.symm; clear c1)
         | (go_at_call 42; refine hof.mono ?_; rintro e w' ⟨rfl, hww⟩; obtain rfl := hww.symm; clear hof)
         | (go_at_call 60; refine hha.mono ?_; rintro e w' ⟨rfl, hww⟩; obtain rfl := hww.symm; clear hha)
         | (go_at_call 32; have Ha := K1; refine (K1.out _ HX0.out).mono ?_; rintro e w1 ⟨rfl, hx⟩; have HX1 := hide hx; clear Ha K1 hx)
         | (go_at_call 24; have Ha := K2; refine (K2.out _ HX1.out).mono ?_; rintro e w2 ⟨rfl, hx⟩; have HX2 := hide hx; clear Ha K2 hx)
         | (go_at_call 36; have Ha := K8; refine (K8.out _ HX2.out).mono ?_; rintro e w3 ⟨rfl, hx⟩; have HX3 := hide hx; clear Ha K8 hx))
        go_ret
        exact ⟨rfl, HX3.out.mono (by omega)⟩
       ·have y8 : (E8 == 0) = false := by simpa using z8
        have x8 : (E8 != 0) = true := by simpa using z8
        have HC : Hid (T.rput n d = (50, T8)) := hide (by rw [HRP.out]; simp [Ds.rput1, Ds.rput2, bnd, off2, hf, h1, h2, z2, v2, h8, z8])
        rw [HC.out]
        clear hf h1 h2 z2 v2 h8 z8 HRP HC
        go_enter Tryz.func16, Tryz.ntmps16
        go_wp2_with (first
         | (go_at_call 59; refine c1.mono ?_; rintro e w' ⟨rfl, hww⟩; obtain rfl := hww.symm; clear c1)
         | (go_at_call 42; refine hof.mono ?_; rintro e w' ⟨rfl, hww⟩; obtain rfl := hww.symm; clear hof)
         | (go_at_call 60; refine hha.mono ?_; rintro e w' ⟨rfl, hww⟩; obtain rfl := hww.symm; clear hha)
         | (go_at_call 32; have Ha := K1; refine (K1.out _ HX0.out).mono ?_; rintro e w1 ⟨rfl, hx⟩; have HX1 := hide hx; clear Ha K1 hx)
         | (go_at_call 24; have Ha := K2; refine (K2.out _ HX1.out).mono ?_; rintro e w2 ⟨rfl, hx⟩; have HX2 := hide hx; clear Ha K2 hx)
         | (go_at_call 36; have Ha := K8; refine (K8.out _ HX2.out).mono ?_; rintro e w3 ⟨rfl, hx⟩; have HX3 := hide hx; clear Ha K8 hx))
        go_ret
        exact ⟨rfl, HX3.out.mono (by omega)⟩
    ·have y1 : (E1 == 0) = false := by simpa using z1
     have x1 : (E1 != 0) = true := by simpa using z1
     have HC : Hid (T.rput n d = (E1, T1)) := hide (by rw [HRP.out]; simp [Ds.rput1, Ds.rput2, bnd, off2, hf, h1, z1])
     rw [HC.out]
     clear hf h1 z1 HRP HC
     go_enter Tryz.func16, Tryz.ntmps16
     go_wp2_with (first
      | (go_at_call 59; refine c1.mono ?_; rintro e w' ⟨rfl, hww⟩; obtain rfl := hww.symm; clear c1)
      | (go_at_call 42; refine hof.mono ?_; rintro e w' ⟨rfl, hww⟩; obtain rfl := hww.symm; clear hof)
      | (go_at_call 60; refine hha.mono ?_; rintro e w' ⟨rfl, hww⟩; obtain rfl := hww.symm; clear hha)
      | (go_at_call 32; have Ha := K1; refine (K1.out _ HX0.out).mono ?_; rintro e w1 ⟨rfl, hx⟩; have HX1 := hide hx; clear Ha K1 hx))
     go_ret
     exact ⟨rfl, HX1.out.mono (by omega)⟩
   ·rw [show decide ((T.find P).1 = 0) = false by simpa using hf] at hha
    obtain ⟨E9, T9, h9⟩ : ∃ E T', T.create P = (E, T') := ⟨_, _, rfl⟩
    have K9 : Hid (∀ v, Rx X w v q T (M) → Calls Tryz.prog 24 #[.pointer (some ⟨q, 0, none⟩), encStr P] v fun e w' => e = .returned (.int .i64 E9) ∧ Rx X w w' q T9 (M + 1)) := hide (fun v hx => rx_as (create_rx hx (by omega) P hpl) h9)
    by_cases z9 : E9 = 0
    ·subst z9
     obtain ⟨E10, T10, h10⟩ : ∃ E T', T9.append P d = (E, T') := ⟨_, _, rfl⟩
     have K10 : Hid (∀ v, Rx X w v q T9 (M + 1) → Calls Tryz.prog 26 #[.pointer (some ⟨q, 0, none⟩), encStr P, .slice ao m c] v fun e w' => e = .returned (.int .i64 E10) ∧ Rx X w w' q T10 (M + 1 + min m 1048576 + 2)) := hide (fun v hx => rx_as (HAP.out _ _ _ hx (by omega)) h10)
     by_cases z10 : E10 = 0
     ·subst z10
      obtain ⟨E11, T11, h11⟩ : ∃ E T', T10.sync P = (E, T') := ⟨_, _, rfl⟩
      have K11 : Hid (∀ v, Rx X w v q T10 (M + 1 + min m 1048576 + 2) → Calls Tryz.prog 34 #[.pointer (some ⟨q, 0, none⟩), encStr P] v fun e w' => e = .returned (.int .i64 E11) ∧ Rx X w w' q T11 (M + 1 + min m 1048576 + 2 + 1)) := hide (fun v hx => rx_as (sync_rx hx (by omega) P hpl) h11)
      by_cases z11 : E11 = 0
      ·subst z11
       obtain ⟨E12, T12, h12⟩ : ∃ E T', T11.rename P n = (E, T') := ⟨_, _, rfl⟩
       have K12 : Hid (∀ v, Rx X w v q T11 (M + 1 + min m 1048576 + 2 + 1) → Calls Tryz.prog 30 #[.pointer (some ⟨q, 0, none⟩), encStr P, encStr n] v fun e w' => e = .returned (.int .i64 E12) ∧ Rx X w w' q T12 (M + 1 + min m 1048576 + 2 + 1 + 2)) := hide (fun v hx => rx_as (rename_rx hx (by omega) P n hpl (by omega)) h12)
       by_cases z12 : E12 = 0
       ·subst z12
        obtain ⟨E13, T13, h13⟩ : ∃ E T', T12.syncNames = (E, T') := ⟨_, _, rfl⟩
        have K13 : Hid (∀ v, Rx X w v q T12 (M + 1 + min m 1048576 + 2 + 1 + 2) → Calls Tryz.prog 36 #[.pointer (some ⟨q, 0, none⟩)] v fun e w' => e = .returned (.int .i64 E13) ∧ Rx X w w' q T13 (M + 1 + min m 1048576 + 2 + 1 + 2 + 1)) := hide (fun v hx => rx_as (syncNames_rx hx (by omega)) h13)
        have HC : Hid (T.rput n d = (E13, T13)) := hide (by rw [HRP.out]; simp [Ds.rput1, Ds.rput2, bnd, off2, hf, h9, h10, h11, h12, h13])
        rw [HC.out]
        clear hf h9 h10 h11 h12 h13 HRP HC
        go_enter Tryz.func16, Tryz.ntmps16
        go_wp2_with (first
         | (go_at_call 59; refine c1.mono ?_; rintro e w' ⟨rfl, hww⟩; obtain rfl := hww.symm; clear c1)
         | (go_at_call 42; refine hof.mono ?_; rintro e w' ⟨rfl, hww⟩; obtain rfl := hww.symm; clear hof)
         | (go_at_call 60; refine hha.mono ?_; rintro e w' ⟨rfl, hww⟩; obtain rfl := hww.symm; clear hha)
         | (go_at_call 24; have Ha := K9; refine (K9.out _ HX0.out).mono ?_; rintro e w1 ⟨rfl, hx⟩; have HX1 := hide hx; clear Ha K9 hx)
         | (go_at_call 26; have Ha := K10; refine (K10.out _ HX1.out).mono ?_; rintro e w2 ⟨rfl, hx⟩; have HX2 := hide hx; clear Ha K10 hx)
         | (go_at_call 34; have Ha := K11; refine (K11.out _ HX2.out).mono ?_; rintro e w3 ⟨rfl, hx⟩; have HX3 := hide hx; clear Ha K11 hx)
         | (go_at_call 30; have Ha := K12; refine (K12.out _ HX3.out).mono ?_; rintro e w4 ⟨rfl, hx⟩; have HX4 := hide hx; clear Ha K12 hx)
         | (go_at_call 36; have Ha := K13; refine (K13.out _ HX4.out).mono ?_; rintro e w5 ⟨rfl, hx⟩; have HX5 := hide hx; clear Ha K13 hx))
        go_ret
        exact ⟨rfl, HX5.out.mono (by omega)⟩
       ·have y12 : (E12 == 0) = false := by simpa using z12
        have x12 : (E12 != 0) = true := by simpa using z12
        have HC : Hid (T.rput n d = (E12, T12)) := hide (by rw [HRP.out]; simp [Ds.rput1, Ds.rput2, bnd, off2, hf, h9, h10, h11, h12, z12])
        rw [HC.out]
        clear hf h9 h10 h11 h12 z12 HRP HC
        go_enter Tryz.func16, Tryz.ntmps16
        go_wp2_with (first
         | (go_at_call 59; refine c1.mono ?_; rintro e w' ⟨rfl, hww⟩; obtain rfl := hww.symm; clear c1)
         | (go_at_call 42; refine hof.mono ?_; rintro e w' ⟨rfl, hww⟩; obtain rfl := hww.symm; clear hof)
         | (go_at_call 60; refine hha.mono ?_; rintro e w' ⟨rfl, hww⟩; obtain rfl := hww.symm; clear hha)
         | (go_at_call 24; have Ha := K9; refine (K9.out _ HX0.out).mono ?_; rintro e w1 ⟨rfl, hx⟩; have HX1 := hide hx; clear Ha K9 hx)
         | (go_at_call 26; have Ha := K10; refine (K10.out _ HX1.out).mono ?_; rintro e w2 ⟨rfl, hx⟩; have HX2 := hide hx; clear Ha K10 hx)
         | (go_at_call 34; have Ha := K11; refine (K11.out _ HX2.out).mono ?_; rintro e w3 ⟨rfl, hx⟩; have HX3 := hide hx; clear Ha K11 hx)
         | (go_at_call 30; have Ha := K12; refine (K12.out _ HX3.out).mono ?_; rintro e w4 ⟨rfl, hx⟩; have HX4 := hide hx; clear Ha K12 hx))
        go_ret
        exact ⟨rfl, HX4.out.mono (by omega)⟩
      ·have y11 : (E11 == 0) = false := by simpa using z11
       have x11 : (E11 != 0) = true := by simpa using z11
       have HC : Hid (T.rput n d = (E11, T11)) := hide (by rw [HRP.out]; simp [Ds.rput1, Ds.rput2, bnd, off2, hf, h9, h10, h11, z11])
       rw [HC.out]
       clear hf h9 h10 h11 z11 HRP HC
       go_enter Tryz.func16, Tryz.ntmps16
       go_wp2_with (first
        | (go_at_call 59; refine c1.mono ?_; rintro e w' ⟨rfl, hww⟩; obtain rfl := hww.symm; clear c1)
        | (go_at_call 42; refine hof.mono ?_; rintro e w' ⟨rfl, hww⟩; obtain rfl := hww.symm; clear hof)
        | (go_at_call 60; refine hha.mono ?_; rintro e w' ⟨rfl, hww⟩; obtain rfl := hww.symm; clear hha)
        | (go_at_call 24; have Ha := K9; refine (K9.out _ HX0.out).mono ?_; rintro e w1 ⟨rfl, hx⟩; have HX1 := hide hx; clear Ha K9 hx)
        | (go_at_call 26; have Ha := K10; refine (K10.out _ HX1.out).mono ?_; rintro e w2 ⟨rfl, hx⟩; have HX2 := hide hx; clear Ha K10 hx)
        | (go_at_call 34; have Ha := K11; refine (K11.out _ HX2.out).mono ?_; rintro e w3 ⟨rfl, hx⟩; have HX3 := hide hx; clear Ha K11 hx))
       go_ret
       exact ⟨rfl, HX3.out.mono (by omega)⟩
     ·have y10 : (E10 == 0) = false := by simpa using z10
      have x10 : (E10 != 0) = true := by simpa using z10
      by_cases v10 : E10 = 50
      ·subst v10
       have HC : Hid (T.rput n d = (50, T10)) := hide (by rw [HRP.out]; simp [Ds.rput1, Ds.rput2, bnd, off2, hf, h9, h10])
       rw [HC.out]
       clear hf h9 h10 HRP HC
       go_enter Tryz.func16, Tryz.ntmps16
       go_wp2_with (first
        | (go_at_call 59; refine c1.mono ?_; rintro e w' ⟨rfl, hww⟩; obtain rfl := hww.symm; clear c1)
        | (go_at_call 42; refine hof.mono ?_; rintro e w' ⟨rfl, hww⟩; obtain rfl := hww.symm; clear hof)
        | (go_at_call 60; refine hha.mono ?_; rintro e w' ⟨rfl, hww⟩; obtain rfl := hww.symm; clear hha)
        | (go_at_call 24; have Ha := K9; refine (K9.out _ HX0.out).mono ?_; rintro e w1 ⟨rfl, hx⟩; have HX1 := hide hx; clear Ha K9 hx)
        | (go_at_call 26; have Ha := K10; refine (K10.out _ HX1.out).mono ?_; rintro e w2 ⟨rfl, hx⟩; have HX2 := hide hx; clear Ha K10 hx))
       go_ret
       exact ⟨rfl, HX2.out.mono (by omega)⟩
      ·have u10 : (E10 != 50) = true := by simpa using v10
       have t10 : (E10 == 50) = false := by simpa using v10
       obtain ⟨E14, T14, h14⟩ : ∃ E T', T10.raway P = (E, T') := ⟨_, _, rfl⟩
       have K14 : Hid (∀ v, Rx X w v q T10 (M + 1 + min m 1048576 + 2) → Calls Tryz.prog 61 #[.pointer (some ⟨q, 0, none⟩), encStr P] v fun e w' => e = .returned (.int .i64 E14) ∧ Rx X w w' q T14 (M + 1 + min m 1048576 + 2 + 3)) := hide (fun v hx => rx_as (away_rx hx (by omega) P hpl) h14)
       by_cases z14 : E14 = 0
       ·subst z14
        have HC : Hid (T.rput n d = (E10, T14)) := hide (by rw [HRP.out]; simp [Ds.rput1, Ds.rput2, bnd, off2, hf, h9, h10, z10, v10, h14])
        rw [HC.out]
        clear hf h9 h10 z10 v10 h14 HRP HC
        go_enter Tryz.func16, Tryz.ntmps16
        go_wp2_with (first
         | (go_at_call 59; refine c1.mono ?_; rintro e w' ⟨rfl, hww⟩; obtain rfl := hww.symm; clear c1)
         | (go_at_call 42; refine hof.mono ?_; rintro e w' ⟨rfl, hww⟩; obtain rfl := hww.symm; clear hof)
         | (go_at_call 60; refine hha.mono ?_; rintro e w' ⟨rfl, hww⟩; obtain rfl := hww.symm; clear hha)
         | (go_at_call 24; have Ha := K9; refine (K9.out _ HX0.out).mono ?_; rintro e w1 ⟨rfl, hx⟩; have HX1 := hide hx; clear Ha K9 hx)
         | (go_at_call 26; have Ha := K10; refine (K10.out _ HX1.out).mono ?_; rintro e w2 ⟨rfl, hx⟩; have HX2 := hide hx; clear Ha K10 hx)
         | (go_at_call 61; have Ha := K14; refine (K14.out _ HX2.out).mono ?_; rintro e w3 ⟨rfl, hx⟩; have HX3 := hide hx; clear Ha K14 hx))
        go_ret
        exact ⟨rfl, HX3.out.mono (by omega)⟩
       ·have y14 : (E14 == 0) = false := by simpa using z14
        have x14 : (E14 != 0) = true := by simpa using z14
        have HC : Hid (T.rput n d = (50, T14)) := hide (by rw [HRP.out]; simp [Ds.rput1, Ds.rput2, bnd, off2, hf, h9, h10, z10, v10, h14, z14])
        rw [HC.out]
        clear hf h9 h10 z10 v10 h14 z14 HRP HC
        go_enter Tryz.func16, Tryz.ntmps16
        go_wp2_with (first
         | (go_at_call 59; refine c1.mono ?_; rintro e w' ⟨rfl, hww⟩; obtain rfl := hww.symm; clear c1)
         | (go_at_call 42; refine hof.mono ?_; rintro e w' ⟨rfl, hww⟩; obtain rfl := hww.symm; clear hof)
         | (go_at_call 60; refine hha.mono ?_; rintro e w' ⟨rfl, hww⟩; obtain rfl := hww.symm; clear hha)
         | (go_at_call 24; have Ha := K9; refine (K9.out _ HX0.out).mono ?_; rintro e w1 ⟨rfl, hx⟩; have HX1 := hide hx; clear Ha K9 hx)
         | (go_at_call 26; have Ha := K10; refine (K10.out _ HX1.out).mono ?_; rintro e w2 ⟨rfl, hx⟩; have HX2 := hide hx; clear Ha K10 hx)
         | (go_at_call 61; have Ha := K14; refine (K14.out _ HX2.out).mono ?_; rintro e w3 ⟨rfl, hx⟩; have HX3 := hide hx; clear Ha K14 hx))
        go_ret
        exact ⟨rfl, HX3.out.mono (by omega)⟩
    ·have y9 : (E9 == 0) = false := by simpa using z9
     have x9 : (E9 != 0) = true := by simpa using z9
     by_cases v9 : E9 = 50
     ·subst v9
      have HC : Hid (T.rput n d = (50, T9)) := hide (by rw [HRP.out]; simp [Ds.rput1, Ds.rput2, bnd, off2, hf, h9])
      rw [HC.out]
      clear hf h9 HRP HC
      go_enter Tryz.func16, Tryz.ntmps16
      go_wp2_with (first
       | (go_at_call 59; refine c1.mono ?_; rintro e w' ⟨rfl, hww⟩; obtain rfl := hww.symm; clear c1)
       | (go_at_call 42; refine hof.mono ?_; rintro e w' ⟨rfl, hww⟩; obtain rfl := hww.symm; clear hof)
       | (go_at_call 60; refine hha.mono ?_; rintro e w' ⟨rfl, hww⟩; obtain rfl := hww.symm; clear hha)
       | (go_at_call 24; have Ha := K9; refine (K9.out _ HX0.out).mono ?_; rintro e w1 ⟨rfl, hx⟩; have HX1 := hide hx; clear Ha K9 hx))
      go_ret
      exact ⟨rfl, HX1.out.mono (by omega)⟩
     ·have u9 : (E9 != 50) = true := by simpa using v9
      have t9 : (E9 == 50) = false := by simpa using v9
      have HC : Hid (T.rput n d = (E9, T9)) := hide (by rw [HRP.out]; simp [Ds.rput1, Ds.rput2, bnd, off2, hf, h9, z9, v9])
      rw [HC.out]
      clear hf h9 z9 v9 HRP HC
      go_enter Tryz.func16, Tryz.ntmps16
      go_wp2_with (first
       | (go_at_call 59; refine c1.mono ?_; rintro e w' ⟨rfl, hww⟩; obtain rfl := hww.symm; clear c1)
       | (go_at_call 42; refine hof.mono ?_; rintro e w' ⟨rfl, hww⟩; obtain rfl := hww.symm; clear hof)
       | (go_at_call 60; refine hha.mono ?_; rintro e w' ⟨rfl, hww⟩; obtain rfl := hww.symm; clear hha)
       | (go_at_call 24; have Ha := K9; refine (K9.out _ HX0.out).mono ?_; rintro e w1 ⟨rfl, hx⟩; have HX1 := hide hx; clear Ha K9 hx))
      go_ret
      exact ⟨rfl, HX1.out.mono (by omega)⟩
  ·have ho' : T.on = false := by simpa using hon
   have HC : Hid (T.rput n d = (50, T)) := hide (by unfold Ds.rput; rw [if_pos hp, if_neg hon])
   rw [ho'] at hof
   rw [HC.out]
   clear h hon
   go_enter Tryz.func16, Tryz.ntmps16
   go_wp2_with (first
    | (go_at_call 59; refine c1.mono ?_; rintro e w' ⟨rfl, hww⟩; obtain rfl := hww.symm; clear c1)
    | (go_at_call 42; refine hof.mono ?_; rintro e w' ⟨rfl, hww⟩; obtain rfl := hww.symm; clear hof))
   go_ret
   exact ⟨rfl, HX0.out.mono (by omega)⟩
 ·have hp' : isPut n = false := by simpa using hp
  have HC : Hid (T.rput n d = (51, T)) := hide (by unfold Ds.rput; rw [if_neg hp])
  rw [hp'] at c1
  rw [HC.out]
  clear h hp
  go_enter Tryz.func16, Tryz.ntmps16
  go_wp2_with (go_at_call 59; refine c1.mono ?_; rintro e w' ⟨rfl, hww⟩; obtain rfl := hww.symm; clear c1)
  go_ret
  exact ⟨rfl, HX0.out.mono (by omega)⟩
theorem rput_rx (h : Rx X wa w q T M) (n : By) {ao : Option Addr} {m c : Nat} {d : By} (hM : M + 1048620 ≤ 268435456) (hm8 : m ≤ 4611686018427387900) (hn : n.length ≤ 4611686018427387900) (hl : d.length = m) (hs : Sl w ao d) (h0 : ao = none → m = 0 ∧ c = 0) (hfar : d ≠ [] → ∀ a, ao = some a → X a.block) :
  Calls Tryz.prog 16 #[.pointer (some ⟨q, 0, none⟩), encStr n, .slice ao m c] w fun e w' => e = .returned (.int .i64 (T.rput n d).1) ∧ Rx X wa w' q (T.rput n d).2 (M + min m 1048576 + 20) := by
 refine (rput_rx0 h.here n hM hm8 hn hl hs h0 hfar).mono ?_
 rintro e w' ⟨rfl, hx⟩
 exact ⟨rfl, h.back hx⟩
end
end Go.Proofs.YtodihkdmneihiaaGreatDoor
