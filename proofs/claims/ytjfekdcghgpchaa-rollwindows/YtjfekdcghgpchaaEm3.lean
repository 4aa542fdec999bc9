/-
  Contracts: freightlaw3.nested.
-/
import Derived.Test.YtjfekdcghgpchaaEm2
namespace Go.Proofs.Ytjfekdcghgpchaa
open Go.RowKit
set_option linter.unusedVariables false
set_option linter.unusedSimpArgs false

/-- An iterator's value in a variable. -/
def Itv (w : World) (I Kb Sb : Nat) : Prop := w.cell? ⟨I, 0, none⟩ = some (.func (.func 29) #[] #[.pointer (some ⟨Kb, 0, none⟩), .pointer (some ⟨Sb, 0, none⟩)])

set_option maxHeartbeats 1000000 in
set_option maxRecDepth 100000 in
theorem n1_ok (k I Ok Ou Kb Sb g cap' Db Sz Nb b off cap size nn : Nat) (xs : List UInt8) (w : World) (h : It w Kb Sb g cap' Db Sz Nb b off cap size nn xs) (hI : Itv w I Kb Sb) (hO : Var1 w Ok (.bool true) 4) (hU : Var1 w Ou (.int .i64 k) 3) (hne : Ok ≠ Ou) (hf : Far Ok Kb Sb g Db Sz Nb b) (hks : k + size ≤ xs.length) (hk4 : k ≤ 4) :
    Calls Try.prog 30 #[.int .i64 k, .int .i64 (Rol.sum (wat xs size k)), .pointer (some ⟨I, 0, none⟩), .pointer (some ⟨Ok, 0, none⟩), .pointer (some ⟨Ou, 0, none⟩), .pointer (some ⟨Nb, 0, none⟩), .pointer (some ⟨Db, 0, none⟩), .pointer (some ⟨Sz, 0, none⟩)] w fun e w' => e = .returned (.bool (decide (k + 1 < 5))) ∧ Var1 w' Ok (.bool true) 4 ∧ Var1 w' Ou (.int .i64 ((k + 1 : Nat) : Int)) 3 ∧ Kept [Ok, Ou] w w' := by
  have hlt := h.lts
  have hOl := hO.lt
  have hUl := hU.lt
  have hka : Kept [] w (w.alloc (.cells #[.int .i64 0] 3)) := (Kept.refl _ _).alloc _
  have cI : w.cell? ⟨I, 0, none⟩ = some (.func (.func 29) #[] #[.pointer (some ⟨Kb, 0, none⟩), .pointer (some ⟨Sb, 0, none⟩)]) := hI
  have hIl : I < w.heap.size := World.block_lt_of_cell? _ _ cI
  have cI2 := hka.cellOf cI (by simp)
  have HIT : Hid (Calls Try.prog 29 #[.func (.func 31) #[] #[.pointer (some ⟨Ok, 0, none⟩), .pointer (some ⟨w.heap.size, 0, none⟩)], .pointer (some ⟨Kb, 0, none⟩), .pointer (some ⟨Sb, 0, none⟩)] (w.alloc (.cells #[.int .i64 0] 3)) fun e w' => e = .returned (.tuple #[]) ∧ Var1 w' Ok (.bool true) 4 ∧ Kept [Ok, w.heap.size] (w.alloc (.cells #[.int .i64 0] 3)) w' ∧ ∃ k : Nat, Var1 w' w.heap.size (.int .i64 k) 3 ∧ (k = xs.length - size + 1 ∨ k = 4) ∧ k ≤ 4) :=
    it3_ok Ok w.heap.size Kb Sb g cap' size xs _ (h.c.kept hka (by simp) (by simp) (by simp)) (hO.kept hka (by simp)) (Var1.new w _ _) (by omega) ⟨hf.1, hf.2.1, hf.2.2.1⟩ ⟨by clear hf; omega, by clear hf; omega, by clear hf; omega⟩
  have HH : Hid (It w Kb Sb g cap' Db Sz Nb b off cap size nn xs) := h
  have HF : Hid (Far Ok Kb Sb g Db Sz Nb b) := hf
  have HU : Hid (Var1 w Ou (.int .i64 k) 3) := hU
  have HKA : Hid (Kept [] w (w.alloc (.cells #[.int .i64 0] 3))) := hka
  have hnn := h.v.hn
  have hmx := h.v.max
  have hle := h.v.le
  have hs1 := h.v.h1
  have hs2 := h.v.h2
  clear h hI hO hU hf hka
  go_enter Try.func30, Try.ntmps30
  go_wp2_with (fail)
  refine HIT.out.mono ?_
  rintro e w2 ⟨rfl, hO2, hk2, j, hJ, hj1, hj2⟩
  have hkw : Kept [Ok] w w2 := ⟨by rw [hk2.os]; exact HKA.out.os, by rw [hk2.tape]; exact HKA.out.tape, by rw [hk2.output]; exact HKA.out.output, Nat.le_trans HKA.out.size hk2.size, fun i hi hn => by
    rw [hk2.block i (Nat.lt_of_lt_of_le hi HKA.out.size) (by simp at hn ⊢; omega)]
    exact HKA.out.block i hi (by simp)⟩
  have hf := HF.out
  have hv := HH.out.v.kept hkw (by simp; exact Ne.symm hf.2.2.2.1) (by simp; exact Ne.symm hf.2.2.2.2.1) (by simp; exact Ne.symm hf.2.2.2.2.2.1) (by simp; exact Ne.symm hf.2.2.2.2.2.2)
  have hU2 := HU.out.kept hkw (by simp; exact Ne.symm hne)
  have c1 := hv.d
  have c2 := hv.s
  have c3 := hv.n
  have c4 := hO2.cell
  have f4 := hO2.fr
  have c5 := hU2.cell
  have f5 := hU2.fr
  have c6 := hJ.cell
  have hkn : k < nn := by omega
  have hcut : ∀ W, (Instr.slice 23 (.slice (some ⟨b, off, none⟩) xs.length cap) (some (.int .i64 k)) (some (.int .i64 ((k : Int) + (size : Int)))) none).run Try.prog W = .ok (.slice (some ⟨b, off + k, none⟩) size (cap - k)) W := fun W => Try.cutWin W b off xs.length cap k size (by omega) hs1
  have HR : Hid (Calls Try.prog 11 #[.slice (some ⟨b, off + k, none⟩) size (cap - k)] w2 fun e w' => e = .returned (.int .i64 (Rol.sum (wat xs size k))) ∧ w' = w2) := refsum_n _ size _ _ w2 (wat_length _ _ _ hks) (by omega) (hv.sl.wat size k hks)
  have HK2 : Hid (Kept [Ok, Ou] w ((w2.setCell ⟨Ok, 0, none⟩ (.bool true)).setCell ⟨Ou, 0, none⟩ (.int .i64 ((k + 1 : Nat) : Int)))) := ((hkw.mono (by simp)).setCell (by simp) _).setCell (by simp) _
  have HO3 : Hid (Var1 ((w2.setCell ⟨Ok, 0, none⟩ (.bool true)).setCell ⟨Ou, 0, none⟩ (.int .i64 ((k + 1 : Nat) : Int))) Ok (.bool true) 4) := (hO2.set _).other hne _
  have HU3 : Hid (Var1 ((w2.setCell ⟨Ok, 0, none⟩ (.bool true)).setCell ⟨Ou, 0, none⟩ (.int .i64 ((k + 1 : Nat) : Int))) Ou (.int .i64 ((k + 1 : Nat) : Int)) 3) := (hU2.other (Ne.symm hne) _).set _
  have hjn : j = nn ∨ (j ≠ nn ∧ j = 4) := by omega
  have hne' : Ou ≠ Ok := Ne.symm hne
  have hInOk : w.heap.size ≠ Ok := by omega
  have hInOu : w.heap.size ≠ Ou := by omega
  obtain ⟨L, hL⟩ : ∃ L, L = xs.length := ⟨_, rfl⟩
  rw [← hL] at c1 hcut hmx hle hks hs2
  generalize Rol.sum (wat xs size k) = sm at HR ⊢
  generalize w.heap.size = In at c6 hInOk hInOu ⊢
  clear hv hU2 hJ hO2 hk2 hkw hf HF HH HU HKA HIT hj1 hnn hL hlt hOl hUl cI cI2 hIl
  rcases hjn with hj | ⟨hj, rfl⟩
  · subst hj
    go_wp2_with (go_at_call 11; refine HR.out.mono ?_; rintro e w' ⟨rfl, hw⟩; obtain rfl := hw.symm)
    go_ret
    exact ⟨by congr 2; simp; omega, HO3.out, HU3.out, HK2.out⟩
  · go_wp2_with (go_at_call 11; refine HR.out.mono ?_; rintro e w' ⟨rfl, hw⟩; obtain rfl := hw.symm)
    go_ret
    exact ⟨by congr 2; simp; omega, HO3.out, HU3.out, HK2.out⟩

set_option maxHeartbeats 600000 in
theorem it4_ok (I Ok Ou Kb Sb g cap' Db Sz Nb b off cap size nn : Nat) (xs : List UInt8) (w : World) (h : It w Kb Sb g cap' Db Sz Nb b off cap size nn xs) (hI : Itv w I Kb Sb) (hO : Var1 w Ok (.bool true) 4) (hU : Var1 w Ou (.int .i64 0) 3) (hne : Ok ≠ Ou) (hio : I ≠ Ok ∧ I ≠ Ou) (hf : Far Ok Kb Sb g Db Sz Nb b) (hf2 : Far Ou Kb Sb g Db Sz Nb b) :
    Calls Try.prog 29 #[.func (.func 30) #[] #[.pointer (some ⟨I, 0, none⟩), .pointer (some ⟨Ok, 0, none⟩), .pointer (some ⟨Ou, 0, none⟩), .pointer (some ⟨Nb, 0, none⟩), .pointer (some ⟨Db, 0, none⟩), .pointer (some ⟨Sz, 0, none⟩)], .pointer (some ⟨Kb, 0, none⟩), .pointer (some ⟨Sb, 0, none⟩)] w fun e w' => e = .returned (.tuple #[]) ∧ Var1 w' Ok (.bool true) 4 ∧ Kept [Ok, Ou] w w' ∧ ∃ k : Nat, Var1 w' Ou (.int .i64 k) 3 ∧ (k = nn ∨ k = 5) := by
  have hOl := hO.lt
  have hUl := hU.lt
  have hnn := h.v.hn
  have hh : ∀ w1, Kept [Ok, Ou] w w1 → It w1 Kb Sb g cap' Db Sz Nb b off cap size nn xs := fun w1 hk => h.kept hk (fun i hi => by
    simp at hi
    rcases hi with rfl | rfl
    · exact hf
    · exact hf2)
  have l1 : Kb ∉ [Ok, Ou] := by simp; exact ⟨Ne.symm hf.1, Ne.symm hf2.1⟩
  have l2 : Sb ∉ [Ok, Ou] := by simp; exact ⟨Ne.symm hf.2.1, Ne.symm hf2.2.1⟩
  have l3 : g ∉ [Ok, Ou] := by simp; exact ⟨Ne.symm hf.2.2.1, Ne.symm hf2.2.2.1⟩
  have l4 : I ∉ [Ok, Ou] := by simpa using hio
  have l5 : ∀ P, w.heap.size ≤ P → P ∉ [Ok, Ou] := fun P hP => by simp; clear hf hf2 hio hne; omega
  have HF := hf
  clear hf2 hio
  refine (win2_any 30 _ Kb Sb g cap' size xs w (fun P k w' => Var1 w' Ok (.bool true) 4 ∧ Var1 w' Ou (.int .i64 k) 3 ∧ Kept [Ok, Ou] w w' ∧ k ≤ 4) (fun P k w' => Var1 w' Ok (.bool true) 4 ∧ Var1 w' Ou (.int .i64 ((k + 1 : Nat) : Int)) 3 ∧ Kept [Ok, Ou] w w' ∧ k = 4) Try.call30 h.c (fun P w1 hP hP1 hk => ⟨hO.kept hk (by simp), hU.kept hk (by simp), hk.mono (by simp), by omega⟩) (fun P k w1 w2 hP hI hk => ⟨hI.1.kept hk (by clear hf HF; simp; omega), hI.2.1.kept hk (by clear hf HF; simp; omega), hI.2.2.1.trans hk (by clear hf HF; simp; omega), hI.2.2.2⟩) (fun P k w1 hP hP1 hks hI' hc1 => ?_)).mono fun e w' ⟨he, hh⟩ => ⟨he, ?_⟩
  · obtain ⟨i1, i2, i3, i4⟩ := hI'
    refine (n1_ok k I Ok Ou Kb Sb g cap' Db Sz Nb b off cap size nn xs w1 (hh w1 i3) (i3.cellOf hI l4) i1 i2 hne HF hks i4).mono fun e w2 ⟨he, j1, j2, j3⟩ => ?_
    exact ⟨_, [Ok, Ou], he, j3, l5 P hP, l1, l2, l3, fun hb => ⟨j1, j2, i3.trans j3 (by simp), by simp at hb; omega⟩, fun hb => ⟨j1, j2, i3.trans j3 (by simp), by simp at hb; omega⟩⟩
  · rcases hh with ⟨P, _, j1, j2, j3, j4⟩ | ⟨P, k, _, hks, j1, j2, j3, j4⟩
    · exact ⟨j1, j3, _, j2, .inl (by omega)⟩
    · exact ⟨j1, j3, k + 1, j2, .inr (by omega)⟩

set_option maxHeartbeats 1000000 in
set_option maxRecDepth 100000 in
theorem nested_bad (v : Value) (size : Int) (w : World) (ao : Option Addr) (n cap : Nat) (hv : v = .slice ao n cap) :
    Calls Try.prog 20 #[.func (.func 27) #[] #[], v, .int .i64 size, .int .i64 0] w fun e w' => e = .returned (.bool true) ∧ Kept [] w w' := by
  subst hv
  have HK : Hid (Kept [] w ((((((w.alloc (.cells #[.func (.func 27) #[] #[]] 39)).alloc (.cells #[.slice ao n cap] 23)).alloc (.cells #[.int .i64 size] 3)).alloc (.cells #[.int .i64 0] 3)).alloc (.cells #[.bool true] 4)).alloc (.cells #[.int .i64 0] 3))) := ((((((Kept.refl [] w).alloc _).alloc _).alloc _).alloc _).alloc _).alloc _
  go_enter Try.func20, Try.ntmps20
  go_wp2_with (go_at_call 27; refine (win1_any _ _).mono ?_; rintro e w' ⟨rfl, hw⟩; obtain rfl := hw.symm)
  go_ret
  exact ⟨rfl, HK.out⟩

theorem boxes6 (w : World) (v0 v1 v2 v3 v4 v5 : Value) (t0 t1 t2 t3 t4 t5 : TypeId) :
    Var1 ((((((w.alloc (.cells #[v0] t0)).alloc (.cells #[v1] t1)).alloc (.cells #[v2] t2)).alloc (.cells #[v3] t3)).alloc (.cells #[v4] t4)).alloc (.cells #[v5] t5)) (w.heap.size) v0 t0 ∧ Var1 ((((((w.alloc (.cells #[v0] t0)).alloc (.cells #[v1] t1)).alloc (.cells #[v2] t2)).alloc (.cells #[v3] t3)).alloc (.cells #[v4] t4)).alloc (.cells #[v5] t5)) (w.heap.size + 1) v1 t1 ∧ Var1 ((((((w.alloc (.cells #[v0] t0)).alloc (.cells #[v1] t1)).alloc (.cells #[v2] t2)).alloc (.cells #[v3] t3)).alloc (.cells #[v4] t4)).alloc (.cells #[v5] t5)) (w.heap.size + 1 + 1) v2 t2 ∧ Var1 ((((((w.alloc (.cells #[v0] t0)).alloc (.cells #[v1] t1)).alloc (.cells #[v2] t2)).alloc (.cells #[v3] t3)).alloc (.cells #[v4] t4)).alloc (.cells #[v5] t5)) (w.heap.size + 1 + 1 + 1) v3 t3 ∧ Var1 ((((((w.alloc (.cells #[v0] t0)).alloc (.cells #[v1] t1)).alloc (.cells #[v2] t2)).alloc (.cells #[v3] t3)).alloc (.cells #[v4] t4)).alloc (.cells #[v5] t5)) (w.heap.size + 1 + 1 + 1 + 1) v4 t4 ∧ Var1 ((((((w.alloc (.cells #[v0] t0)).alloc (.cells #[v1] t1)).alloc (.cells #[v2] t2)).alloc (.cells #[v3] t3)).alloc (.cells #[v4] t4)).alloc (.cells #[v5] t5)) (w.heap.size + 1 + 1 + 1 + 1 + 1) v5 t5 ∧ Kept [] w ((((((w.alloc (.cells #[v0] t0)).alloc (.cells #[v1] t1)).alloc (.cells #[v2] t2)).alloc (.cells #[v3] t3)).alloc (.cells #[v4] t4)).alloc (.cells #[v5] t5)) ∧ ((((((w.alloc (.cells #[v0] t0)).alloc (.cells #[v1] t1)).alloc (.cells #[v2] t2)).alloc (.cells #[v3] t3)).alloc (.cells #[v4] t4)).alloc (.cells #[v5] t5)).heap.size = w.heap.size + 1 + 1 + 1 + 1 + 1 + 1 := by
  have h0 : Var1 (w.alloc (.cells #[v0] t0)) w.heap.size v0 t0 := Var1.new w v0 t0
  have h1 : Var1 ((w.alloc (.cells #[v0] t0)).alloc (.cells #[v1] t1)) (w.heap.size + 1) v1 t1 := by
    have := Var1.new (w.alloc (.cells #[v0] t0)) v1 t1
    simpa using this
  have h2 : Var1 (((w.alloc (.cells #[v0] t0)).alloc (.cells #[v1] t1)).alloc (.cells #[v2] t2)) (w.heap.size + 1 + 1) v2 t2 := by
    have := Var1.new ((w.alloc (.cells #[v0] t0)).alloc (.cells #[v1] t1)) v2 t2
    simpa using this
  have h3 : Var1 ((((w.alloc (.cells #[v0] t0)).alloc (.cells #[v1] t1)).alloc (.cells #[v2] t2)).alloc (.cells #[v3] t3)) (w.heap.size + 1 + 1 + 1) v3 t3 := by
    have := Var1.new (((w.alloc (.cells #[v0] t0)).alloc (.cells #[v1] t1)).alloc (.cells #[v2] t2)) v3 t3
    simpa using this
  have h4 : Var1 (((((w.alloc (.cells #[v0] t0)).alloc (.cells #[v1] t1)).alloc (.cells #[v2] t2)).alloc (.cells #[v3] t3)).alloc (.cells #[v4] t4)) (w.heap.size + 1 + 1 + 1 + 1) v4 t4 := by
    have := Var1.new ((((w.alloc (.cells #[v0] t0)).alloc (.cells #[v1] t1)).alloc (.cells #[v2] t2)).alloc (.cells #[v3] t3)) v4 t4
    simpa using this
  have h5 : Var1 ((((((w.alloc (.cells #[v0] t0)).alloc (.cells #[v1] t1)).alloc (.cells #[v2] t2)).alloc (.cells #[v3] t3)).alloc (.cells #[v4] t4)).alloc (.cells #[v5] t5)) (w.heap.size + 1 + 1 + 1 + 1 + 1) v5 t5 := by
    have := Var1.new (((((w.alloc (.cells #[v0] t0)).alloc (.cells #[v1] t1)).alloc (.cells #[v2] t2)).alloc (.cells #[v3] t3)).alloc (.cells #[v4] t4)) v5 t5
    simpa using this
  have ka : ∀ (W : World) (o : Obj), Kept [] W (W.alloc o) := fun W o => (Kept.refl [] W).alloc o
  exact ⟨(((((h0.kept (ka _ _) (by simp)).kept (ka _ _) (by simp)).kept (ka _ _) (by simp)).kept (ka _ _) (by simp)).kept (ka _ _) (by simp)), ((((h1.kept (ka _ _) (by simp)).kept (ka _ _) (by simp)).kept (ka _ _) (by simp)).kept (ka _ _) (by simp)), (((h2.kept (ka _ _) (by simp)).kept (ka _ _) (by simp)).kept (ka _ _) (by simp)), ((h3.kept (ka _ _) (by simp)).kept (ka _ _) (by simp)), (h4.kept (ka _ _) (by simp)), h5, ((((((Kept.refl [] w).alloc _).alloc _).alloc _).alloc _).alloc _).alloc _, by simp⟩

set_option maxHeartbeats 1000000 in
set_option maxRecDepth 100000 in
theorem nested_ok (Kb Sb g cap' b off n cap size nn : Nat) (xs : List UInt8) (w : World) (hc : Wc w Kb Sb g cap' size xs) (hx : xs.length = n) (hs : Sl w (some ⟨b, off, none⟩) xs) (hcap : n ≤ cap) (hm : n ≤ 100000) (hnn : nn = n - size + 1) :
    Calls Try.prog 20 #[.func (.func 29) #[] #[.pointer (some ⟨Kb, 0, none⟩), .pointer (some ⟨Sb, 0, none⟩)], .slice (some ⟨b, off, none⟩) n cap, .int .i64 size, .int .i64 nn] w fun e w' => e = .returned (.bool true) ∧ Kept [] w w' := by
  obtain ⟨h0, h1, h2, h3, h4, h5, hk, hsz⟩ := boxes6 w (.func (.func 29) #[] #[.pointer (some ⟨Kb, 0, none⟩), .pointer (some ⟨Sb, 0, none⟩)]) (.slice (some ⟨b, off, none⟩) n cap) (.int .i64 size) (.int .i64 nn) (.bool true) (.int .i64 0) 39 23 3 3 4 3
  have e1 : Kb < w.heap.size := World.block_lt_of_cell? _ _ hc.k
  have e2 : Sb < w.heap.size := World.block_lt_of_cell? _ _ hc.s
  have e3 : g < w.heap.size := World.block_lt_of_cell? _ _ (hc.d 0 (by have := hc.h1; have := hc.h2; omega))
  have e4 : b < w.heap.size := by
    obtain ⟨b', off', e', hcc⟩ := hs 0 (by have := hc.h1; have := hc.h2; omega)
    cases e'
    exact World.block_lt_of_cell? _ _ hcc
  have c0 := h0.cell
  have hsm := hc.h2
  have hs1 := hc.h1
  have HIT : Hid (It ((((((w.alloc (.cells #[.func (.func 29) #[] #[.pointer (some ⟨Kb, 0, none⟩), .pointer (some ⟨Sb, 0, none⟩)]] 39)).alloc (.cells #[.slice (some ⟨b, off, none⟩) n cap] 23)).alloc (.cells #[.int .i64 size] 3)).alloc (.cells #[.int .i64 nn] 3)).alloc (.cells #[.bool true] 4)).alloc (.cells #[.int .i64 0] 3)) Kb Sb g cap' (w.heap.size + 1) (w.heap.size + 1 + 1) (w.heap.size + 1 + 1 + 1) b off cap size nn xs) := ⟨hc.kept hk (by simp) (by simp) (by simp), ⟨by rw [hx]; exact h1.cell, h2.cell, h3.cell, hs.kept hk (by simp), hc.h1, hc.h2, by rw [hx]; exact hnn, by rw [hx]; exact hcap, by rw [hx]; exact hm⟩⟩
  have HC : Hid (Calls Try.prog 29 #[.func (.func 30) #[] #[.pointer (some ⟨w.heap.size, 0, none⟩), .pointer (some ⟨w.heap.size + 1 + 1 + 1 + 1, 0, none⟩), .pointer (some ⟨w.heap.size + 1 + 1 + 1 + 1 + 1, 0, none⟩), .pointer (some ⟨w.heap.size + 1 + 1 + 1, 0, none⟩), .pointer (some ⟨w.heap.size + 1, 0, none⟩), .pointer (some ⟨w.heap.size + 1 + 1, 0, none⟩)], .pointer (some ⟨Kb, 0, none⟩), .pointer (some ⟨Sb, 0, none⟩)] ((((((w.alloc (.cells #[.func (.func 29) #[] #[.pointer (some ⟨Kb, 0, none⟩), .pointer (some ⟨Sb, 0, none⟩)]] 39)).alloc (.cells #[.slice (some ⟨b, off, none⟩) n cap] 23)).alloc (.cells #[.int .i64 size] 3)).alloc (.cells #[.int .i64 nn] 3)).alloc (.cells #[.bool true] 4)).alloc (.cells #[.int .i64 0] 3)) fun e w' => e = .returned (.tuple #[]) ∧ Var1 w' (w.heap.size + 1 + 1 + 1 + 1) (.bool true) 4 ∧ Kept [w.heap.size + 1 + 1 + 1 + 1, w.heap.size + 1 + 1 + 1 + 1 + 1] ((((((w.alloc (.cells #[.func (.func 29) #[] #[.pointer (some ⟨Kb, 0, none⟩), .pointer (some ⟨Sb, 0, none⟩)]] 39)).alloc (.cells #[.slice (some ⟨b, off, none⟩) n cap] 23)).alloc (.cells #[.int .i64 size] 3)).alloc (.cells #[.int .i64 nn] 3)).alloc (.cells #[.bool true] 4)).alloc (.cells #[.int .i64 0] 3)) w' ∧ ∃ k : Nat, Var1 w' (w.heap.size + 1 + 1 + 1 + 1 + 1) (.int .i64 k) 3 ∧ (k = nn ∨ k = 5)) :=
    it4_ok w.heap.size (w.heap.size + 1 + 1 + 1 + 1) (w.heap.size + 1 + 1 + 1 + 1 + 1) Kb Sb g cap' (w.heap.size + 1) (w.heap.size + 1 + 1) (w.heap.size + 1 + 1 + 1) b off cap size nn xs _ HIT.out c0 h4 h5 (by omega) ⟨by omega, by omega⟩ ⟨by omega, by omega, by omega, by omega, by omega, by omega, by omega⟩ ⟨by omega, by omega, by omega, by omega, by omega, by omega, by omega⟩
  have HK : Hid (Kept [] w ((((((w.alloc (.cells #[.func (.func 29) #[] #[.pointer (some ⟨Kb, 0, none⟩), .pointer (some ⟨Sb, 0, none⟩)]] 39)).alloc (.cells #[.slice (some ⟨b, off, none⟩) n cap] 23)).alloc (.cells #[.int .i64 size] 3)).alloc (.cells #[.int .i64 nn] 3)).alloc (.cells #[.bool true] 4)).alloc (.cells #[.int .i64 0] 3))) := hk
  have HN : Hid (((((((w.alloc (.cells #[.func (.func 29) #[] #[.pointer (some ⟨Kb, 0, none⟩), .pointer (some ⟨Sb, 0, none⟩)]] 39)).alloc (.cells #[.slice (some ⟨b, off, none⟩) n cap] 23)).alloc (.cells #[.int .i64 size] 3)).alloc (.cells #[.int .i64 nn] 3)).alloc (.cells #[.bool true] 4)).alloc (.cells #[.int .i64 0] 3)).cell? ⟨w.heap.size + 1 + 1 + 1, 0, none⟩ = some (.int .i64 nn)) := h3.cell
  clear h0 h1 h2 h3 h4 h5 hk HIT hc hs hsz hnn hx
  go_enter Try.func20, Try.ntmps20
  go_wp2_with (fail)
  refine HC.out.mono ?_
  rintro e w2 ⟨rfl, hO2, hk2, j, hJ, hj⟩
  have c1 := hO2.cell
  have c2 := hJ.cell
  have c3 := hk2.cellOf HN.out (by simp)
  have HKF : Hid (Kept [] w w2) := HK.out.trans hk2 (by simp; omega)
  have hjn : j = nn ∨ (j ≠ nn ∧ j = 5) := by omega
  clear hO2 hJ hk2 HC HK HN c0 hj
  rcases hjn with hj | ⟨hj, rfl⟩
  · subst hj
    go_wp2
    go_ret
    exact ⟨rfl, HKF.out⟩
  · go_wp2
    go_ret
    exact ⟨rfl, HKF.out⟩

end Go.Proofs.Ytjfekdcghgpchaa
