/-
  The walk: freightlaw11.BlockBack. (Written by tools/bk.py.)
-/
import Derived.Test.YtieklkbclkokeaaBj
import Derived.Test.YtieklkbclkokeaaEa
namespace Go.Proofs.Ytieklkbclkokeaa
open Go.RowKit
set_option linter.unusedVariables false
set_option linter.unusedSimpArgs false

theorem Blk.valid_more (L : List Bk) (n s : Nat) (h16 : 16 ≤ s) (hl : L.length = Blk.cnt n s) : Blk.valid L ((n : Int) + s) s = false := by
  refine Blk.valid_no (fun h => ?_)
  have h1 := h.1.2.2.2.2
  rw [hl] at h1
  have e : ((n : Int) + s + s - 1) / s = ((n : Int) + s - 1) / s + 1 := by
    rw [show (n : Int) + s + s - 1 = ((n : Int) + s - 1) + s by omega, Int.add_ediv_of_dvd_right (Int.dvd_refl _), Int.ediv_self (by omega)]
  have e2 : ((Blk.cnt n s : Nat) : Int) = ((n : Int) + s - 1) / s := by unfold Blk.cnt; rw [Int.natCast_ediv]; congr 1; omega
  omega
theorem Try.cutMid2 (W : World) (g L cap l q : Nat) (h2 : l + q ≤ cap) (h3 : 0 < q) :
    (Instr.slice 23 (.slice (some ⟨g, 0, none⟩) L cap) (some (.int .i64 l)) (some (.int .i64 ((l : Int) + (q : Int)))) none).run Try.prog W = .ok (.slice (some ⟨g, l, none⟩) q (cap - l)) W := by
  have h := Try.cutMid W g L cap l (l + q) (by omega) h2 (by omega)
  rw [show ((l + q : Nat) : Int) = (l : Int) + (q : Int) by push_cast; rfl, Nat.add_sub_cancel_left] at h
  exact h

set_option maxHeartbeats 400000 in
theorem back_no (ao : Option Addr) (n cap : Nat) (s : Int) (w : World) (h : ¬ (n ≤ 65536 ∧ 16 ≤ s ∧ s ≤ 4096)) :
    Calls Try.prog 7 #[.slice ao n cap, .int .i64 s] w fun e w' => e = .returned (.bool true) ∧ Below w.heap.size w w' := by
  have HF := hide (fits_no ao n cap s w h)
  clear h
  go_enter Try.func7, Try.ntmps7
  go_wp2_with (go_at_call 24; refine HF.out.mono ?_; rintro e w' ⟨rfl, hww⟩; obtain rfl := hww.symm; clear HF)
  go_ret
  exact ⟨rfl, Below.refl _ _⟩

set_option maxHeartbeats 8000000 in
set_option maxRecDepth 100000 in
theorem back_yes (ao : Option Addr) (n cap s : Nat) (xs : List UInt8) (w : World) (hi : InB w ao n cap xs) (h1 : n ≤ 65536) (h16 : 16 ≤ s) (h40 : s ≤ 4096) :
    Calls Try.prog 7 #[.slice ao n cap, .int .i64 s] w fun e w' => e = .returned (.bool true) ∧ Below w.heap.size w w' := by
  have HF := hide (fits_yes ao n cap s w h1 (by omega) (by omega))
  obtain ⟨c, hcc⟩ : ∃ c, Blk.cnt n s = c := ⟨_, rfl⟩
  have HCL : Hid (∀ k, k < c ↔ k * s < n) := fun k => by rw [← hcc]; exact Blk.cnt_lt (by omega)
  have hcn : c ≤ 70000 := by
    by_cases h : c ≤ 70000
    · exact h
    · have h1 := (HCL.out 70000).1 (by omega)
      have h2 : 70000 * 16 ≤ 70000 * s := Nat.mul_le_mul_left _ h16
      omega
  have HPK := hide (bpack_in ao n cap s xs w hi.len hi.le hi.sl h16 h40 h1)
  rw [hcc] at HPK
  unfold PkAns at HPK
  simp only at HPK
  have HX := hide hi.len
  have HS := hide hi.sl
  obtain ⟨T, hT⟩ : ∃ T, (Blk.outs xs s c).length = T := ⟨_, rfl⟩
  have hTn : T ≤ n := by
    have := Blk.outs_len xs s c
    rw [hi.len, hT] at this
    omega
  have HBLL := hide (Blk.blks_len xs s c)
  rw [hT, HBLL.out] at HPK
  have HV1 : Hid (∀ (W : World) ko kc, Blks W ko (Blk.blks xs s c) → Calls Try.prog 20 #[.slice ko c kc, .int .i64 n, .int .i64 s] W fun e w' => e = .returned (.bool true) ∧ Kept [] W w') := fun W ko kc h => by
    have hv := valid_any ko c kc (Blk.blks xs s c) n s W HBLL.out h
    have e := Blk.valid_blks xs s h16 h40 (by rw [HX.out]; exact h1)
    rw [HX.out, hcc] at e
    rw [e] at hv
    exact hv
  have HV2 : Hid (∀ (W : World) ko kc, Blks W ko (Blk.blks xs s c) → Calls Try.prog 20 #[.slice ko c kc, .int .i64 ((n : Int) + (s : Int)), .int .i64 s] W fun e w' => e = .returned (.bool false) ∧ Kept [] W w') := fun W ko kc h => by
    have hv := valid_any ko c kc (Blk.blks xs s c) ((n : Int) + s) s W HBLL.out h
    rw [Blk.valid_more _ n s h16 (by rw [HBLL.out, hcc])] at hv
    exact hv
  have hq1 : ¬ (n : Int) < (T : Int) := by omega
  have hqd : decide ((n : Int) < (T : Int)) = false := by simp; omega
  have hqn : decide (n < T) = false := by simp; omega
  have HT := hide hT
  have HM := hide hi.max
  clear hi hcc hT
  go_enter Try.func7, Try.ntmps7
  go_upto_region 4 with (first
    | (go_at_call 24; refine HF.out.mono ?_; rintro e w' ⟨rfl, hww⟩; obtain rfl := hww.symm; clear HF)
    | (go_at_call 11; refine HPK.out.mono ?_; rintro e w3 ⟨bo, bc, ko, kc, rfl, hob, hok, hb3⟩; have HOB := hide hob; have HOK := hide hok; have HB3 := hide hb3; clear hob hok hb3 HPK))
  have HKB : Hid (Blks w3 ko (Blk.blks xs s c)) := by
    obtain ⟨ao', cap', e, _, h2, _⟩ := HOK.out.shape
    rw [HBLL.out] at e
    cases e
    exact h2
  go_upto_region 6 with (first
    | (have HA := HV1; go_at_call 20; refine (HV1.out _ _ _ HKB.out).mono ?_; rintro e w4 ⟨rfl, hk4⟩; have HK4 := hide hk4; clear hk4 HV1 HA)
    | (have HA := HV2; go_at_call 20; refine (HV2.out _ _ _ (HKB.out.kept HK4.out (by simp))).mono ?_; rintro e w5 ⟨rfl, hk5⟩; have HK5 := hide hk5; clear hk5 HV2 HA))
  have HW5 : Hid (Below w3.heap.size w3 w5) := (HK4.out.trans HK5.out (by simp)).below (Nat.le_refl _) (by simp)
  clear HK4 HK5 hq1 hqd hqn
  go_wp2
  go_loopw [8, 9, 10] (fun x y z wr => ∃ k : Nat, k ≤ c ∧ z = .int .i64 k ∧ y = .int .i64 ((Blk.outs xs s k).length : Nat) ∧ Hid (OwnB wr w3.heap.size x (xs.take (k * s))) ∧ Hid (Below w3.heap.size w3 wr)) (fun x y z wr => c - (intOf z).toNat)
  case atStart => exact ⟨0, Nat.zero_le _, rfl, rfl, by show OwnB _ _ _ _; rw [Nat.zero_mul, List.take_zero]; exact World.ownsRow_nil _ _ _ _, HW5⟩
  case round =>
    clear HW5
    obtain ⟨k, hk, rfl, rfl, HOA, HBW⟩ := hrel
    by_cases hlt : k < c
    · as_aux_lemma =>
      have hks := (HCL.out k).1 hlt
      have hne : Blk.blks xs s c ≠ [] := by intro h; have := HBLL.out; rw [h] at this; simp at this; omega
      obtain ⟨gK, hgK, hbk, hckc, hbK, _⟩ := OwnK.at0 (n := c) HOK.out hne
      have hpl := Blk.pc_len xs s k
      have hpne : Blk.pc xs s k ≠ [] := by intro h; rw [h] at hpl; have := HX.out; simp at hpl; omega
      have hsp := Blk.sh_pos _ hpne
      have hsl := Blk.sh_len (Blk.pc xs s k)
      have hom := Blk.outs_mono xs s (k := k + 1) (m := c) (by omega)
      rw [Blk.outs_succ, List.length_append, HT.out] at hom
      have hone : Blk.outs xs s c ≠ [] := by intro h; have := HT.out; rw [h] at this; simp at this; omega
      obtain ⟨gO, hgO, hso, htbc, hbO, hbcm⟩ := OwnB.at0 (n := T) HOB.out hone
      subst hgK
      subst hgO
      have hgKl : gK < w3.heap.size := by
        obtain ⟨b', off', e, hc'⟩ := hbk k (by rw [HBLL.out]; exact hlt)
        cases e
        exact World.block_lt_of_cell? _ _ (hc' 0 _ rfl)
      have hgOl : gO < w3.heap.size := by
        obtain ⟨b', off', e, hb', _⟩ := hso.open hone
        cases e
        exact hb'
      have hrg : wr.rangeAt gK (k * 4) (Blk.bk xs s k).cells := by
        obtain ⟨b', off', e, hc'⟩ := hbk k (by rw [HBLL.out]; exact hlt)
        cases e
        rw [Blk.blks_at _ _ _ _ hlt, Nat.zero_add] at hc'
        exact fun j v hv => by rw [HBW.out.cell (p := ⟨gK, k * 4 + j, none⟩) hgKl]; exact hc' j v hv
      have hsO : Sl wr (some ⟨gO, (Blk.outs xs s k).length, none⟩) (Blk.sh (Blk.pc xs s k)) := by
        have h := (hso.cut (Blk.outs xs s k).length (Blk.sh (Blk.pc xs s k)).length (by rw [HT.out]; exact hom))
        rw [Blk.outs_cut xs s hlt, Nat.zero_add] at h
        intro i hi'
        obtain ⟨b', off', e, hc'⟩ := h i hi'
        cases e
        exact ⟨gO, _, rfl, by rw [HBW.out.cell (p := ⟨gO, (Blk.outs xs s k).length + i, none⟩) hgOl]; exact hc'⟩
      have HNX : Hid ((Blk.outs xs s (k + 1)).length = (Blk.outs xs s k).length + (Blk.sh (Blk.pc xs s k)).length) := by show _ = _; rw [Blk.outs_succ, List.length_append]
      have HTK := hide (Blk.take_pcs xs s k)
      have hopn := Blk.opn_pc (Blk.pc xs s k) hpne (by omega) ((Blk.outs xs s k).length : Nat)
      obtain ⟨q, hq⟩ : ∃ q, (Blk.pc xs s k).length = q := ⟨_, rfl⟩
      have hq4 : q ≤ n := by have := HX.out; omega
      have HOP : Hid (∀ (W : World), Kept [] wr W → Calls Try.prog 19 #[.slice (some ⟨gO, (Blk.outs xs s k).length, none⟩) (Blk.sh (Blk.pc xs s k)).length (bc - (Blk.outs xs s k).length), .agg #[.int .i64 ((Blk.outs xs s k).length : Nat), .int .i64 ((Blk.sh (Blk.pc xs s k)).length : Nat), .int .i64 q, .int .i64 (Pure.sum (Blk.sh (Blk.pc xs s k)) : Nat)]] W fun e w' => ∃ bx xc, e = .returned (.tuple #[.slice bx q xc, .int .i64 0]) ∧ OwnB w' W.heap.size (.slice bx q xc) (Blk.pc xs s k) ∧ Below W.heap.size W w') := fun W hW => by
        have h := open_any (some ⟨gO, (Blk.outs xs s k).length, none⟩) _ (bc - (Blk.outs xs s k).length) ⟨((Blk.outs xs s k).length : Nat), ((Blk.sh (Blk.pc xs s k)).length : Nat), ((Blk.pc xs s k).length : Nat), (Pure.sum (Blk.sh (Blk.pc xs s k)) : Nat)⟩ (Blk.sh (Blk.pc xs s k)) W rfl (by omega) (hsO.kept hW (by simp))
        rw [hopn, hq] at h
        refine h.mono fun e w' ha => ?_
        obtain ⟨bx, xc, he, h1, h3⟩ := ha
        simp only [hq] at he h1
        refine ⟨bx, xc, he, ?_, h3⟩
        unfold OwnB
        rw [hq]
        exact h1
      have HSM := hide (sum_at (cap := bc - (Blk.outs xs s k).length) (xs := Blk.sh (Blk.pc xs s k)) rfl (by omega) hsO)
      have hcut := fun W => Try.cutMid2 W gO T bc (Blk.outs xs s k).length (Blk.sh (Blk.pc xs s k)).length (by omega) (by omega)
      rw [show (Blk.bk xs s k).cells = [.int .i64 ((Blk.outs xs s k).length : Nat), .int .i64 ((Blk.sh (Blk.pc xs s k)).length : Nat), .int .i64 ((Blk.pc xs s k).length : Nat), .int .i64 (Pure.sum (Blk.sh (Blk.pc xs s k)) : Nat)] from rfl, hq] at hrg
      have HPQ := hide hq
      clear hpl hpne hsl hone hne hopn hso hbk hsO hq
      generalize (Blk.outs xs s k).length = o at *
      generalize (Blk.sh (Blk.pc xs s k)).length = m at *
      generalize Pure.sum (Blk.sh (Blk.pc xs s k)) = u at *
      have k0 := hrg 0 _ rfl
      rw [Nat.add_zero] at k0
      have k1 := hrg 1 _ rfl
      have k3 := hrg 3 _ rfl
      have qo : ((o : Int) != (o : Int)) = false := by simp
      have qu : ((u : Int) != (u : Int)) = false := by simp
      have qm : ¬ ((m : Int) < 1) := by omega
      have qmN : ¬ (m < 1) := by omega
      have wom : IntKind.i64.wrap ((o : Int) + (m : Int)) = (o : Int) + (m : Int) := by rw [IntKind.wrap_i64]; omega
      have qt : ¬ ((T : Int) < (o : Int) + (m : Int)) := by omega
      have qtN : ¬ (T < o + m) := by omega
      have hkc : (k : Int) < (c : Int) := by omega
      have hkcN : k < c := hlt
      have HGK := hide hgKl
      clear hgKl hgOl hbK hbO hks hsp hom htbc hckc
      go_upto_region 11 with (fail)
      refine wp_region_held_drew (S := fun w' => Kept [] wr w') (by kernel_rfl) ((Kept.refl [] wr).drew) (fun h0 => ?_)
      generalize World.drew wr = v0 at h0 ⊢
      refine wpAnyH_take (i := 0) (v := .slice (some ⟨gK, 0, none⟩) c kc) rfl (by kernel_rfl) (by kernel_rfl) (by kernel_rfl) (fun _ _ _ h => h) (Or.inl ⟨by rfl, fun w hSw => by go_simp⟩) h0 ?_
      try simp only [List.getElem_toArray, List.getElem_cons_zero, List.getElem_cons_succ, Act.put, List.setIfInBounds_toArray, List.set_cons_zero, List.set_cons_succ]
      refine wpAnyH_take (i := 1) (v := .int .i64 k) rfl (by kernel_rfl) (by kernel_rfl) (by kernel_rfl) (fun _ _ _ h => h) (Or.inl ⟨by rfl, fun w hSw => by go_simp⟩) h0 ?_
      try simp only [List.getElem_toArray, List.getElem_cons_zero, List.getElem_cons_succ, Act.put, List.setIfInBounds_toArray, List.set_cons_zero, List.set_cons_succ]
      refine wpAnyH_take (i := 2) (v := .pointer (some ⟨gK, k * 4, none⟩)) rfl (by kernel_rfl) (by kernel_rfl) (by kernel_rfl) (fun _ _ _ h => h) (Or.inl ⟨by rfl, fun w hSw => by have c0 := hkc; have c1 := hkcN; go_simp⟩) h0 ?_
      try simp only [List.getElem_toArray, List.getElem_cons_zero, List.getElem_cons_succ, Act.put, List.setIfInBounds_toArray, List.set_cons_zero, List.set_cons_succ]
      refine wpAnyH_take (i := 3) (v := .pointer (some ⟨gK, k * 4, none⟩)) rfl (by kernel_rfl) (by kernel_rfl) (by kernel_rfl) (fun _ _ _ h => h) (Or.inl ⟨by rfl, fun w hSw => by go_simp⟩) h0 ?_
      try simp only [List.getElem_toArray, List.getElem_cons_zero, List.getElem_cons_succ, Act.put, List.setIfInBounds_toArray, List.set_cons_zero, List.set_cons_succ]
      refine wpAnyH_take (i := 4) (v := .int .i64 o) rfl (by kernel_rfl) (by kernel_rfl) (by kernel_rfl) (fun _ _ _ h => h) (Or.inl ⟨by rfl, fun w hSw => by have c0 := Kept.cellOf hSw k0 (by simp); go_simp⟩) h0 ?_
      try simp only [List.getElem_toArray, List.getElem_cons_zero, List.getElem_cons_succ, Act.put, List.setIfInBounds_toArray, List.set_cons_zero, List.set_cons_succ]
      refine wpAnyH_take (i := 5) (v := .int .i64 o) rfl (by kernel_rfl) (by kernel_rfl) (by kernel_rfl) (fun _ _ _ h => h) (Or.inl ⟨by rfl, fun w hSw => by go_simp⟩) h0 ?_
      try simp only [List.getElem_toArray, List.getElem_cons_zero, List.getElem_cons_succ, Act.put, List.setIfInBounds_toArray, List.set_cons_zero, List.set_cons_succ]
      refine wpAnyH_take (i := 6) (v := .bool false) rfl (by kernel_rfl) (by kernel_rfl) (by kernel_rfl) (fun _ _ _ h => h) (Or.inl ⟨by rfl, fun w hSw => by have c0 := qo; go_simp⟩) h0 ?_
      try simp only [List.getElem_toArray, List.getElem_cons_zero, List.getElem_cons_succ, Act.put, List.setIfInBounds_toArray, List.set_cons_zero, List.set_cons_succ]
      refine wpAnyH_take (i := 7) (v := .bool false) rfl (by kernel_rfl) (by kernel_rfl) (by kernel_rfl) (fun _ _ _ h => h) (Or.inl ⟨by rfl, fun w hSw => by go_simp⟩) h0 ?_
      try simp only [List.getElem_toArray, List.getElem_cons_zero, List.getElem_cons_succ, Act.put, List.setIfInBounds_toArray, List.set_cons_zero, List.set_cons_succ]
      refine wpAnyH_take (i := 8) (v := .slice (some ⟨gK, 0, none⟩) c kc) rfl (by kernel_rfl) (by kernel_rfl) (by kernel_rfl) (fun _ _ _ h => h) (Or.inl ⟨by rfl, fun w hSw => by go_simp⟩) h0 ?_
      try simp only [List.getElem_toArray, List.getElem_cons_zero, List.getElem_cons_succ, Act.put, List.setIfInBounds_toArray, List.set_cons_zero, List.set_cons_succ]
      refine wpAnyH_take (i := 9) (v := .int .i64 k) rfl (by kernel_rfl) (by kernel_rfl) (by kernel_rfl) (fun _ _ _ h => h) (Or.inl ⟨by rfl, fun w hSw => by go_simp⟩) h0 ?_
      try simp only [List.getElem_toArray, List.getElem_cons_zero, List.getElem_cons_succ, Act.put, List.setIfInBounds_toArray, List.set_cons_zero, List.set_cons_succ]
      refine wpAnyH_take (i := 10) (v := .pointer (some ⟨gK, k * 4, none⟩)) rfl (by kernel_rfl) (by kernel_rfl) (by kernel_rfl) (fun _ _ _ h => h) (Or.inl ⟨by rfl, fun w hSw => by have c0 := hkc; have c1 := hkcN; go_simp⟩) h0 ?_
      try simp only [List.getElem_toArray, List.getElem_cons_zero, List.getElem_cons_succ, Act.put, List.setIfInBounds_toArray, List.set_cons_zero, List.set_cons_succ]
      refine wpAnyH_take (i := 11) (v := .pointer (some ⟨gK, k * 4 + 1, none⟩)) rfl (by kernel_rfl) (by kernel_rfl) (by kernel_rfl) (fun _ _ _ h => h) (Or.inl ⟨by rfl, fun w hSw => by go_simp⟩) h0 ?_
      try simp only [List.getElem_toArray, List.getElem_cons_zero, List.getElem_cons_succ, Act.put, List.setIfInBounds_toArray, List.set_cons_zero, List.set_cons_succ]
      refine wpAnyH_take (i := 12) (v := .int .i64 m) rfl (by kernel_rfl) (by kernel_rfl) (by kernel_rfl) (fun _ _ _ h => h) (Or.inl ⟨by rfl, fun w hSw => by have c0 := Kept.cellOf hSw k1 (by simp); go_simp⟩) h0 ?_
      try simp only [List.getElem_toArray, List.getElem_cons_zero, List.getElem_cons_succ, Act.put, List.setIfInBounds_toArray, List.set_cons_zero, List.set_cons_succ]
      refine wpAnyH_take (i := 13) (v := .bool false) rfl (by kernel_rfl) (by kernel_rfl) (by kernel_rfl) (fun _ _ _ h => h) (Or.inl ⟨by rfl, fun w hSw => by have c0 := qm; have c1 := qmN; go_simp⟩) h0 ?_
      try simp only [List.getElem_toArray, List.getElem_cons_zero, List.getElem_cons_succ, Act.put, List.setIfInBounds_toArray, List.set_cons_zero, List.set_cons_succ]
      refine wpAnyH_take (i := 14) (v := .bool false) rfl (by kernel_rfl) (by kernel_rfl) (by kernel_rfl) (fun _ _ _ h => h) (Or.inl ⟨by rfl, fun w hSw => by go_simp⟩) h0 ?_
      try simp only [List.getElem_toArray, List.getElem_cons_zero, List.getElem_cons_succ, Act.put, List.setIfInBounds_toArray, List.set_cons_zero, List.set_cons_succ]
      refine wpAnyH_take (i := 15) (v := .bool false) rfl (by kernel_rfl) (by kernel_rfl) (by kernel_rfl) (fun _ _ _ h => h) (Or.inl ⟨by rfl, fun w hSw => by go_simp⟩) h0 ?_
      try simp only [List.getElem_toArray, List.getElem_cons_zero, List.getElem_cons_succ, Act.put, List.setIfInBounds_toArray, List.set_cons_zero, List.set_cons_succ]
      refine wpAnyH_take (i := 16) (v := .int .i64 o) rfl (by kernel_rfl) (by kernel_rfl) (by kernel_rfl) (fun _ _ _ h => h) (Or.inl ⟨by rfl, fun w hSw => by go_simp⟩) h0 ?_
      try simp only [List.getElem_toArray, List.getElem_cons_zero, List.getElem_cons_succ, Act.put, List.setIfInBounds_toArray, List.set_cons_zero, List.set_cons_succ]
      refine wpAnyH_take (i := 17) (v := .slice (some ⟨gK, 0, none⟩) c kc) rfl (by kernel_rfl) (by kernel_rfl) (by kernel_rfl) (fun _ _ _ h => h) (Or.inl ⟨by rfl, fun w hSw => by go_simp⟩) h0 ?_
      try simp only [List.getElem_toArray, List.getElem_cons_zero, List.getElem_cons_succ, Act.put, List.setIfInBounds_toArray, List.set_cons_zero, List.set_cons_succ]
      refine wpAnyH_take (i := 18) (v := .int .i64 k) rfl (by kernel_rfl) (by kernel_rfl) (by kernel_rfl) (fun _ _ _ h => h) (Or.inl ⟨by rfl, fun w hSw => by go_simp⟩) h0 ?_
      try simp only [List.getElem_toArray, List.getElem_cons_zero, List.getElem_cons_succ, Act.put, List.setIfInBounds_toArray, List.set_cons_zero, List.set_cons_succ]
      refine wpAnyH_take (i := 19) (v := .pointer (some ⟨gK, k * 4, none⟩)) rfl (by kernel_rfl) (by kernel_rfl) (by kernel_rfl) (fun _ _ _ h => h) (Or.inl ⟨by rfl, fun w hSw => by have c0 := hkc; have c1 := hkcN; go_simp⟩) h0 ?_
      try simp only [List.getElem_toArray, List.getElem_cons_zero, List.getElem_cons_succ, Act.put, List.setIfInBounds_toArray, List.set_cons_zero, List.set_cons_succ]
      refine wpAnyH_take (i := 20) (v := .pointer (some ⟨gK, k * 4 + 1, none⟩)) rfl (by kernel_rfl) (by kernel_rfl) (by kernel_rfl) (fun _ _ _ h => h) (Or.inl ⟨by rfl, fun w hSw => by go_simp⟩) h0 ?_
      try simp only [List.getElem_toArray, List.getElem_cons_zero, List.getElem_cons_succ, Act.put, List.setIfInBounds_toArray, List.set_cons_zero, List.set_cons_succ]
      refine wpAnyH_take (i := 21) (v := .int .i64 m) rfl (by kernel_rfl) (by kernel_rfl) (by kernel_rfl) (fun _ _ _ h => h) (Or.inl ⟨by rfl, fun w hSw => by have c0 := Kept.cellOf hSw k1 (by simp); go_simp⟩) h0 ?_
      try simp only [List.getElem_toArray, List.getElem_cons_zero, List.getElem_cons_succ, Act.put, List.setIfInBounds_toArray, List.set_cons_zero, List.set_cons_succ]
      refine wpAnyH_take (i := 22) (v := .int .i64 ((o : Int) + (m : Int))) rfl (by kernel_rfl) (by kernel_rfl) (by kernel_rfl) (fun _ _ _ h => h) (Or.inl ⟨by rfl, fun w hSw => by have c0 := wom; go_simp⟩) h0 ?_
      try simp only [List.getElem_toArray, List.getElem_cons_zero, List.getElem_cons_succ, Act.put, List.setIfInBounds_toArray, List.set_cons_zero, List.set_cons_succ]
      refine wpAnyH_take (i := 23) (v := .slice (some ⟨gO, 0, none⟩) T bc) rfl (by kernel_rfl) (by kernel_rfl) (by kernel_rfl) (fun _ _ _ h => h) (Or.inl ⟨by rfl, fun w hSw => by go_simp⟩) h0 ?_
      try simp only [List.getElem_toArray, List.getElem_cons_zero, List.getElem_cons_succ, Act.put, List.setIfInBounds_toArray, List.set_cons_zero, List.set_cons_succ]
      refine wpAnyH_take (i := 24) (v := .int .i64 T) rfl (by kernel_rfl) (by kernel_rfl) (by kernel_rfl) (fun _ _ _ h => h) (Or.inl ⟨by rfl, fun w hSw => by go_simp⟩) h0 ?_
      try simp only [List.getElem_toArray, List.getElem_cons_zero, List.getElem_cons_succ, Act.put, List.setIfInBounds_toArray, List.set_cons_zero, List.set_cons_succ]
      refine wpAnyH_take (i := 25) (v := .bool false) rfl (by kernel_rfl) (by kernel_rfl) (by kernel_rfl) (fun _ _ _ h => h) (Or.inl ⟨by rfl, fun w hSw => by have c0 := qt; have c1 := qtN; go_simp⟩) h0 ?_
      try simp only [List.getElem_toArray, List.getElem_cons_zero, List.getElem_cons_succ, Act.put, List.setIfInBounds_toArray, List.set_cons_zero, List.set_cons_succ]
      refine wpAnyH_take (i := 26) (v := .bool false) rfl (by kernel_rfl) (by kernel_rfl) (by kernel_rfl) (fun _ _ _ h => h) (Or.inl ⟨by rfl, fun w hSw => by go_simp⟩) h0 ?_
      try simp only [List.getElem_toArray, List.getElem_cons_zero, List.getElem_cons_succ, Act.put, List.setIfInBounds_toArray, List.set_cons_zero, List.set_cons_succ]
      refine wpAnyH_take (i := 27) (v := .bool false) rfl (by kernel_rfl) (by kernel_rfl) (by kernel_rfl) (fun _ _ _ h => h) (Or.inl ⟨by rfl, fun w hSw => by go_simp⟩) h0 ?_
      try simp only [List.getElem_toArray, List.getElem_cons_zero, List.getElem_cons_succ, Act.put, List.setIfInBounds_toArray, List.set_cons_zero, List.set_cons_succ]
      refine wpAnyH_take (i := 28) (v := .slice (some ⟨gK, 0, none⟩) c kc) rfl (by kernel_rfl) (by kernel_rfl) (by kernel_rfl) (fun _ _ _ h => h) (Or.inl ⟨by rfl, fun w hSw => by go_simp⟩) h0 ?_
      try simp only [List.getElem_toArray, List.getElem_cons_zero, List.getElem_cons_succ, Act.put, List.setIfInBounds_toArray, List.set_cons_zero, List.set_cons_succ]
      refine wpAnyH_take (i := 29) (v := .int .i64 k) rfl (by kernel_rfl) (by kernel_rfl) (by kernel_rfl) (fun _ _ _ h => h) (Or.inl ⟨by rfl, fun w hSw => by go_simp⟩) h0 ?_
      try simp only [List.getElem_toArray, List.getElem_cons_zero, List.getElem_cons_succ, Act.put, List.setIfInBounds_toArray, List.set_cons_zero, List.set_cons_succ]
      refine wpAnyH_take (i := 30) (v := .pointer (some ⟨gK, k * 4, none⟩)) rfl (by kernel_rfl) (by kernel_rfl) (by kernel_rfl) (fun _ _ _ h => h) (Or.inl ⟨by rfl, fun w hSw => by have c0 := hkc; have c1 := hkcN; go_simp⟩) h0 ?_
      try simp only [List.getElem_toArray, List.getElem_cons_zero, List.getElem_cons_succ, Act.put, List.setIfInBounds_toArray, List.set_cons_zero, List.set_cons_succ]
      refine wpAnyH_take (i := 31) (v := .pointer (some ⟨gK, k * 4 + 3, none⟩)) rfl (by kernel_rfl) (by kernel_rfl) (by kernel_rfl) (fun _ _ _ h => h) (Or.inl ⟨by rfl, fun w hSw => by go_simp⟩) h0 ?_
      try simp only [List.getElem_toArray, List.getElem_cons_zero, List.getElem_cons_succ, Act.put, List.setIfInBounds_toArray, List.set_cons_zero, List.set_cons_succ]
      refine wpAnyH_take (i := 32) (v := .int .i64 u) rfl (by kernel_rfl) (by kernel_rfl) (by kernel_rfl) (fun _ _ _ h => h) (Or.inl ⟨by rfl, fun w hSw => by have c0 := Kept.cellOf hSw k3 (by simp); go_simp⟩) h0 ?_
      try simp only [List.getElem_toArray, List.getElem_cons_zero, List.getElem_cons_succ, Act.put, List.setIfInBounds_toArray, List.set_cons_zero, List.set_cons_succ]
      refine wpAnyH_take (i := 33) (v := .slice (some ⟨gO, 0, none⟩) T bc) rfl (by kernel_rfl) (by kernel_rfl) (by kernel_rfl) (fun _ _ _ h => h) (Or.inl ⟨by rfl, fun w hSw => by go_simp⟩) h0 ?_
      try simp only [List.getElem_toArray, List.getElem_cons_zero, List.getElem_cons_succ, Act.put, List.setIfInBounds_toArray, List.set_cons_zero, List.set_cons_succ]
      refine wpAnyH_take (i := 34) (v := .int .i64 o) rfl (by kernel_rfl) (by kernel_rfl) (by kernel_rfl) (fun _ _ _ h => h) (Or.inl ⟨by rfl, fun w hSw => by go_simp⟩) h0 ?_
      try simp only [List.getElem_toArray, List.getElem_cons_zero, List.getElem_cons_succ, Act.put, List.setIfInBounds_toArray, List.set_cons_zero, List.set_cons_succ]
      refine wpAnyH_take (i := 35) (v := .int .i64 o) rfl (by kernel_rfl) (by kernel_rfl) (by kernel_rfl) (fun _ _ _ h => h) (Or.inl ⟨by rfl, fun w hSw => by go_simp⟩) h0 ?_
      try simp only [List.getElem_toArray, List.getElem_cons_zero, List.getElem_cons_succ, Act.put, List.setIfInBounds_toArray, List.set_cons_zero, List.set_cons_succ]
      refine wpAnyH_take (i := 36) (v := .slice (some ⟨gK, 0, none⟩) c kc) rfl (by kernel_rfl) (by kernel_rfl) (by kernel_rfl) (fun _ _ _ h => h) (Or.inl ⟨by rfl, fun w hSw => by go_simp⟩) h0 ?_
      try simp only [List.getElem_toArray, List.getElem_cons_zero, List.getElem_cons_succ, Act.put, List.setIfInBounds_toArray, List.set_cons_zero, List.set_cons_succ]
      refine wpAnyH_take (i := 37) (v := .int .i64 k) rfl (by kernel_rfl) (by kernel_rfl) (by kernel_rfl) (fun _ _ _ h => h) (Or.inl ⟨by rfl, fun w hSw => by go_simp⟩) h0 ?_
      try simp only [List.getElem_toArray, List.getElem_cons_zero, List.getElem_cons_succ, Act.put, List.setIfInBounds_toArray, List.set_cons_zero, List.set_cons_succ]
      refine wpAnyH_take (i := 38) (v := .pointer (some ⟨gK, k * 4, none⟩)) rfl (by kernel_rfl) (by kernel_rfl) (by kernel_rfl) (fun _ _ _ h => h) (Or.inl ⟨by rfl, fun w hSw => by have c0 := hkc; have c1 := hkcN; go_simp⟩) h0 ?_
      try simp only [List.getElem_toArray, List.getElem_cons_zero, List.getElem_cons_succ, Act.put, List.setIfInBounds_toArray, List.set_cons_zero, List.set_cons_succ]
      refine wpAnyH_take (i := 39) (v := .pointer (some ⟨gK, k * 4 + 1, none⟩)) rfl (by kernel_rfl) (by kernel_rfl) (by kernel_rfl) (fun _ _ _ h => h) (Or.inl ⟨by rfl, fun w hSw => by go_simp⟩) h0 ?_
      try simp only [List.getElem_toArray, List.getElem_cons_zero, List.getElem_cons_succ, Act.put, List.setIfInBounds_toArray, List.set_cons_zero, List.set_cons_succ]
      refine wpAnyH_take (i := 40) (v := .int .i64 m) rfl (by kernel_rfl) (by kernel_rfl) (by kernel_rfl) (fun _ _ _ h => h) (Or.inl ⟨by rfl, fun w hSw => by have c0 := Kept.cellOf hSw k1 (by simp); go_simp⟩) h0 ?_
      try simp only [List.getElem_toArray, List.getElem_cons_zero, List.getElem_cons_succ, Act.put, List.setIfInBounds_toArray, List.set_cons_zero, List.set_cons_succ]
      refine wpAnyH_take (i := 41) (v := .int .i64 ((o : Int) + (m : Int))) rfl (by kernel_rfl) (by kernel_rfl) (by kernel_rfl) (fun _ _ _ h => h) (Or.inl ⟨by rfl, fun w hSw => by have c0 := wom; go_simp⟩) h0 ?_
      try simp only [List.getElem_toArray, List.getElem_cons_zero, List.getElem_cons_succ, Act.put, List.setIfInBounds_toArray, List.set_cons_zero, List.set_cons_succ]
      refine wpAnyH_take (i := 42) (v := .slice (some ⟨gO, o, none⟩) m (bc - o)) rfl (by kernel_rfl) (by kernel_rfl) (by kernel_rfl) (fun _ _ _ h => h) (Or.inl ⟨by rfl, fun w hSw => by have c0 := hcut w; go_simp⟩) h0 ?_
      try simp only [List.getElem_toArray, List.getElem_cons_zero, List.getElem_cons_succ, Act.put, List.setIfInBounds_toArray, List.set_cons_zero, List.set_cons_succ]
      refine wpAnyH_ready (rs := [43]) (by kernel_rfl) (by simp) (AllReadyH.cons (i := 43) rfl (fun K hK => ?_) AllReadyH.nil)
      rw [if_pos (by rfl)]
      go_simp
      refine (HSM.out _ h0).mono ?_
      rintro e v1 ⟨rfl, hq⟩
      refine hK.out _ _ (h0.trans hq (by simp)) (fun h1 => ?_)
      clear hK K hq h0
      try simp only [List.getElem_toArray, List.getElem_cons_zero, List.getElem_cons_succ, Act.put, List.setIfInBounds_toArray, List.set_cons_zero, List.set_cons_succ]
      refine wpAnyH_take (i := 44) (v := .bool false) rfl (by kernel_rfl) (by kernel_rfl) (by kernel_rfl) (fun _ _ _ h => h) (Or.inl ⟨by rfl, fun w hSw => by have c0 := qu; go_simp⟩) h1 ?_
      try simp only [List.getElem_toArray, List.getElem_cons_zero, List.getElem_cons_succ, Act.put, List.setIfInBounds_toArray, List.set_cons_zero, List.set_cons_succ]
      refine wpAnyH_take (i := 45) (v := .bool false) rfl (by kernel_rfl) (by kernel_rfl) (by kernel_rfl) (fun _ _ _ h => h) (Or.inl ⟨by rfl, fun w hSw => by go_simp⟩) h1 ?_
      try simp only [List.getElem_toArray, List.getElem_cons_zero, List.getElem_cons_succ, Act.put, List.setIfInBounds_toArray, List.set_cons_zero, List.set_cons_succ]
      refine wpAnyH_done (by kernel_rfl) ?_ _
      have HK4 := hide h1
      obtain ⟨w4, hw4⟩ : ∃ w4, v1 = w4 := ⟨_, rfl⟩
      rw [hw4] at HK4 ⊢
      clear hw4 HSM h1
      go_upto_region 13 with (fail)
      have HOP4 : Hid (∀ (W : World), Kept [] w4 W → Calls Try.prog 19 #[.slice (some ⟨gO, o, none⟩) m (bc - o), .agg #[.int .i64 o, .int .i64 m, .int .i64 q, .int .i64 u]] W fun e w' => ∃ bx xc, e = .returned (.tuple #[.slice bx q xc, .int .i64 0]) ∧ OwnB w' W.heap.size (.slice bx q xc) (Blk.pc xs s k) ∧ Below W.heap.size W w') := fun W hW => HOP.out W (HK4.out.trans hW (by simp))
      clear HOP
      have HOP := HOP4
      clear HOP4
      replace hrg : w4.rangeAt gK (k * 4) [.int .i64 o, .int .i64 m, .int .i64 q, .int .i64 u] := fun j v hv => HK4.out.cellOf (hrg j v hv) (by simp)
      replace k1 := HK4.out.cellOf k1 (by simp)
      clear k0 k3
      refine wp_region_held_drew (S := fun w' => Kept [] w4 w') (by kernel_rfl) ((Kept.refl [] w4).drew) (fun h0 => ?_)
      generalize World.drew w4 = v0 at h0 ⊢
      refine wpAnyH_take (i := 0) (v := .slice (some ⟨gO, 0, none⟩) T bc) rfl (by kernel_rfl) (by kernel_rfl) (by kernel_rfl) (fun _ _ _ h => h) (Or.inl ⟨by rfl, fun w hSw => by go_simp⟩) h0 ?_
      try simp only [List.getElem_toArray, List.getElem_cons_zero, List.getElem_cons_succ, Act.put, List.setIfInBounds_toArray, List.set_cons_zero, List.set_cons_succ]
      refine wpAnyH_take (i := 1) (v := .int .i64 o) rfl (by kernel_rfl) (by kernel_rfl) (by kernel_rfl) (fun _ _ _ h => h) (Or.inl ⟨by rfl, fun w hSw => by go_simp⟩) h0 ?_
      try simp only [List.getElem_toArray, List.getElem_cons_zero, List.getElem_cons_succ, Act.put, List.setIfInBounds_toArray, List.set_cons_zero, List.set_cons_succ]
      refine wpAnyH_take (i := 2) (v := .int .i64 o) rfl (by kernel_rfl) (by kernel_rfl) (by kernel_rfl) (fun _ _ _ h => h) (Or.inl ⟨by rfl, fun w hSw => by go_simp⟩) h0 ?_
      try simp only [List.getElem_toArray, List.getElem_cons_zero, List.getElem_cons_succ, Act.put, List.setIfInBounds_toArray, List.set_cons_zero, List.set_cons_succ]
      refine wpAnyH_take (i := 3) (v := .slice (some ⟨gK, 0, none⟩) c kc) rfl (by kernel_rfl) (by kernel_rfl) (by kernel_rfl) (fun _ _ _ h => h) (Or.inl ⟨by rfl, fun w hSw => by go_simp⟩) h0 ?_
      try simp only [List.getElem_toArray, List.getElem_cons_zero, List.getElem_cons_succ, Act.put, List.setIfInBounds_toArray, List.set_cons_zero, List.set_cons_succ]
      refine wpAnyH_take (i := 4) (v := .int .i64 k) rfl (by kernel_rfl) (by kernel_rfl) (by kernel_rfl) (fun _ _ _ h => h) (Or.inl ⟨by rfl, fun w hSw => by go_simp⟩) h0 ?_
      try simp only [List.getElem_toArray, List.getElem_cons_zero, List.getElem_cons_succ, Act.put, List.setIfInBounds_toArray, List.set_cons_zero, List.set_cons_succ]
      refine wpAnyH_take (i := 5) (v := .pointer (some ⟨gK, k * 4, none⟩)) rfl (by kernel_rfl) (by kernel_rfl) (by kernel_rfl) (fun _ _ _ h => h) (Or.inl ⟨by rfl, fun w hSw => by have c0 := hkc; have c1 := hkcN; go_simp⟩) h0 ?_
      try simp only [List.getElem_toArray, List.getElem_cons_zero, List.getElem_cons_succ, Act.put, List.setIfInBounds_toArray, List.set_cons_zero, List.set_cons_succ]
      refine wpAnyH_take (i := 6) (v := .pointer (some ⟨gK, k * 4 + 1, none⟩)) rfl (by kernel_rfl) (by kernel_rfl) (by kernel_rfl) (fun _ _ _ h => h) (Or.inl ⟨by rfl, fun w hSw => by go_simp⟩) h0 ?_
      try simp only [List.getElem_toArray, List.getElem_cons_zero, List.getElem_cons_succ, Act.put, List.setIfInBounds_toArray, List.set_cons_zero, List.set_cons_succ]
      refine wpAnyH_take (i := 7) (v := .int .i64 m) rfl (by kernel_rfl) (by kernel_rfl) (by kernel_rfl) (fun _ _ _ h => h) (Or.inl ⟨by rfl, fun w hSw => by have c0 := Kept.cellOf hSw k1 (by simp); go_simp⟩) h0 ?_
      try simp only [List.getElem_toArray, List.getElem_cons_zero, List.getElem_cons_succ, Act.put, List.setIfInBounds_toArray, List.set_cons_zero, List.set_cons_succ]
      refine wpAnyH_take (i := 8) (v := .int .i64 ((o : Int) + (m : Int))) rfl (by kernel_rfl) (by kernel_rfl) (by kernel_rfl) (fun _ _ _ h => h) (Or.inl ⟨by rfl, fun w hSw => by have c0 := wom; go_simp⟩) h0 ?_
      try simp only [List.getElem_toArray, List.getElem_cons_zero, List.getElem_cons_succ, Act.put, List.setIfInBounds_toArray, List.set_cons_zero, List.set_cons_succ]
      refine wpAnyH_take (i := 9) (v := .slice (some ⟨gO, o, none⟩) m (bc - o)) rfl (by kernel_rfl) (by kernel_rfl) (by kernel_rfl) (fun _ _ _ h => h) (Or.inl ⟨by rfl, fun w hSw => by have c0 := hcut w; go_simp⟩) h0 ?_
      try simp only [List.getElem_toArray, List.getElem_cons_zero, List.getElem_cons_succ, Act.put, List.setIfInBounds_toArray, List.set_cons_zero, List.set_cons_succ]
      refine wpAnyH_take (i := 10) (v := .slice (some ⟨gK, 0, none⟩) c kc) rfl (by kernel_rfl) (by kernel_rfl) (by kernel_rfl) (fun _ _ _ h => h) (Or.inl ⟨by rfl, fun w hSw => by go_simp⟩) h0 ?_
      try simp only [List.getElem_toArray, List.getElem_cons_zero, List.getElem_cons_succ, Act.put, List.setIfInBounds_toArray, List.set_cons_zero, List.set_cons_succ]
      refine wpAnyH_take (i := 11) (v := .int .i64 k) rfl (by kernel_rfl) (by kernel_rfl) (by kernel_rfl) (fun _ _ _ h => h) (Or.inl ⟨by rfl, fun w hSw => by go_simp⟩) h0 ?_
      try simp only [List.getElem_toArray, List.getElem_cons_zero, List.getElem_cons_succ, Act.put, List.setIfInBounds_toArray, List.set_cons_zero, List.set_cons_succ]
      refine wpAnyH_take (i := 12) (v := .pointer (some ⟨gK, k * 4, none⟩)) rfl (by kernel_rfl) (by kernel_rfl) (by kernel_rfl) (fun _ _ _ h => h) (Or.inl ⟨by rfl, fun w hSw => by have c0 := hkc; have c1 := hkcN; go_simp⟩) h0 ?_
      try simp only [List.getElem_toArray, List.getElem_cons_zero, List.getElem_cons_succ, Act.put, List.setIfInBounds_toArray, List.set_cons_zero, List.set_cons_succ]
      refine wpAnyH_take (i := 13) (v := .agg #[.int .i64 o, .int .i64 m, .int .i64 q, .int .i64 u]) rfl (by kernel_rfl) (by kernel_rfl) (by kernel_rfl) (fun _ _ _ h => h) (yieldsIf_load_mid (by rfl) _ _ rfl gK (k * 4) rfl _ _ (fun w h j v hv => Kept.cellOf h (hrg j v hv) (by simp)) Try.underlying45 rfl Try.infoBlk4) h0 ?_
      try simp only [List.getElem_toArray, List.getElem_cons_zero, List.getElem_cons_succ, Act.put, List.setIfInBounds_toArray, List.set_cons_zero, List.set_cons_succ]
      refine wpAnyH_ready (rs := [14]) (by kernel_rfl) (by simp) (AllReadyH.cons (i := 14) rfl (fun K hK => ?_) AllReadyH.nil)
      rw [if_pos (by rfl)]
      go_simp
      refine (HOP.out _ h0).mono ?_
      rintro e w5 ⟨bx, xc, rfl, ho5, hb5⟩
      refine hK.out _ _ (h0.trans (Kept.of_below hb5) (by simp)) (fun h5 => ?_)
      have HO5 := hide ho5
      have HB5 := hide hb5
      clear hK K ho5 hb5
      try simp only [List.getElem_toArray, List.getElem_cons_zero, List.getElem_cons_succ, Act.put, List.setIfInBounds_toArray, List.set_cons_zero, List.set_cons_succ]
      refine wpAnyH_take (i := 15) (v := .tuple #[.slice bx q xc, .int .i64 0]) rfl (by kernel_rfl) (by kernel_rfl) (by kernel_rfl) (fun _ _ _ h => h) (Or.inl ⟨by rfl, fun w hSw => by go_simp⟩) h5 ?_
      try simp only [List.getElem_toArray, List.getElem_cons_zero, List.getElem_cons_succ, Act.put, List.setIfInBounds_toArray, List.set_cons_zero, List.set_cons_succ]
      refine wpAnyH_take (i := 16) (v := .slice bx q xc) rfl (by kernel_rfl) (by kernel_rfl) (by kernel_rfl) (fun _ _ _ h => h) (Or.inl ⟨by rfl, fun w hSw => by go_simp⟩) h5 ?_
      try simp only [List.getElem_toArray, List.getElem_cons_zero, List.getElem_cons_succ, Act.put, List.setIfInBounds_toArray, List.set_cons_zero, List.set_cons_succ]
      refine wpAnyH_take (i := 17) (v := .int .i64 0) rfl (by kernel_rfl) (by kernel_rfl) (by kernel_rfl) (fun _ _ _ h => h) (Or.inl ⟨by rfl, fun w hSw => by go_simp⟩) h5 ?_
      try simp only [List.getElem_toArray, List.getElem_cons_zero, List.getElem_cons_succ, Act.put, List.setIfInBounds_toArray, List.set_cons_zero, List.set_cons_succ]
      refine wpAnyH_take (i := 18) (v := .slice bx q xc) rfl (by kernel_rfl) (by kernel_rfl) (by kernel_rfl) (fun _ _ _ h => h) (Or.inl ⟨by rfl, fun w hSw => by go_simp⟩) h5 ?_
      try simp only [List.getElem_toArray, List.getElem_cons_zero, List.getElem_cons_succ, Act.put, List.setIfInBounds_toArray, List.set_cons_zero, List.set_cons_succ]
      refine wpAnyH_take (i := 19) (v := .int .i64 0) rfl (by kernel_rfl) (by kernel_rfl) (by kernel_rfl) (fun _ _ _ h => h) (Or.inl ⟨by rfl, fun w hSw => by go_simp⟩) h5 ?_
      try simp only [List.getElem_toArray, List.getElem_cons_zero, List.getElem_cons_succ, Act.put, List.setIfInBounds_toArray, List.set_cons_zero, List.set_cons_succ]
      refine wpAnyH_done (by kernel_rfl) ?_ _
      have HK5 : Hid (Kept [] wr w5) := HK4.out.trans h5 (by simp)
      have k1' := h5.cellOf k1 (by simp)
      have hcut' := hcut
      clear hcut' hcut h5 HK4 k1 hrg HOP
      obtain ⟨ax, cx, hax, hqx, hsx, hbx, hcx, hnx⟩ := HO5.out.shape
      rw [HPQ.out] at hax
      cases hax
      obtain ⟨v6, w6, hrun, hown, hk6⟩ := run_appSl w5 w3.heap.size u8 (xs.take (k * s)) (Blk.pc xs s k) (HOA.out.kept HK5.out (by simp)) bx q xc HPQ.out hsx hnx (by have := HX.out; simp; omega) (Nat.le_trans HBW.out.size HK5.out.size)
      rw [← HTK.out] at hown
      have HO6 := hide hown
      have hoa := HOA.out.far
      have HB6 : Hid (Below w3.heap.size w3 w6) := by
        refine HBW.out.trans ?_
        refine (Kept.below (l := u8.ownBlock.toList) ((HK5.out.mono (by simp)).trans hk6 (fun i hi _ => hi)) HBW.out.size ?_)
        intro i hi'
        exact (hoa i (by simpa using hi')).1
      have hk16 : w6.cell? ⟨gK, k * 4 + 1, none⟩ = some (.int .i64 m) := by
        refine hk6.cellOf k1' ?_
        intro hm
        have h2 := (hoa gK (by simpa using hm)).1
        have h3 : gK < w3.heap.size := HGK.out
        omega
      clear hown hk6 hsx hbx hcx hnx hoa k1'
      go_wp2_with (refine wpList_app_run rfl (.tmp 122) (.tmp 123) 23 rfl u8 (.slice bx q xc) rfl rfl v6 w6 hrun ?_)
      go_roundw
      case rel => exact ⟨k + 1, by omega, by go_num, by rw [HNX.out]; go_num, HO6, HB6⟩
      case measure => simp [intOf]; omega
    · as_aux_lemma =>
      obtain rfl : k = c := by omega
      have htk : xs.take (k * s) = xs := by
        apply List.take_of_length_le
        have h7 : ¬ k * s < n := fun h => absurd ((HCL.out k).2 h) (by omega)
        have := HX.out
        omega
      rw [htk] at HOA
      obtain ⟨av, cv, hav, _, hsv, _, _, _⟩ := HOA.out.shape
      rw [HX.out] at hav
      subst hav
      have HBY : Hid (∀ W, Kept [] wr W → Calls Try.prog 15 #[.slice av n cv, .slice ao n cap] W fun e w' => e = .returned (.bool true) ∧ Kept [] W w') := fun W hW => bytes_yes av ao n cv cap xs W HX.out (by omega) (hsv.kept hW (by simp)) ((HS.out.kept ((Kept.of_below HB3.out).trans (Kept.of_below HBW.out) (by simp)) (by simp)).kept hW (by simp))
      have HKN := hide known_ok
      have qo : ((T : Int) == (T : Int)) = true := by simp
      have HB3W : Hid (Kept [] w wr) := (Kept.of_below HB3.out).trans (Kept.of_below HBW.out) (by simp)
      have e1 := HT.out
      rw [e1]
      clear e1 htk hsv HOA HBW HCL
      go_wp2_with (first
        | (go_at_call 15; refine (HBY.out _ (Kept.refl _ _)).mono ?_; rintro e w7 ⟨rfl, hk7⟩; have HK7 := hide hk7; clear hk7 HBY)
        | (go_at_call 17; refine (HKN.out _).mono ?_; rintro e w8 ⟨rfl, hk8⟩; have HK8 := hide hk8; clear hk8 HKN))
      go_ret
      exact ⟨rfl, ((HB3W.out.trans HK7.out (by simp)).trans HK8.out (by simp)).below (Nat.le_refl _) (by simp)⟩

theorem back_walk (ao : Option Addr) (n cap : Nat) (s : Int) (xs : List UInt8) (w : World) (hi : InB w ao n cap xs) (hw : (Lit.int .i64 s).wf = true) :
    Calls Try.prog 7 #[.slice ao n cap, .int .i64 s] w fun e w' => e = .returned (.bool true) ∧ Below w.heap.size w w' := by
  by_cases h : n ≤ 65536 ∧ 16 ≤ s ∧ s ≤ 4096
  · obtain ⟨t, rfl⟩ : ∃ t : Nat, s = t := ⟨s.toNat, by omega⟩
    exact back_yes ao n cap t xs w hi h.1 (by omega) (by omega)
  · exact back_no ao n cap s w h

end Go.Proofs.Ytieklkbclkokeaa
