/-
  The walk: freightlaw3.RollAlong.
-/
import Derived.Test.YtjfekdcghgpchabEn2
namespace Go.Proofs.Ytjfekdcghgpchab
open Go.RowKit
set_option linter.unusedVariables false
set_option linter.unusedSimpArgs false

theorem Try.notNil2 (f : Fn) (a c : Array Value) (W : World) : (binOp .eql 27 (.func f a c) .nilFunc).run Try.prog W = .ok (.bool false) W := by kernel_rfl
theorem Try.zeroInts (W : World) : (zeroValue 29).run Try.prog W = .ok (.slice none 0 0) W := by kernel_rfl
theorem Try.zeroPtr (W : World) : (zeroValue 23).run Try.prog W = .ok (.pointer none) W := by kernel_rfl

theorem wat_alike {xs : List UInt8} {size i : Nat} (hi : i + size ≤ xs.length) (h : ∀ j, j < size → xs.getD j 0 = xs.getD (i + j) 0) : wat xs size i = wat xs size 0 := by
  apply List.ext_getElem
  · rw [wat_length _ _ _ hi, wat_length _ _ _ (by omega)]
  · intro j h1 h2
    have hj : j < size := by rw [wat_length _ _ _ hi] at h1; exact h1
    have e := h j hj
    simp only [wat, List.getElem_take, List.getElem_drop]
    simp only [List.getD_eq_getElem?_getD, List.getElem?_eq_getElem (show j < xs.length by omega), List.getElem?_eq_getElem (show i + j < xs.length by omega), Option.getD_some] at e
    simp only [Nat.zero_add]
    exact e.symm

/-- All that the loops read. -/
structure Lo (w : World) (Su Sz Db q b off cap size cs : Nat) (xs : List UInt8) : Prop where
  su : w.cell? ⟨Su, 0, none⟩ = some (.slice (some ⟨q, 0, none⟩) (xs.length - size + 1) cs)
  s : w.cell? ⟨Sz, 0, none⟩ = some (.int .i64 size)
  d : w.cell? ⟨Db, 0, none⟩ = some (.slice (some ⟨b, off, none⟩) xs.length cap)
  sl : Sl w (some ⟨b, off, none⟩) xs
  row : ∀ i, i < xs.length - size + 1 → w.cell? ⟨q, i, none⟩ = some (.int .i64 ((Rol.sum (wat xs size i) : Nat) : Int))

theorem Lo.drewN {w : World} {Su Sz Db q b off cap size cs : Nat} {xs : List UInt8} (h : Lo w Su Sz Db q b off cap size cs xs) (n : Nat) : Lo (w.drewN n) Su Sz Db q b off cap size cs xs := ⟨h.su, h.s, h.d, h.sl.drewN n, h.row⟩

set_option maxHeartbeats 4000000 in
set_option maxRecDepth 100000 in
theorem along_good (ao : Option Addr) (n cap size : Nat) (xs : List UInt8) (w : World) (hi : InB w ao n cap xs) (h1 : 1 ≤ size) (h2 : size ≤ n) (hbig : n ≤ 20000) (hb4 : size ≤ 4096) :
    Calls Try.prog 3 #[.slice ao n cap, .int .i64 size] w fun e w' => e = .returned (.bool true) ∧ Kept [] w w' := by
  have hnf := Try.notNil2
  have hz1 := Try.zeroInts
  have hz2 := Try.zeroPtr
  obtain ⟨b, off, hao, hb0⟩ := hi.sl 0 (by have := hi.len; omega)
  subst hao
  have HI := hide hi
  have hbw : b < w.heap.size := World.block_lt_of_cell? _ _ hb0
  have hcl := hi.le
  have hcm := hi.max
  have q0 : Var1 ((w.alloc (.cells #[.slice (some ⟨b, off, none⟩) n cap] 22)).alloc (.cells #[.int .i64 size] 3)) w.heap.size (.slice (some ⟨b, off, none⟩) n cap) 22 := (Var1.new w _ _).kept ((Kept.refl [] _).alloc _) (by simp)
  have q1 : Var1 ((w.alloc (.cells #[.slice (some ⟨b, off, none⟩) n cap] 22)).alloc (.cells #[.int .i64 size] 3)) (w.heap.size + 1) (.int .i64 size) 3 := by simpa using Var1.new (w.alloc (.cells #[.slice (some ⟨b, off, none⟩) n cap] 22)) (.int .i64 size) 3
  have hk0 : Kept [] w ((w.alloc (.cells #[.slice (some ⟨b, off, none⟩) n cap] 22)).alloc (.cells #[.int .i64 size] 3)) := ((Kept.refl [] w).alloc _).alloc _
  have hcut : ∀ W, (Instr.slice 22 (.slice (some ⟨b, off, none⟩) n cap) none (some (.int .i64 size)) none).run Try.prog W = .ok (.slice (some ⟨b, off, none⟩) size cap) W := fun W => Try.cutTo W _ _ _ _ (by omega)
  have hw0 : xs.take size = wat xs size 0 := by simp [wat]
  have HW0 := hide hw0
  clear hi hb0 hw0
  go_enter Try.func3, Try.ntmps3
  go_upto_region 3 with (fail)
  generalize World.alloc (World.alloc w _) _ = w2 at q0 q1 hk0 ⊢
  obtain ⟨Db, hDb⟩ : ∃ Db, Db = w.heap.size := ⟨_, rfl⟩
  obtain ⟨Sz, hSz⟩ : ∃ Sz, Sz = w.heap.size + 1 := ⟨_, rfl⟩
  rw [← hSz] at q1 ⊢
  rw [← hDb] at q0 ⊢
  have hord : w.heap.size ≤ Db ∧ Db < Sz := by omega
  have c1 := q0.cell
  have c2 := q1.cell
  have hZl := q1.lt
  have HQ0 := hide q0
  have HQ1 := hide q1
  have HK0 := hide hk0
  clear hDb hSz q0 q1 hk0
  go_wp2_with (fail)
  refine (begun_ok _ size cap (xs.take size) _ (by have := HI.out.len; simp; omega) h1 hb4 ((HI.out.sl.kept HK0.out (by simp)).take size)).mono ?_
  rintro e w3 ⟨p, g, rfl, hro3, hp3, hg3, hk3⟩
  rw [HW0.out] at hro3
  have HRO3 := hide hro3
  have hpl := hro3.ltp
  have hgl := hro3.ltg
  have HK3 := hide hk3
  have HPG := hide (And.intro hpl hgl)
  have HQ3 := hide (HQ0.out.kept hk3 (by simp))
  have HZ3 := hide (HQ1.out.kept hk3 (by simp))
  clear hro3 hk3 c1 c2
  have hka : Kept [] w3 ((w3.alloc (.cells #[.pointer (some ⟨p, 0, none⟩)] 23)).alloc (.cells #[.bool true] 4)) := ((Kept.refl [] w3).alloc _).alloc _
  have r0 : Var1 ((w3.alloc (.cells #[.pointer (some ⟨p, 0, none⟩)] 23)).alloc (.cells #[.bool true] 4)) w3.heap.size (.pointer (some ⟨p, 0, none⟩)) 23 := (Var1.new w3 _ _).kept ((Kept.refl [] _).alloc _) (by simp)
  have r1 : Var1 ((w3.alloc (.cells #[.pointer (some ⟨p, 0, none⟩)] 23)).alloc (.cells #[.bool true] 4)) (w3.heap.size + 1) (.bool true) 4 := by simpa using Var1.new (w3.alloc (.cells #[.pointer (some ⟨p, 0, none⟩)] 23)) (.bool true) 4
  have c1 := (HQ3.out.kept hka (by simp)).cell
  have c2 := (HZ3.out.kept hka (by simp)).cell
  have HKA := hide hka
  have HR0 := hide r0
  have HR1 := hide r1
  have HQ4 := hide (HQ3.out.kept hka (by simp))
  have HZ4 := hide (HZ3.out.kept hka (by simp))
  have hsz4 : ((w3.alloc (.cells #[.pointer (some ⟨p, 0, none⟩)] 23)).alloc (.cells #[.bool true] 4)).heap.size = w3.heap.size + 1 + 1 := by simp
  clear hka r0 r1
  go_wp2_with (fail)
  refine (windows_ok (some ⟨b, off, none⟩) n cap size xs _ HI.out.len (by omega) (((HI.out.sl.kept HK0.out (by simp)).kept HK3.out (by simp)).kept HKA.out (by simp)) h1 h2).mono ?_
  rintro e w5 ⟨Kb, Sb, gd, cap', rfl, hwc, hs1, hs2, hs3, hk5⟩
  rw [hsz4] at hs1 hs2 hs3
  have HQ5 := hide (HQ4.out.kept hk5 (by simp))
  have HZ5 := hide (HZ4.out.kept hk5 (by simp))
  have HR5 := hide (HR0.out.kept hk5 (by simp))
  have HO5 := hide (HR1.out.kept hk5 (by simp))
  have HRO5 := hide ((HRO3.out.kept HKA.out (by simp) (by simp)).kept hk5 (by simp) (by simp))
  have HK5 := hide (((HK0.out.trans HK3.out (by simp)).trans HKA.out (by simp)).trans hk5 (by simp))
  have HWC5 := hide hwc
  have hw3s := HK3.out.size
  have hDl2 := HQ0.out.lt
  have hZl2 := HQ1.out.lt
  clear hwc hk5 HQ4 HZ4 HR0 HR1 HRO3 HKA HK3 HK0 HQ3 HZ3 HQ0 HQ1 c1 c2 hsz4 hpl hgl
  obtain ⟨Rb, hRb⟩ : ∃ Rb, Rb = w3.heap.size := ⟨_, rfl⟩
  obtain ⟨Ok, hOk⟩ : ∃ Ok, Ok = w3.heap.size + 1 := ⟨_, rfl⟩
  have hpl : p < Rb := by rw [hRb]; exact HPG.out.1
  have hgl : g < Rb := by rw [hRb]; exact HPG.out.2
  rw [← hOk] at HO5 hs1 hs2 hs3 ⊢
  rw [← hRb] at HR5 ⊢
  have hor : Sz < Rb ∧ Rb < Ok ∧ Sz < p ∧ Sz < g := by omega
  clear hRb hOk hw3s hDl2 hZl2
  have c1 := HO5.out.cell
  have c2 := HR5.out.cell
  have hka : Kept [] w5 (w5.alloc (.cells #[.slice none 0 0] 29)) := (Kept.refl [] w5).alloc _
  have hOl := HO5.out.lt
  have hl5 : Kb < w5.heap.size ∧ Sb < w5.heap.size ∧ gd < w5.heap.size := ⟨World.block_lt_of_cell? _ _ HWC5.out.k, World.block_lt_of_cell? _ _ HWC5.out.s, World.block_lt_of_cell? _ _ (HWC5.out.d 0 (by have := HI.out.len; omega))⟩
  have HAF : Hid (Af (w5.alloc (.cells #[.slice none 0 0] 29)) Rb Sz Db p b off cap size xs) := by
    have hl := HI.out.len
    exact ⟨(HR5.out.kept hka (by simp)).cell, (HZ5.out.kept hka (by simp)).cell, by rw [hl]; exact (HQ5.out.kept hka (by simp)).cell, (HI.out.sl.kept HK5.out (by simp)).kept hka (by simp), h1, by omega, by omega⟩
  have hpw := HRO5.out.ltp
  have hgw := HRO5.out.ltg
  have HIT := hide (it5_ok Ok w5.heap.size Rb Sz Db p g b off cap size Kb Sb gd cap' xs _ (HWC5.out.kept hka (by simp) (by simp) (by simp)) HAF.out (HO5.out.kept hka (by simp)) (Var1.new w5 _ _) (HRO5.out.kept hka (by simp) (by simp)) ⟨by omega, by omega, by omega, by omega, by omega, by omega, by omega⟩ ⟨by omega, by omega, by omega, by omega, by omega, by omega⟩ ⟨by omega, by omega, by omega, by omega, by omega, by omega, by omega, by omega⟩ (by simp; omega) (by simp; omega) (by simp; omega))
  have HKA := hide hka
  clear hka
  go_wp2_with (fail)
  refine HIT.out.mono ?_
  rintro e w7 ⟨rfl, v, j1, j2, j3, j4⟩
  obtain ⟨ao', cs, rfl⟩ := own_shape j3
  have hlx := HI.out.len
  have hshape : ∃ q, ao' = some ⟨q, 0, none⟩ := by
    rcases j3.2 with ⟨hv, hz⟩ | ⟨q, c', cur, hv, _⟩
    · omega
    · cases hv; exact ⟨q, rfl⟩
  obtain ⟨q, rfl⟩ := hshape
  have hrow : ∀ i, i < xs.length - size + 1 → w7.cell? ⟨q, i, none⟩ = some (.int .i64 ((Rol.sum (wat xs size i) : Nat) : Int)) := fun i hi => by
    rw [j3.cellAt i (by omega)]
    simp [ints, hi]
  have hk7 : Kept [] w w7 := (HK5.out.trans HKA.out (by simp)).trans j4 (by simp; omega)
  have HLO : Hid (Lo w7 w5.heap.size Sz Db q b off cap size cs xs) := by
    have hA := HAF.out.kept j4 (by simp; omega) (by simp; omega) (by simp; omega) (by simp; omega)
    exact ⟨j2.cell, hA.s, hA.d, hA.sl, hrow⟩
  have HK7 := hide hk7
  have c3 := j1.cell
  have d1 := HLO.out.su
  have d2 := HLO.out.s
  have d3 := HLO.out.d
  obtain ⟨nn, hnn⟩ : ∃ nn, nn = n - size + 1 := ⟨_, rfl⟩
  have HNN := hide hnn
  have hnc : ((n : Int) - (size : Int) + 1) = (nn : Int) := by omega
  have HLX := hide hlx
  rw [hlx] at d1 d3
  rw [← hnn] at d1
  generalize w5.heap.size = Su at HLO d1 ⊢
  clear j1 j2 j3 j4 hrow hk7 HIT HAF HKA HRO5 HO5 HR5 HQ5 HZ5 HK5 HWC5 c1 c2 hlx hnn hl5 hOl hpw hgw
  go_wp2_with (fail)
  have hd1 : nn ≤ 20000 := by have := HNN.out; omega
  clear c3 HW0 HPG hcut hz1 hz2 hnf
  go_loopw [9] (fun x wr => ∃ i : Nat, 1 ≤ i ∧ i ≤ nn ∧ x = .int .i64 i ∧ ∃ j, wr = w7.drewN j) (fun x wr => nn - (intOf x).toNat)
  case atStart => exact ⟨1, by omega, by have := HNN.out; omega, rfl, 0, rfl⟩
  case round =>
    obtain ⟨i, hi1, hi2, rfl, j, hwr⟩ := hrel
    subst hwr
    have hpr : (i : Int) * (size : Int) ≤ 81920000 := by
      have h3 : (i : Int) * (size : Int) ≤ 20000 * (size : Int) := Int.mul_le_mul_of_nonneg_right (by omega) (by omega)
      omega
    have hpr0 : 0 ≤ (i : Int) * (size : Int) := Int.mul_nonneg (by omega) (by omega)
    by_cases hin : i < nn
    · by_cases hpp : (i : Int) * (size : Int) < 300000
      · go_wp2_with (fail)
        go_loopw [10, 11] (fun al kk wr' => ∃ (k : Nat) (a : Bool), k ≤ size ∧ kk = .int .i64 k ∧ al = .bool a ∧ Hid (a = true → ∀ t, t < k → xs.getD t 0 = xs.getD (i + t) 0) ∧ ∃ j, wr' = w7.drewN j) (fun al kk wr' => size - (intOf kk).toNat)
        case atStart => exact ⟨0, true, by omega, rfl, rfl, fun _ t ht => by omega, j, rfl⟩
        case round =>
          obtain ⟨k, a, hk, rfl, rfl, HAL, j2, hwr2⟩ := hrel
          subst hwr2
          cases a with
          | true =>
            by_cases hks : k < size
            · have hxl := HLX.out
              have hnl := HNN.out
              have e1 : w7.cell? ⟨b, off + k, none⟩ = some (.int .u8 (xs.getD k 0).toNat) := by
                obtain ⟨b', off', e', h'⟩ := HLO.out.sl k (by omega)
                cases e'
                exact h'
              obtain ⟨m, hm⟩ : ∃ m, m = i + k := ⟨_, rfl⟩
              have e2 : w7.cell? ⟨b, off + m, none⟩ = some (.int .u8 (xs.getD m 0).toNat) := by
                obtain ⟨b', off', e', h'⟩ := HLO.out.sl m (by omega)
                cases e'
                exact h'
              have a3 : IntKind.i64.wrap ((i : Int) + (k : Int)) = (m : Int) := by rw [hm]; simp [IntKind.wrap, IntKind.bits, IntKind.signed]; omega
              have hmN : m < n := by omega
              have hkN : k < n := by omega
              have hb1 : (xs.getD k 0).toNat < 256 := UInt8.toNat_lt _
              have hb2 : (xs.getD m 0).toNat < 256 := UInt8.toNat_lt _
              by_cases hq : xs.getD k 0 = xs.getD m 0
              · have g1 : (((xs.getD k 0).toNat : Int) == ((xs.getD m 0).toNat : Int)) = true := by rw [hq]; simp
                have HAL2 : Hid (true = true → ∀ t, t < k + 1 → xs.getD t 0 = xs.getD (i + t) 0) := fun _ t ht => by
                  by_cases h : t < k
                  · exact HAL.out rfl t h
                  · obtain rfl : t = k := by omega
                    rw [hq, hm]
                generalize (xs.getD k 0).toNat = x at e1 g1 hb1
                generalize (xs.getD m 0).toNat = y at e2 g1 hb2
                clear hq hm hxl hnl
                go_wp2
                go_quiet (fail)
                go_wp2
                go_roundw
                case rel => exact ⟨k + 1, true, by omega, by go_num, rfl, (fun _ => HAL2.out trivial), _, rfl⟩
                case measure => simp [intOf]; omega
              · have g1 : (((xs.getD k 0).toNat : Int) == ((xs.getD m 0).toNat : Int)) = false := by
                  simp only [beq_eq_false_iff_ne, ne_eq]
                  intro h
                  exact hq (UInt8.toNat_inj.1 (by omega))
                generalize (xs.getD k 0).toNat = x at e1 g1 hb1
                generalize (xs.getD m 0).toNat = y at e2 g1 hb2
                clear hq hm hxl hnl
                go_wp2
                go_quiet (fail)
                go_wp2
                go_roundw
                case rel => exact ⟨k + 1, false, by omega, by go_num, rfl, (fun h => by cases h), _, rfl⟩
                case measure => simp [intOf]; omega
            · obtain rfl : k = size := by omega
              have hxl := HLX.out
              have hnl := HNN.out
              have hsame : Rol.sum (wat xs k i) = Rol.sum (wat xs k 0) := by rw [wat_alike (by omega) (HAL.out rfl)]
              have e1 := HLO.out.row i (by omega)
              have e2 := HLO.out.row 0 (by omega)
              rw [hsame] at e1
              generalize Rol.sum (wat xs k 0) = sm at e1 e2
              have g1 : ((sm : Int) != (sm : Int)) = false := by simp
              clear hsame hxl hnl
              have hnn0 : 0 < nn := by omega
              go_wp2
              go_quiet (fail)
              go_wp2
              go_roundw
              case rel => exact ⟨i + 1, by omega, by omega, by go_num, _, rfl⟩
              case measure => simp [intOf]; omega
          | false =>
            clear HAL
            by_cases hks : k < size
            · go_wp2
              go_quiet (fail)
              go_wp2
              go_roundw
              case rel => exact ⟨i + 1, by omega, by omega, by go_num, _, rfl⟩
              case measure => simp [intOf]; omega
            · go_wp2
              go_quiet (fail)
              go_wp2
              go_roundw
              case rel => exact ⟨i + 1, by omega, by omega, by go_num, _, rfl⟩
              case measure => simp [intOf]; omega
      · go_wp2_with (go_at_call 10; refine (known_any _).mono ?_; rintro e wk ⟨rfl, hkk⟩)
        go_ret
        exact ⟨rfl, (HK7.out.drewN j).trans hkk (by simp)⟩
    · go_wp2_with (go_at_call 10; refine (known_any _).mono ?_; rintro e wk ⟨rfl, hkk⟩)
      go_ret
      exact ⟨rfl, (HK7.out.drewN j).trans hkk (by simp)⟩

set_option maxHeartbeats 2000000 in
set_option maxRecDepth 100000 in
theorem along_walk (ao : Option Addr) (n cap : Nat) (size : Int) (xs : List UInt8) (w : World) (hi : InB w ao n cap xs) (w1 : (Lit.int .i64 size).wf = true) :
    Calls Try.prog 3 #[.slice ao n cap, .int .i64 size] w fun e w' => e = .returned (.bool true) ∧ Below w.heap.size w w' := by
  have HK2 : Hid (Kept [] w ((w.alloc (.cells #[.slice ao n cap] 22)).alloc (.cells #[.int .i64 size] 3))) := ((Kept.refl [] w).alloc _).alloc _
  by_cases hb1 : 20000 < n
  · clear hi
    go_enter Try.func3, Try.ntmps3
    go_wp2
    go_ret
    exact ⟨rfl, HK2.out.below (Nat.le_refl _) (by simp)⟩
  by_cases hb2 : size < 1
  · clear hi
    go_enter Try.func3, Try.ntmps3
    go_wp2
    go_ret
    exact ⟨rfl, HK2.out.below (Nat.le_refl _) (by simp)⟩
  by_cases hb3 : (n : Int) < size
  · clear hi
    go_enter Try.func3, Try.ntmps3
    go_wp2
    go_ret
    exact ⟨rfl, HK2.out.below (Nat.le_refl _) (by simp)⟩
  by_cases hb4 : 4096 < size
  · clear hi
    go_enter Try.func3, Try.ntmps3
    go_wp2
    go_ret
    exact ⟨rfl, HK2.out.below (Nat.le_refl _) (by simp)⟩
  obtain ⟨s, rfl⟩ : ∃ s : Nat, size = (s : Int) := ⟨size.toNat, by omega⟩
  exact (along_good ao n cap s xs w hi (by omega) (by omega) (by omega) (by omega)).mono fun e w' ⟨he, hk⟩ => ⟨he, hk.below (Nat.le_refl _) (by simp)⟩

end Go.Proofs.Ytjfekdcghgpchab
