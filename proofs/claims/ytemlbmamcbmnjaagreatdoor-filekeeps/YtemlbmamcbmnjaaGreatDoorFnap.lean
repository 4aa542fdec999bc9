/-
  Names of files. (Written by tools/fna.py.)
-/
import Derived.Test.YtemlbmamcbmnjaaGreatDoorGnp
import Derived.Test.YtemlbmamcbmnjaaGreatDoorIep
namespace Go.Proofs.YtemlbmamcbmnjaaGreatDoor
open Go.RowKit Dsk
set_option linter.unusedVariables false
set_option linter.unusedSimpArgs false

set_option maxHeartbeats 800000 in
set_option maxRecDepth 100000 in
theorem fisName_ok (t : By) (w : World) (hm : t.length ≤ 4611686018427387904) : Calls Tryz.prog 73 #[.string ⟨t.toArray⟩] w fun e w' => e = .returned (.bool (isNm t)) ∧ w' = w := by
  have hbs : (ByteArray.mk t.toArray).size = t.length := by simp [ByteArray.size]
  have hsz : t.toArray.size = t.length := by simp
  go_enter Tryz.func73, Tryz.ntmps73
  by_cases h1 : t.length < 1
  · have hf : isNm t = false := by unfold isNm; simp only [Bool.and_eq_false_iff, decide_eq_false_iff_not]; left; left; omega
    have HF := hide hf
    clear hf
    go_wp2
    go_ret
    exact ⟨by rw [HF.out]; rfl, rfl⟩
  by_cases h2 : 112 < t.length
  · have hf : isNm t = false := by unfold isNm; simp only [Bool.and_eq_false_iff, decide_eq_false_iff_not]; left; right; omega
    have HF := hide hf
    clear hf
    go_wp2
    go_ret
    exact ⟨by rw [HF.out]; rfl, rfl⟩
  have hall : isNm t = t.all okByte := by unfold isNm; simp [show 1 ≤ t.length by omega, show t.length ≤ 112 by omega]
  have HA := hide hall
  clear hall
  go_wp2
  go_loopw [14, 3] (fun i _ wr => ∃ k : Nat, k ≤ t.length ∧ i = .int .i64 k ∧ wr = w ∧ Hid ((t.take k).all okByte = true)) (fun i _ wr => t.length - (intOf i).toNat)
  case atStart => exact ⟨0, by omega, rfl, rfl, by show _ = _; simp⟩
  case round =>
    obtain ⟨k, hk, rfl, rfl, HR⟩ := hrel
    by_cases hlt : k < t.length
    · have s0 := fun W => Tryz.signAt t k hlt W
      have hc := okByte_index (t.getD k 0)
      have hix : ∀ W, Calls Tryz.prog 117 #[.string ⟨#[97, 98, 99, 100, 101, 102, 103, 104, 105, 106, 107, 108, 109, 110, 111, 112, 113, 114, 115, 116, 117, 118, 119, 120, 121, 122, 48, 49, 50, 51, 52, 53, 54, 55, 56, 57, 46, 45, 95, 43]⟩, .int .u8 (t.getD k 0).toNat] W fun e w' => e = .returned (.int .i64 (Lib.indexByte nameBs (t.getD k 0))) ∧ w' = W := fun W => indexByte_ok nameBs (t.getD k 0) W
      have hx1 : -1 ≤ Lib.indexByte nameBs (t.getD k 0) := Lib.indexByte_ge _ _
      have HG : Hid (t.take (k + 1) = t.take k ++ [t.getD k 0]) := by
        show _ = _
        rw [List.take_succ_eq_append_getElem hlt]
        simp [List.getElem?_eq_getElem hlt]
      have HM : Hid (t.getD k 0 ∈ t) := by
        show _ ∈ _
        simp [List.getElem?_eq_getElem hlt]
      generalize t.getD k 0 = c at s0 hc hix hx1 HG HM
      generalize Lib.indexByte nameBs c = x at hc hix hx1
      cases hok : okByte c
      · rw [hok] at hc
        have hxn : x < 0 := by simpa using hc
        have HO : Hid (isNm t = false) := by
          rw [HA.out]
          show _ = _
          rw [Bool.eq_iff_iff]
          simp only [List.all_eq_true]
          constructor
          · intro h; have := h c HM.out; rw [hok] at this; cases this
          · intro h; cases h
        clear hc hok
        go_wp2_with (go_at_call 117; refine (hix _).mono ?_; rintro e w' ⟨rfl, rfl⟩)
        go_ret
        exact ⟨by rw [HO.out]; rfl, rfl⟩
      · rw [hok] at hc
        have hxn : ¬ x < 0 := by simpa using hc
        have HO := hide hok
        clear hc hok
        go_wp2_with (go_at_call 117; refine (hix _).mono ?_; rintro e w' ⟨rfl, rfl⟩)
        go_roundw
        case rel => exact ⟨k + 1, by omega, by go_num, trivial, hide (by rw [HG.out, List.all_append, HR.out]; simp [HO.out])⟩
        case measure => simp [intOf]; omega
    · go_wp2
      go_ret
      refine ⟨?_, rfl⟩
      rw [HA.out]
      have := HR.out
      rw [List.take_of_length_le (by omega)] at this
      rw [this]
      rfl

theorem okByte_nat (c : UInt8) : okByte c = true ↔ ((97 ≤ c.toNat ∧ c.toNat ≤ 122) ∨ (48 ≤ c.toNat ∧ c.toNat ≤ 57) ∨ c.toNat = 46 ∨ c.toNat = 45 ∨ c.toNat = 95 ∨ c.toNat = 43) := by
  have h : ∀ n : Fin 256, okByte (UInt8.ofNat n.val) = decide ((97 ≤ n.val ∧ n.val ≤ 122) ∨ (48 ≤ n.val ∧ n.val ≤ 57) ∨ n.val = 46 ∨ n.val = 45 ∨ n.val = 95 ∨ n.val = 43) := by decide +kernel
  have h2 := h ⟨c.toNat, c.toNat_lt⟩
  simp only [UInt8.ofNat_toNat] at h2
  rw [h2, decide_eq_true_eq]

set_option maxHeartbeats 1600000 in
set_option maxRecDepth 100000 in
theorem risName_ok (t : By) (w : World) (hm : t.length ≤ 4611686018427387904) : Calls Tryz.prog 59 #[.string ⟨t.toArray⟩] w fun e w' => e = .returned (.bool (isNm t)) ∧ w' = w := by
  have hbs : (ByteArray.mk t.toArray).size = t.length := by simp [ByteArray.size]
  have hsz : t.toArray.size = t.length := by simp
  go_enter Tryz.func59, Tryz.ntmps59
  by_cases h1 : t.length < 1
  · have hf : isNm t = false := by unfold isNm; simp only [Bool.and_eq_false_iff, decide_eq_false_iff_not]; left; left; omega
    have HF := hide hf
    clear hf
    go_wp2
    go_ret
    exact ⟨by rw [HF.out]; rfl, rfl⟩
  by_cases h2 : 112 < t.length
  · have hf : isNm t = false := by unfold isNm; simp only [Bool.and_eq_false_iff, decide_eq_false_iff_not]; left; right; omega
    have HF := hide hf
    clear hf
    go_wp2
    go_ret
    exact ⟨by rw [HF.out]; rfl, rfl⟩
  have hall : isNm t = t.all okByte := by unfold isNm; simp [show 1 ≤ t.length by omega, show t.length ≤ 112 by omega]
  have HA := hide hall
  clear hall
  go_upto_region 4 with (fail)
  go_loopw [3] (fun i wr => ∃ k : Nat, k ≤ t.length ∧ i = .int .i64 k ∧ wr = w ∧ Hid ((t.take k).all okByte = true)) (fun i wr => t.length - (intOf i).toNat)
  case atStart => exact ⟨0, by omega, rfl, rfl, by show _ = _; simp⟩
  case round =>
    obtain ⟨k, hk, rfl, hww, HR⟩ := hrel
    obtain rfl := hww.symm
    by_cases hlt : k < t.length
    · have s0 := fun W => Tryz.signAt t k hlt W
      have HG : Hid (t.take (k + 1) = t.take k ++ [t.getD k 0]) := by
        show _ = _
        rw [List.take_succ_eq_append_getElem hlt]
        simp [List.getElem?_eq_getElem hlt]
      have HM : Hid (t.getD k 0 ∈ t) := by
        show _ ∈ _
        simp [List.getElem?_eq_getElem hlt]
      generalize t.getD k 0 = c at s0 HG HM
      have hcb : c.toNat < 256 := c.toNat_lt
      have HOK : Hid (okByte c = true ↔ ((97 ≤ c.toNat ∧ c.toNat ≤ 122) ∨ (48 ≤ c.toNat ∧ c.toNat ≤ 57) ∨ c.toNat = 46 ∨ c.toNat = 45 ∨ c.toNat = 95 ∨ c.toNat = 43)) := hide (okByte_nat c)
      have HYes : Hid (okByte c = true → (t.take (k + 1)).all okByte = true) := hide (fun h => by rw [HG.out, List.all_append, HR.out]; simp [h])
      have HNo : Hid (okByte c = false → isNm t = false) := hide (fun h => by rw [HA.out]; exact List.all_eq_false.2 ⟨c, HM.out, by simp [h]⟩)
      generalize hx : c.toNat = x at *
      have hcs : ((97 ≤ x ∧ x ≤ 122) ∨ (122 < x) ∨ (x = 95) ∨ (57 < x ∧ x < 97 ∧ x ≠ 95) ∨ (48 ≤ x ∧ x ≤ 57) ∨ (x = 46) ∨ (x = 45) ∨ (x = 43) ∨ (x < 48 ∧ x ≠ 46 ∧ x ≠ 45 ∧ x ≠ 43)) := by omega
      have HX := hide hx
      clear HG HM HR hx
      rcases hcs with hq | hq | hq | hq | hq | hq | hq | hq | hq
      · have a97 : decide ((97 : Int) ≤ (x : Int)) = true := by simp; omega
        have b122 : decide ((x : Int) ≤ 122) = true := by simp; omega
        have HT : Hid ((t.take (k + 1)).all okByte = true) := hide (HYes.out (HOK.out.2 (by omega)))
        clear hq HYes HNo HOK
        as_aux_lemma =>
          go_wp2
          go_roundw
          case rel => exact ⟨k + 1, by omega, by go_num, trivial, HT⟩
          case measure => simp [intOf]; omega
      · have a97 : decide ((97 : Int) ≤ (x : Int)) = true := by simp; omega
        have b122 : decide ((x : Int) ≤ 122) = false := by simp; omega
        have a48 : decide ((48 : Int) ≤ (x : Int)) = true := by simp; omega
        have b57 : decide ((x : Int) ≤ 57) = false := by simp; omega
        have q46 : ((x : Int) == 46) = false := by simp; omega
        have q45 : ((x : Int) == 45) = false := by simp; omega
        have q95 : ((x : Int) == 95) = false := by simp; omega
        have q43 : ((x : Int) == 43) = false := by simp; omega
        have HF : Hid (isNm t = false) := hide (HNo.out (by cases h : okByte c; rfl; exact absurd (HOK.out.1 h) (by omega)))
        clear hq HYes HNo HOK
        as_aux_lemma =>
          go_wp2
          go_ret
          exact ⟨by rw [HF.out]; rfl, rfl⟩
      · have a97 : decide ((97 : Int) ≤ (x : Int)) = false := by simp; omega
        have a48 : decide ((48 : Int) ≤ (x : Int)) = true := by simp; omega
        have b57 : decide ((x : Int) ≤ 57) = false := by simp; omega
        have q46 : ((x : Int) == 46) = false := by simp; omega
        have q45 : ((x : Int) == 45) = false := by simp; omega
        have q95 : ((x : Int) == 95) = true := by simp; omega
        have HT : Hid ((t.take (k + 1)).all okByte = true) := hide (HYes.out (HOK.out.2 (by omega)))
        clear hq HYes HNo HOK
        as_aux_lemma =>
          go_wp2
          go_roundw
          case rel => exact ⟨k + 1, by omega, by go_num, trivial, HT⟩
          case measure => simp [intOf]; omega
      · have a97 : decide ((97 : Int) ≤ (x : Int)) = false := by simp; omega
        have a48 : decide ((48 : Int) ≤ (x : Int)) = true := by simp; omega
        have b57 : decide ((x : Int) ≤ 57) = false := by simp; omega
        have q46 : ((x : Int) == 46) = false := by simp; omega
        have q45 : ((x : Int) == 45) = false := by simp; omega
        have q95 : ((x : Int) == 95) = false := by simp; omega
        have q43 : ((x : Int) == 43) = false := by simp; omega
        have HF : Hid (isNm t = false) := hide (HNo.out (by cases h : okByte c; rfl; exact absurd (HOK.out.1 h) (by omega)))
        clear hq HYes HNo HOK
        as_aux_lemma =>
          go_wp2
          go_ret
          exact ⟨by rw [HF.out]; rfl, rfl⟩
      · have a97 : decide ((97 : Int) ≤ (x : Int)) = false := by simp; omega
        have a48 : decide ((48 : Int) ≤ (x : Int)) = true := by simp; omega
        have b57 : decide ((x : Int) ≤ 57) = true := by simp; omega
        have HT : Hid ((t.take (k + 1)).all okByte = true) := hide (HYes.out (HOK.out.2 (by omega)))
        clear hq HYes HNo HOK
        as_aux_lemma =>
          go_wp2
          go_roundw
          case rel => exact ⟨k + 1, by omega, by go_num, trivial, HT⟩
          case measure => simp [intOf]; omega
      · have a97 : decide ((97 : Int) ≤ (x : Int)) = false := by simp; omega
        have a48 : decide ((48 : Int) ≤ (x : Int)) = false := by simp; omega
        have q46 : ((x : Int) == 46) = true := by simp; omega
        have HT : Hid ((t.take (k + 1)).all okByte = true) := hide (HYes.out (HOK.out.2 (by omega)))
        clear hq HYes HNo HOK
        as_aux_lemma =>
          go_wp2
          go_roundw
          case rel => exact ⟨k + 1, by omega, by go_num, trivial, HT⟩
          case measure => simp [intOf]; omega
      · have a97 : decide ((97 : Int) ≤ (x : Int)) = false := by simp; omega
        have a48 : decide ((48 : Int) ≤ (x : Int)) = false := by simp; omega
        have q46 : ((x : Int) == 46) = false := by simp; omega
        have q45 : ((x : Int) == 45) = true := by simp; omega
        have HT : Hid ((t.take (k + 1)).all okByte = true) := hide (HYes.out (HOK.out.2 (by omega)))
        clear hq HYes HNo HOK
        as_aux_lemma =>
          go_wp2
          go_roundw
          case rel => exact ⟨k + 1, by omega, by go_num, trivial, HT⟩
          case measure => simp [intOf]; omega
      · have a97 : decide ((97 : Int) ≤ (x : Int)) = false := by simp; omega
        have a48 : decide ((48 : Int) ≤ (x : Int)) = false := by simp; omega
        have q46 : ((x : Int) == 46) = false := by simp; omega
        have q45 : ((x : Int) == 45) = false := by simp; omega
        have q95 : ((x : Int) == 95) = false := by simp; omega
        have q43 : ((x : Int) == 43) = true := by simp; omega
        have HT : Hid ((t.take (k + 1)).all okByte = true) := hide (HYes.out (HOK.out.2 (by omega)))
        clear hq HYes HNo HOK
        as_aux_lemma =>
          go_wp2
          go_roundw
          case rel => exact ⟨k + 1, by omega, by go_num, trivial, HT⟩
          case measure => simp [intOf]; omega
      · have a97 : decide ((97 : Int) ≤ (x : Int)) = false := by simp; omega
        have a48 : decide ((48 : Int) ≤ (x : Int)) = false := by simp; omega
        have q46 : ((x : Int) == 46) = false := by simp; omega
        have q45 : ((x : Int) == 45) = false := by simp; omega
        have q95 : ((x : Int) == 95) = false := by simp; omega
        have q43 : ((x : Int) == 43) = false := by simp; omega
        have HF : Hid (isNm t = false) := hide (HNo.out (by cases h : okByte c; rfl; exact absurd (HOK.out.1 h) (by omega)))
        clear hq HYes HNo HOK
        as_aux_lemma =>
          go_wp2
          go_ret
          exact ⟨by rw [HF.out]; rfl, rfl⟩
    · have HE : Hid (isNm t = true) := hide (by rw [HA.out]; have := HR.out; rw [List.take_of_length_le (by omega)] at this; exact this)
      go_wp2
      go_ret
      exact ⟨by rw [HE.out]; rfl, rfl⟩
/-- May it be put? -/
def isPut (n : By) : Bool := isNm n && decide (n.length < 112) && !(n.getD 0 0 == 43)
theorem isNm_plus {n : By} (h : isNm n = true) : isNm (43 :: n) = decide (n.length < 112) := by
  unfold isNm at *
  simp only [Bool.and_eq_true, decide_eq_true_eq] at h
  have h3 : (43 :: n).all okByte = true := by simp only [List.all_cons, Bool.and_eq_true]; exact ⟨by decide, h.2⟩
  rw [h3]
  simp only [List.length_cons, Bool.and_true]
  rw [show decide (1 ≤ n.length + 1) = true by simp, Bool.true_and]
  rfl
theorem pre_plus {n : By} (h : isNm n = true) : ([43] : By).isPrefixOf n = (n.getD 0 0 == 43) := by
  cases n with
  | nil => simp [isNm] at h
  | cons x r =>
    simp only [List.isPrefixOf, List.isPrefixOf_nil_left, Bool.and_true, List.getD_cons_zero]
    rw [Bool.eq_iff_iff, beq_iff_eq, beq_iff_eq]
    exact eq_comm

set_option maxHeartbeats 800000 in
set_option maxRecDepth 100000 in
theorem isPutName_ok (t : By) (w : World) (hm : t.length ≤ 4611686018427387900) : Calls Tryz.prog 62 #[.string ⟨t.toArray⟩] w fun e w' => e = .returned (.bool (isPut t)) ∧ w' = w := by
  have c1 := fisName_ok t w (by omega)
  have c2 := fisName_ok (43 :: t) w (by simp; omega)
  have c3 := hasPrefix_ok t [43] w (by omega) (by simp)
  have hcat : ¬ (9223372036854775807 < 1 + t.length) := by omega
  cases h1 : isNm t with
  | false =>
    have HE : Hid (isPut t = false) := hide (by simp [isPut, h1])
    rw [h1] at c1
    clear h1 c2 c3
    go_enter Tryz.func62, Tryz.ntmps62
    go_wp2_with (go_at_call 73; refine c1.mono ?_; rintro e w' ⟨rfl, hww⟩; obtain rfl := hww.symm; clear c1)
    go_ret
    exact ⟨by rw [HE.out]; rfl, rfl⟩
  | true =>
    rw [h1] at c1
    rw [isNm_plus h1] at c2
    rw [pre_plus h1] at c3
    have HE : Hid (isPut t = (decide (t.length < 112) && !(t.getD 0 0 == 43))) := hide (by simp [isPut, h1])
    clear h1
    generalize (t.getD 0 0 == 43) = b3 at c3 HE
    cases h2 : decide (t.length < 112) with
    | false =>
      rw [h2] at c2
      have HE2 : Hid (isPut t = false) := hide (by rw [HE.out, h2]; rfl)
      clear h2 HE c3
      go_enter Tryz.func62, Tryz.ntmps62
      go_wp2_with (first
        | (go_at_call 73; refine c1.mono ?_; rintro e w' ⟨rfl, hww⟩; obtain rfl := hww.symm; clear c1)
        | (go_at_call 73; refine c2.mono ?_; rintro e w' ⟨rfl, hww⟩; obtain rfl := hww.symm; clear c2))
      go_ret
      exact ⟨by rw [HE2.out]; rfl, rfl⟩
    | true =>
      rw [h2] at c2
      have HE2 : Hid (isPut t = !b3) := hide (by rw [HE.out, h2]; rfl)
      clear h2 HE
      go_enter Tryz.func62, Tryz.ntmps62
      go_wp2_with (first
        | (go_at_call 73; refine c1.mono ?_; rintro e w' ⟨rfl, hww⟩; obtain rfl := hww.symm; clear c1)
        | (go_at_call 73; refine c2.mono ?_; rintro e w' ⟨rfl, hww⟩; obtain rfl := hww.symm; clear c2)
        | (go_at_call 102; refine c3.mono ?_; rintro e w' ⟨rfl, hww⟩; obtain rfl := hww.symm; clear c3))
      go_ret
      exact ⟨by rw [HE2.out]; rfl, rfl⟩

set_option maxHeartbeats 800000 in
set_option maxRecDepth 100000 in
theorem lays_ok (t : By) (w : World) (hm : t.length ≤ 4611686018427387900) : Calls Tryz.prog 23 #[.string ⟨t.toArray⟩] w fun e w' => e = .returned (.bool (isPut t)) ∧ w' = w := by
  have c1 := risName_ok t w (by omega)
  have hbs : (ByteArray.mk t.toArray).size = t.length := by simp [ByteArray.size]
  have hsz : t.toArray.size = t.length := by simp
  cases h1 : isNm t with
  | false =>
    have HE : Hid (isPut t = false) := hide (by simp [isPut, h1])
    rw [h1] at c1
    clear h1
    go_enter Tryz.func23, Tryz.ntmps23
    go_wp2_with (go_at_call 59; refine c1.mono ?_; rintro e w' ⟨rfl, hww⟩; obtain rfl := hww.symm; clear c1)
    go_ret
    exact ⟨by rw [HE.out]; rfl, rfl⟩
  | true =>
    rw [h1] at c1
    have hl : 0 < t.length := by unfold isNm at h1; simp only [Bool.and_eq_true, decide_eq_true_eq] at h1; omega
    have HE : Hid (isPut t = (decide (t.length < 112) && !(t.getD 0 0 == 43))) := hide (by simp [isPut, h1])
    clear h1
    by_cases h2 : t.length < 112
    · obtain ⟨c, r, rfl⟩ : ∃ c r, t = c :: r := by
        cases t with
        | nil => simp at hl
        | cons c r => exact ⟨c, r, rfl⟩
      have hne : ((c.toNat : Int) != 43) = !(c == 43) := by
        rw [Bool.eq_iff_iff]
        simp only [bne_iff_ne, ne_eq, Bool.not_eq_true', beq_eq_false_iff_ne]
        constructor
        · intro h e; rw [e] at h; exact h rfl
        · intro h e; exact h (UInt8.toNat_inj.1 (by show c.toNat = 43; omega))
      have HNE := hide hne
      have HE2 : Hid (isPut (c :: r) = !(c == 43)) := hide (by rw [HE.out, decide_eq_true h2, Bool.true_and]; rfl)
      have h2' : ((c :: r).length : Int) < 112 := by omega
      clear HE hne
      go_enter Tryz.func23, Tryz.ntmps23
      go_wp2_with (go_at_call 59; refine c1.mono ?_; rintro e w' ⟨rfl, hww⟩; obtain rfl := hww.symm; clear c1)
      go_ret
      exact ⟨by rw [HE2.out, ← HNE.out]; rfl, rfl⟩
    · have HE2 : Hid (isPut t = false) := hide (by rw [HE.out]; simp [h2])
      have h2' : ¬ (t.length : Int) < 112 := by omega
      clear HE
      go_enter Tryz.func23, Tryz.ntmps23
      go_wp2_with (go_at_call 59; refine c1.mono ?_; rintro e w' ⟨rfl, hww⟩; obtain rfl := hww.symm; clear c1)
      go_ret
      exact ⟨by rw [HE2.out]; rfl, rfl⟩
end Go.Proofs.YtemlbmamcbmnjaaGreatDoor
