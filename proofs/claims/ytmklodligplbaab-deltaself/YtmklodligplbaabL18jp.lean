import Derived.Test.YtmklodligplbaabD9jp
import Derived.Test.YtmklodligplbaabProg
import Derived.Test.YtmklodligplbaabMemp
import Derived.ProofKit
import Derived.OpenShut
import Derived.Deep.Slices
import Derived.Lib.SmallJoins
import Derived.Deep.MidRow
import Derived.Test.YtmklodligplbaabD9vp
namespace Go.Proofs.Ytmklodligplbaab
section
namespace Dlt

/-- No window of the target is unlike a block of the base that has its sum and its id. -/
def NoClash (wd : Int) (Z : Nat) (base target : List UInt8) : Prop :=
  ∀ q i, q + Z ≤ target.length → i < base.length / Z → weak wd ((target.drop q).take Z) = weak wd (blk Z base i) → (target.drop q).take Z = blk Z base i

theorem weaks_drop {wd : Int} {Z N : Nat} {base : List UInt8} {i : Nat} (h : i < N) : (weaks wd Z base N).drop i = weak wd (blk Z base i) :: (weaks wd Z base N).drop (i + 1) := by
  rw [List.drop_eq_getElem_cons (by rw [weaks_len]; exact h)]
  congr 1
  simp [weaks]

theorem cnt_eq {wd : Int} {Z : Nat} {base target : List UInt8} (hZ : 1 ≤ Z) (hN : NoClash wd Z base target) :
    ∀ (c i p : Nat), c ≤ cntW wd Z ((weaks wd Z base (base.length / Z)).drop i) (target.drop p) → (base.drop (i * Z)).take (c * Z) = (target.drop p).take (c * Z)
  | 0, i, p, _ => by simp
  | c + 1, i, p, h => by
    by_cases hi : i < base.length / Z
    · rw [weaks_drop hi] at h
      unfold cntW at h
      split at h
      · omega
      · rename_i hl
        split at h
        · rename_i he
          rw [wkEq_iff] at he
          rw [List.length_drop] at hl
          have h1 := hN p i (by omega) hi he
          rw [List.drop_drop] at h
          have h2 := cnt_eq hZ hN c (i + 1) (p + Z) (by omega)
          have e1 : (c + 1) * Z = Z + c * Z := by rw [Nat.add_mul, Nat.one_mul, Nat.add_comm]
          rw [e1, List.take_add, List.take_add, List.drop_drop, List.drop_drop]
          rw [show i * Z + Z = (i + 1) * Z by rw [Nat.add_mul, Nat.one_mul], h2, h1]
          rfl
        · omega
    · rw [List.drop_of_length_le (by rw [weaks_len]; omega)] at h
      simp [cntW] at h

theorem accL_do {Z : Nat} {base : List UInt8} {acc : List Stp} {ys : List UInt8} {a : Nat} : doIs Z base (accL acc ys a) = doIs Z base acc ++ ys.take a := by
  unfold accL
  split
  · rw [doIs_snoc]; rfl
  · rename_i h
    have : a = 0 := by omega
    subst this
    simp

theorem insF_do {wd : Int} {Z : Nat} {base target : List UInt8} (hZ : 1 ≤ Z) (hN : NoClash wd Z base target) :
    ∀ (k : Nat) (acc : List Stp) (p : Nat), (target.drop p).length ≤ k → (insF wd Z (weaks wd Z base (base.length / Z)) k acc (target.drop p)).length ≤ 2048 → doIs Z base (insF wd Z (weaks wd Z base (base.length / Z)) k acc (target.drop p)) = doIs Z base acc ++ target.drop p
  | 0, acc, p, h, _ => by
    have : target.drop p = [] := List.length_eq_zero_iff.1 (by omega)
    show doIs Z base acc = _
    rw [this, List.append_nil]
  | k + 1, acc, p, h, hr => by
    unfold insF at hr ⊢
    split
    · rename_i hc
      rw [if_pos hc] at hr
      rcases hc with hc | hc
      · rw [hc, List.append_nil]
      · omega
    · rename_i hc
      rw [if_neg hc] at hr
      split
      · rename_i hd
        rw [accL_do]
        congr 1
        have := List.take_append_drop (nextI wd Z (weaks wd Z base (base.length / Z)) (target.drop p)).1 (target.drop p)
        rw [hd, List.append_nil] at this
        exact this
      · rename_i hd
        rw [if_neg hd] at hr
        have hs := ins_short (L := weaks wd Z base (base.length / Z)) (wd := wd) hZ hd
        generalize (nextI wd Z (weaks wd Z base (base.length / Z)) (target.drop p)).1 = a at *
        generalize (nextI wd Z (weaks wd Z base (base.length / Z)) (target.drop p)).2 = f at *
        simp only [List.drop_drop] at hr hs hd ⊢
        generalize hcn : cntW wd Z ((weaks wd Z base (base.length / Z)).drop f) (target.drop (p + a)) = c at *
        rw [insF_do hZ hN k _ _ (by omega) hr, doIs_snoc, accL_do]
        have he := cnt_eq hZ hN c f (p + a) (by rw [hcn]; exact Nat.le_refl _)
        show doIs Z base acc ++ (target.drop p).take a ++ (base.drop (f * Z)).take (c * Z) ++ _ = _
        rw [he, List.append_assoc, List.append_assoc]
        congr 1
        have e1 : target.drop (p + a + c * Z) = (target.drop (p + a)).drop (c * Z) := by rw [List.drop_drop]
        have e2 : target.drop (p + a) = (target.drop p).drop a := by rw [List.drop_drop]
        rw [e1, List.take_append_drop, e2, List.take_append_drop]

/-- P18.8: what Apply makes of what Make wrote. -/
theorem there_ok {wd : Int} {Z : Nat} {base target : List UInt8} (hs : signE wd base.length (Z : Int) = 0) (hm : makeE (sign wd base Z) target = 0) :
    (applyE base (makeB (sign wd base Z) target) = 0 ∧ (applyB base (makeB (sign wd base Z) target) = target ∨ ((applyB base (makeB (sign wd base Z) target)).length = target.length ∧ Sha.ident wd (applyB base (makeB (sign wd base Z) target)) = Sha.ident wd target ∧ ¬ NoClash wd Z base target))) ∨
      (applyE base (makeB (sign wd base Z) target) = 182 ∧ applyB base (makeB (sign wd base Z) target) = [] ∧ ¬ NoClash wd Z base target) := by
  have hM := sign_may hs
  have hB : makeB (sign wd base Z) target = encD (makeD (sign wd base Z) target) := by unfold makeB; rw [if_pos hm, makeX_enc]
  have hb13 : base.length ≤ 131072 := by have := hM.l2; have e : (sign wd base Z).length = (base.length : Nat) := rfl; omega
  have hw0 : 0 ≤ wd := by have := hM.w1; have e : (sign wd base Z).width = wd := rfl; omega
  have hz1 : 1 ≤ Z := by have := hM.z1; have e : (sign wd base Z).size = (Z : Nat) := rfl; omega
  unfold makeE at hm
  rw [may_iff.2 hM, if_neg (by simp)] at hm
  split at hm
  · cases hm
  · rename_i h1
    split at hm
    · cases hm
    · rename_i h2
      split at hm
      · cases hm
      · rename_i h3
        have hO := makeD_ok (s := sign wd base Z) (t := target) hM (by omega) (by omega) (nought_ident _ _)
        have hd : decD (makeB (sign wd base Z) target) = some (makeD (sign wd base Z) target) := by
          rw [hB]
          exact decD_enc hO (by rw [← makeX_enc]; omega)
        obtain ⟨got, hgot⟩ : ∃ got, doIs Z base (insOf (sign wd base Z) target) = got := ⟨_, rfl⟩
        have hins : insOf (sign wd base Z) target = insF wd Z (weaks wd Z base (base.length / Z)) target.length [] target := by
          show ins wd ((Z : Int).toNat) (weaks wd Z base (base.length / Z)) [] target = _
          rw [Int.toNat_natCast]
          rfl
        have hgl : got.length = target.length := by
          rw [← hgot, doIs_len (z := Z) (b := base) (fun s hs => ?_), hins, insF_total hz1 _ _ _ (Nat.le_refl _) (by rw [← hins]; omega)]
          · simp [total]
          · have := insF_okI (wd := wd) (Z := Z) (L := weaks wd Z base (base.length / Z)) hz1 target.length [] target (by omega) (by simp) s (by rw [← hins]; exact hs)
            rw [weaks_len] at this
            exact this
        have hE : applyE base (makeB (sign wd base Z) target) = if Sha.ident wd got = Sha.ident wd target then 0 else 182 := by
          unfold applyE
          rw [if_neg (by omega), hd]
          simp only
          have e1 : (((makeD (sign wd base Z) target).width : Nat) : Int) = wd := Int.toNat_of_nonneg hw0
          have e2 : (makeD (sign wd base Z) target).size = Z := Int.toNat_natCast Z
          rw [e1, e2, if_pos ⟨(Int.toNat_natCast base.length).symm, rfl⟩]
          show (if Sha.ident wd (doIs Z base (insOf (sign wd base Z) target)) = Sha.ident wd target then (0 : Int) else 182) = _
          rw [hgot]
        have hAB : applyE base (makeB (sign wd base Z) target) = 0 → applyB base (makeB (sign wd base Z) target) = got := fun h0 => by
          unfold applyB
          rw [if_pos h0, hd]
          show doIs ((Z : Int).toNat) base (insOf (sign wd base Z) target) = got
          rw [Int.toNat_natCast, hgot]
        have hNC : NoClash wd Z base target → got = target := fun hN => by
          have := insF_do (base := base) (target := target) hz1 hN target.length [] 0 (by simp) (by rw [List.drop_zero, ← hins]; omega)
          rw [List.drop_zero, ← hins, hgot] at this
          simpa [doIs] using this
        by_cases hi : Sha.ident wd got = Sha.ident wd target
        · rw [if_pos hi] at hE
          left
          refine ⟨hE, ?_⟩
          rw [hAB hE]
          by_cases hg : got = target
          · exact .inl hg
          · exact .inr ⟨hgl, hi, fun hN => hg (hNC hN)⟩
        · rw [if_neg hi] at hE
          right
          refine ⟨hE, ?_, fun hN => hi (by rw [hNC hN])⟩
          unfold applyB
          rw [if_neg (by rw [hE]; decide)]

end Dlt
end

section
namespace Dlt
set_option linter.unusedVariables false

theorem weaks_at {wd : Int} {Z N : Nat} {base : List UInt8} {i : Nat} (h : i < N) : (weaks wd Z base N).getD i wk0 = weak wd (blk Z base i) := by
  rw [List.getD_eq_getElem?_getD, List.getElem?_eq_getElem (by rw [weaks_len]; exact h)]
  simp [weaks]

theorem self_fit {wd : Int} {Z : Nat} {base : List UInt8} (hZ : 1 ≤ Z) (h : Z ≤ base.length) : fitI wd Z (weaks wd Z base (base.length / Z)) base 0 = some 0 := by
  have hn : 0 < base.length / Z := Nat.div_pos h hZ
  unfold fitI leastI
  refine range_first (by rw [weaks_len]; exact hn) (fun j hj => by omega) ?_
  rw [weaks_at hn]
  have : blk Z base 0 = wat base Z 0 := by unfold blk wat; rw [Nat.zero_mul]
  rw [this]
  simp [weak]

theorem self_next {wd : Int} {Z : Nat} {base : List UInt8} (hZ : 1 ≤ Z) (h : Z ≤ base.length) : nextI wd Z (weaks wd Z base (base.length / Z)) base = (0, 0) :=
  nextI_some (by omega) (fun j hj => by omega) (self_fit hZ h)

theorem self_cnt {wd : Int} {Z : Nat} {base : List UInt8} (hZ : 1 ≤ Z) : ∀ (m i : Nat), i + m = base.length / Z → cntW wd Z ((weaks wd Z base (base.length / Z)).drop i) (base.drop (i * Z)) = m
  | 0, i, h => by
    rw [List.drop_of_length_le (by rw [weaks_len]; omega)]
    rfl
  | m + 1, i, h => by
    have hle : (i + 1) * Z ≤ base.length := by
      have h1 : (i + 1) * Z ≤ (base.length / Z) * Z := Nat.mul_le_mul_right _ (by omega)
      have h2 := Nat.div_mul_le_self base.length Z
      omega
    have e1 : (i + 1) * Z = i * Z + Z := by rw [Nat.add_mul, Nat.one_mul]
    rw [weaks_drop (by omega)]
    unfold cntW
    rw [if_neg (by rw [List.length_drop]; omega), if_pos (by rw [wkEq_iff]; rfl), List.drop_drop, ← e1, self_cnt hZ m (i + 1) (by omega)]

/-- What is left behind the last block. -/
def tailB (Z : Nat) (base : List UInt8) : List UInt8 := base.drop (base.length / Z * Z)

theorem tailB_len {Z : Nat} {base : List UInt8} (hZ : 1 ≤ Z) : (tailB Z base).length < Z := by
  unfold tailB
  rw [List.length_drop]
  have := Nat.mod_lt base.length (show Z > 0 by omega)
  have := Nat.div_add_mod base.length Z
  have h2 : Z * (base.length / Z) = base.length / Z * Z := Nat.mul_comm _ _
  omega

def selfI (Z : Nat) (base : List UInt8) : List Stp := (if 0 < base.length / Z then [.copy 0 (base.length / Z)] else []) ++ (if tailB Z base = [] then [] else [.lit (tailB Z base)])

theorem ins_tail {wd : Int} {Z : Nat} {L : List Wk} {acc : List Stp} {ys : List UInt8} (hZ : 1 ≤ Z) (hy : ys.length < Z) (ha : acc.length ≤ 2048) : ins wd Z L acc ys = acc ++ (if ys = [] then [] else [.lit ys]) := by
  by_cases h : ys = []
  · rw [ins_stop (.inl h), if_pos h, List.append_nil]
  · have hn : nextI wd Z L ys = (ys.length, 0) := nextI_none (fun k hk => by omega)
    rw [ins_end h ha (by rw [hn]; simp), hn, if_neg h]
    unfold accL
    rw [if_pos (List.length_pos_iff.2 h), List.take_of_length_le (Nat.le_refl _)]

theorem self_ins {wd : Int} {Z : Nat} {base : List UInt8} (hZ : 1 ≤ Z) : insOf (sign wd base Z) base = selfI Z base := by
  show ins wd ((Z : Int).toNat) (weaks wd Z base (base.length / Z)) [] base = _
  rw [Int.toNat_natCast]
  unfold selfI
  by_cases h : Z ≤ base.length
  · have hn : 0 < base.length / Z := Nat.div_pos h hZ
    have hne : base ≠ [] := fun e => by rw [e] at h; simp at h; omega
    have hx := self_next (wd := wd) hZ h
    have hc := self_cnt (wd := wd) (base := base) hZ (base.length / Z) 0 (by omega)
    rw [Nat.zero_mul] at hc
    rw [ins_go hZ hne (by simp) (by rw [hx]; simpa using hne), hx]
    simp only [List.drop_zero] at hc ⊢
    rw [hc, if_pos hn]
    show ins wd Z _ ([] ++ [Stp.copy 0 (base.length / Z)]) (tailB Z base) = _
    rw [ins_tail hZ (tailB_len hZ) (by simp)]
    rfl
  · have hn : base.length / Z = 0 := Nat.div_eq_of_lt (by omega)
    have ht : tailB Z base = base := by unfold tailB; rw [hn, Nat.zero_mul, List.drop_zero]
    have h0 : ¬ 0 < base.length / Z := by omega
    rw [ins_tail hZ (by omega) (by simp), if_neg h0, ht]

theorem selfI_len (Z : Nat) (base : List UInt8) : (selfI Z base).length = (if 0 < base.length / Z then 1 else 0) + (if tailB Z base = [] then 0 else 1) := by
  unfold selfI
  rw [List.length_append]
  split <;> split <;> rfl

theorem selfI_do {Z : Nat} {base : List UInt8} : doIs Z base (selfI Z base) = base := by
  unfold selfI
  by_cases h : 0 < base.length / Z
  · rw [if_pos h]
    by_cases h2 : tailB Z base = []
    · rw [if_pos h2]
      show doIs Z base [Stp.copy 0 (base.length / Z)] = base
      unfold doIs
      simp only [List.flatMap_cons, List.flatMap_nil, List.append_nil, doI, Nat.zero_mul, List.drop_zero]
      have := List.take_append_drop (base.length / Z * Z) base
      unfold tailB at h2
      rw [h2, List.append_nil] at this
      exact this
    · rw [if_neg h2]
      unfold doIs
      simp only [List.cons_append, List.nil_append, List.flatMap_cons, List.flatMap_nil, List.append_nil, doI, Nat.zero_mul, List.drop_zero]
      unfold tailB
      exact List.take_append_drop _ _
  · rw [if_neg h]
    have h0 : base.length / Z = 0 := Nat.eq_zero_of_not_pos h
    have ht : tailB Z base = base := by unfold tailB; rw [h0, Nat.zero_mul, List.drop_zero]
    rw [ht]
    by_cases h2 : base = []
    · subst h2; rfl
    · rw [if_neg h2]
      unfold doIs
      simp [doI]

/-- P18.9. -/
theorem self_ok {wd : Int} {Z : Nat} {base : List UInt8} (hs : signE wd base.length (Z : Int) = 0) :
    makeE (sign wd base Z) base = 0 ∧ decD (makeB (sign wd base Z) base) = some (makeD (sign wd base Z) base) ∧ (makeB (sign wd base Z) base).length ≤ 131072 ∧ applyE base (makeB (sign wd base Z) base) = 0 ∧ applyB base (makeB (sign wd base Z) base) = base := by
  have hM := sign_may hs
  have hb13 : base.length ≤ 131072 := by have := hM.l2; have e : (sign wd base Z).length = (base.length : Nat) := rfl; omega
  have hw0 : 0 ≤ wd := by have := hM.w1; have e : (sign wd base Z).width = wd := rfl; omega
  have hw2 : wd ≤ 32 := by have := hM.w2; have e : (sign wd base Z).width = wd := rfl; omega
  have hz1 : 16 ≤ Z := by have := hM.z1; have e : (sign wd base Z).size = (Z : Nat) := rfl; omega
  have hz2 : Z ≤ 4096 := by have := hM.z2; have e : (sign wd base Z).size = (Z : Nat) := rfl; omega
  have hi := self_ins (wd := wd) (base := base) (Z := Z) (by omega)
  have hl : (selfI Z base).length ≤ 2 := by rw [selfI_len]; split <;> split <;> omega
  have hO := makeD_ok (s := sign wd base Z) (t := base) hM hb13 (by rw [hi]; omega) (nought_ident _ _)
  have hfl : ((selfI Z base).flatMap encI).length ≤ 22 + 4096 := by
    have ht := tailB_len (base := base) (Z := Z) (by omega)
    have hN : base.length / Z ≤ 131072 := Nat.le_trans (Nat.div_le_self _ _) hb13
    have c1 : (encI (.copy 0 (base.length / Z))).length ≤ 11 := by
      unfold encI
      rw [List.length_append, List.length_append, Pure.fix_len]
      have e1 := Pure.enc_len5 (v := 0) (by omega)
      have e2 := Pure.enc_len5 (v := base.length / Z) (by omega)
      omega
    have c2 : (encI (.lit (tailB Z base))).length ≤ 11 + 4096 := by
      unfold encI
      rw [List.length_append, List.length_append, Pure.fix_len]
      have e2 := Pure.enc_len5 (v := (tailB Z base).length) (by omega)
      omega
    unfold selfI
    rw [List.flatMap_append, List.length_append]
    have d1 : ((if 0 < base.length / Z then [Stp.copy 0 (base.length / Z)] else []).flatMap encI).length ≤ 11 := by
      split
      · simpa using c1
      · simp
    have d2 : ((if tailB Z base = [] then [] else [Stp.lit (tailB Z base)]).flatMap encI).length ≤ 11 + 4096 := by
      split
      · simp
      · simpa using c2
    omega
  have hX : (makeX (sign wd base Z) base).length ≤ 131072 := by
    unfold makeX sealed
    rw [hi]
    simp only [List.length_append, Pure.fix_len, List.length_nil]
    have e1 := Pure.enc_len5 (v := (sign wd base Z).width.toNat) (by have := hM.w2; omega)
    have e2 := Pure.enc_len5 (v := (sign wd base Z).size.toNat) (by have := hM.z2; omega)
    have e3 := Pure.enc_len5 (v := (sign wd base Z).length.toNat) (by have := hM.l2; omega)
    have e4 := Pure.enc_len5 (v := base.length) (by omega)
    have e5 := Pure.enc_len5 (v := (selfI Z base).length) (by omega)
    have t1 : ((sign wd base Z).base.take (sign wd base Z).width.toNat).length ≤ 32 := by rw [List.length_take, (sign wd base Z).hb]; omega
    have t2 : ((Sha.ident (sign wd base Z).width base).take (sign wd base Z).width.toNat).length ≤ 32 := by rw [List.length_take, Sha.ident_len]; omega
    omega
  have hE : makeE (sign wd base Z) base = 0 := by
    unfold makeE
    rw [may_iff.2 hM, if_neg (by simp), if_neg (by omega), if_neg (by rw [hi]; omega), if_neg (by omega)]
  have hB : makeB (sign wd base Z) base = encD (makeD (sign wd base Z) base) := by unfold makeB; rw [if_pos hE, makeX_enc]
  have hd : decD (makeB (sign wd base Z) base) = some (makeD (sign wd base Z) base) := by
    rw [hB]
    exact decD_enc hO (by rw [← makeX_enc]; exact hX)
  have hdo : doIs (makeD (sign wd base Z) base).size base (makeD (sign wd base Z) base).steps = base := by
    show doIs ((Z : Int).toNat) base (insOf (sign wd base Z) base) = base
    rw [Int.toNat_natCast, hi]
    exact selfI_do
  have hA : applyE base (makeB (sign wd base Z) base) = 0 := by
    unfold applyE
    rw [if_neg (by omega), hd]
    simp only
    have e1 : (((makeD (sign wd base Z) base).width : Nat) : Int) = wd := Int.toNat_of_nonneg hw0
    rw [hdo, e1, if_pos ⟨(Int.toNat_natCast base.length).symm, rfl⟩]
    exact if_pos rfl
  refine ⟨hE, hd, by rw [hB, ← makeX_enc]; exact hX, hA, ?_⟩
  unfold applyB
  rw [if_pos hA, hd]
  exact hdo

end Dlt
end

section
open Go.ChangeShapes Go.WideShapes Go.ChangeAt Go.RowKit Go.Deep Go.Joins
set_option linter.unusedVariables false
set_option linter.unusedSimpArgs false

/-- A row of bytes that came in. -/
structure InB (w : World) (ao : Option Addr) (n cap : Nat) (xs : List UInt8) : Prop where
  len : xs.length = n
  le : n ≤ cap
  max : cap ≤ 140737488351232
  sl : Sl w ao xs
  nil : ao = none → xs = [] ∧ cap = 0
  spot : n ≠ 0 → ∀ a, ao = some a → a.spot = none

theorem inb_of_ints {w : World} {a : Addr} {len cap : Nat} {zs : List Int} (hl : len ≤ cap) (hm : cap ≤ 140737488351232) (hz : zs.length = cap) (hcell : ∀ i, i < zs.length → w.cell? (a.add i) = some (.int .u8 (zs.getD i 0))) (hwz : ∀ n ∈ zs, (Lit.int .u8 n).wf = true) :
    ∃ xs, InB w (some a) len cap xs := by
  obtain ⟨b, off, spot⟩ := a
  have hsp : len ≠ 0 → spot = none := fun h => by simpa [Addr.add] using World.cell?_spot (hcell 0 (by omega))
  refine ⟨(zs.take len).map (fun z => UInt8.ofNat z.toNat), by simp; omega, hl, by omega, ?_, by simp, fun h a ha => by cases ha; exact hsp h⟩
  intro i hi
  have hi' : i < len := by simp at hi; omega
  have hc := hcell i (by omega)
  obtain rfl := hsp (by omega)
  refine ⟨b, off, rfl, ?_⟩
  rw [Addr.add_mid] at hc
  rw [hc]
  have hzi : i < zs.length := by omega
  have hb := bounds_u8 (hwz (zs.getD i 0) (by simp [List.getElem?_eq_getElem hzi]))
  have e : ((zs.take len).map (fun z => UInt8.ofNat z.toNat)).getD i 0 = UInt8.ofNat (zs.getD i 0).toNat := by
    simp [List.getElem?_eq_getElem hzi, hi']
  rw [e, UInt8.toNat_ofNat', Nat.mod_eq_of_lt (by omega)]
  congr 2
  omega

section
variable {H : Type} {enc : TypeId × Value → H} {w : World}

theorem open_bytes {fuel : Nat} {v : Value} {x : DataW H × List MemPlace} (h : DataW.trod enc Try.prog w 0 (fun _ => true) true fuel 22 [v] = some x) (hw : ∀ n ∈ x.1.weights Try.prog 22, n ≤ reachBytes) :
    ∃ ao n cap xs, v = .slice ao n cap ∧ InB w ao n cap xs := by
  rcases open_ints Try.underlying22 Try.underlying5 (by kernel_rfl) h with ⟨hcs, _⟩ | ⟨a, l, c, zs, hcs, _, hl, hm, hz, hx, hcell, hwz⟩
  · cases hcs
    exact ⟨none, 0, 0, [], rfl, rfl, Nat.le_refl _, by omega, Sl.nil _ _, fun _ => ⟨rfl, rfl⟩, by simp⟩
  · cases hcs
    have hb1 : Try.prog.bytesOf 5 = 1 := by kernel_rfl
    have hz' : zs.length = c := by simpa using hz
    have hsz : c ≤ 140737488351232 := by
      have := hw ((zs.take l).length + (zs.drop l).length) (by
        rw [hx]
        simp only [DataW.weights, Try.underlying22, hb1, Nat.mul_one, lits, List.length_map, List.mem_cons, true_or])
      have hr : reachBytes = 140737488351232 := rfl
      rw [hr] at this
      simp at this
      omega
    obtain ⟨xs, h⟩ := inb_of_ints hl hsz hz' hcell hwz
    exact ⟨some a, l, c, xs, rfl, h⟩

end
end

section
open Go.RowKit
open Dlt
set_option linter.unusedVariables false
set_option linter.unusedSimpArgs false

theorem InB.in8 {w : World} {ao : Option Addr} {n cap : Nat} {xs : List UInt8} (h : InB w ao n cap xs) : InB8 w ao n cap xs := ⟨h.len, h.le, by have := h.le; have := h.max; omega, h.sl, h.nil⟩
/-- A signature that a call told, opened. -/
theorem TellS.open {w w' : World} {e : Ending} {c : Int} {s : Sig} (h : TellS w w' e c s) : ∃ so sc, e = .returned (.tuple #[.agg (s.cells (.slice so s.blocks.length sc)).toArray, .int .i64 c]) ∧ SigIn w' s so s.blocks.length sc ∧ (s.blocks ≠ [] → ∀ a, so = some a → w.heap.size ≤ a.block) := by
  obtain ⟨v, rfl, ho⟩ := h
  obtain ⟨so, sc, rfl, hsc, hwk, hb, hm⟩ := OwnW.wks ho
  refine ⟨so, sc, rfl, ⟨rfl, hsc, hm, hwk⟩, fun _ a ha => ?_⟩
  obtain ⟨g, rfl, hg, _⟩ := hb a ha
  exact hg
theorem SigIn.row {w : World} {s : Sig} {so : Option Addr} {n sc O : Nat} {cs : Array Value} (h : SigIn w s so n sc) (hO : s.blocks ≠ [] → ∀ a, so = some a → a.block ≠ O) : SigIn (w.setRow O cs) s so n sc := ⟨h.len, h.le, h.max, h.at_.kept (kept_row w O cs) (fun hn a ha => by simpa using hO hn a ha)⟩
end

end Go.Proofs.Ytmklodligplbaab
