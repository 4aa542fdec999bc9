import Derived.Test.YtmklodligplbaabL18ap
import Derived.Test.YtmklodligplbaabDdap
import Derived.Test.YtmklodligplbaabD9jp
namespace Go.Proofs.Ytmklodligplbaab
section
open Go.RowKit
open Dlt
set_option linter.unusedVariables false
set_option linter.unusedSimpArgs false

theorem rof_ok (width : Int) (ao : Option Addr) (n cap : Nat) (m : List UInt8) (w : World) (hn : m.length = n) (hlen : n ≤ 140737488351232) (hs : Sl w ao m) (hnl : ao = none → m = [] ∧ cap = 0) :
    Calls Try.prog 10 #[.int .i64 width, .slice ao n cap] w fun e w' => e = .returned (.agg (bys (Sha.ident width m)).toArray) ∧ Kept [] w w' :=
  (rof_of width ao cap m w n fun w1 hb => rfull_any ao cap m w1 n hn hlen (hs.kept (Kept.of_below hb) (by simp)) hnl).mono fun e w' h => ⟨h.1, Kept.of_below h.2⟩
end

section
namespace Dlt

/-- No window of the target is unlike a block of the base that has its sum and its id. -/
def NoClash (wd : Int) (Z : Nat) (base target : List UInt8) : Prop :=
  ∀ q i, q + Z ≤ target.length → i < base.length / Z → weak wd ((target.drop q).take Z) = weak wd (blk Z base i) → (target.drop q).take Z = blk Z base i

theorem weaks_drop {wd : Int} {Z N : Nat} {base : List UInt8} {i : Nat} (h : i < N) : (weaks wd Z base N).drop i = weak wd (blk Z base i) :: (weaks wd Z base N).drop (i + 1) := by
  rw [List.drop_eq_getElem_cons (by rw [weaks_len]; exact h)]
  congr 1
  simp [weaks]

theorem cnt_eq {wd : Int} {Z : Nat} {base target : List UInt8} (hZ : 1 ≤ Z) (hN : NoClash wd Z base target) :
    ∀ (c i p : Nat), c ≤ cntW wd Z ((weaks wd Z base (base.length / Z)).drop i) (target.drop p) → (base.drop (i * Z)).take (c * Z) = (target.drop p).take (c * Z)
  | 0, i, p, _ => by simp
  | c + 1, i, p, h => by
    by_cases hi : i < base.length / Z
    · rw [weaks_drop hi] at h
      unfold cntW at h
      split at h
      · omega
      · rename_i hl
        split at h
        · rename_i he
          rw [wkEq_iff] at he
          rw [List.length_drop] at hl
          have h1 := hN p i (by omega) hi he
          rw [List.drop_drop] at h
          have h2 := cnt_eq hZ hN c (i + 1) (p + Z) (by omega)
          have e1 : (c + 1) * Z = Z + c * Z := by rw [Nat.add_mul, Nat.one_mul, Nat.add_comm]
          rw [e1, List.take_add, List.take_add, List.drop_drop, List.drop_drop]
          rw [show i * Z + Z = (i + 1) * Z by rw [Nat.add_mul, Nat.one_mul], h2, h1]
          rfl
        · omega
    · rw [List.drop_of_length_le (by rw [weaks_len]; omega)] at h
      simp [cntW] at h

theorem accL_do {Z : Nat} {base : List UInt8} {acc : List Stp} {ys : List UInt8} {a : Nat} : doIs Z base (accL acc ys a) = doIs Z base acc ++ ys.take a := by
  unfold accL
  split
  · rw [doIs_snoc]; rfl
  · rename_i h
    have : a = 0 := by omega
    subst this
    simp

theorem insF_do {wd : Int} {Z : Nat} {base target : List UInt8} (hZ : 1 ≤ Z) (hN : NoClash wd Z base target) :
    ∀ (k : Nat) (acc : List Stp) (p : Nat), (target.drop p).length ≤ k → (insF wd Z (weaks wd Z base (base.length / Z)) k acc (target.drop p)).length ≤ 2048 → doIs Z base (insF wd Z (weaks wd Z base (base.length / Z)) k acc (target.drop p)) = doIs Z base acc ++ target.drop p
  | 0, acc, p, h, _ => by
    have : target.drop p = [] := List.length_eq_zero_iff.1 (by omega)
    show doIs Z base acc = _
    rw [this, List.append_nil]
  | k + 1, acc, p, h, hr => by
    unfold insF at hr ⊢
    split
    · rename_i hc
      rw [if_pos hc] at hr
      rcases hc with hc | hc
      · rw [hc, List.append_nil]
      · omega
    · rename_i hc
      rw [if_neg hc] at hr
      split
      · rename_i hd
        rw [accL_do]
        congr 1
        have := List.take_append_drop (nextI wd Z (weaks wd Z base (base.length / Z)) (target.drop p)).1 (target.drop p)
        rw [hd, List.append_nil] at this
        exact this
      · rename_i hd
        rw [if_neg hd] at hr
        have hs := ins_short (L := weaks wd Z base (base.length / Z)) (wd := wd) hZ hd
        generalize (nextI wd Z (weaks wd Z base (base.length / Z)) (target.drop p)).1 = a at *
        generalize (nextI wd Z (weaks wd Z base (base.length / Z)) (target.drop p)).2 = f at *
        simp only [List.drop_drop] at hr hs hd ⊢
        generalize hcn : cntW wd Z ((weaks wd Z base (base.length / Z)).drop f) (target.drop (p + a)) = c at *
        rw [insF_do hZ hN k _ _ (by omega) hr, doIs_snoc, accL_do]
        have he := cnt_eq hZ hN c f (p + a) (by rw [hcn]; exact Nat.le_refl _)
        show doIs Z base acc ++ (target.drop p).take a ++ (base.drop (f * Z)).take (c * Z) ++ _ = _
        rw [he, List.append_assoc, List.append_assoc]
        congr 1
        have e1 : target.drop (p + a + c * Z) = (target.drop (p + a)).drop (c * Z) := by rw [List.drop_drop]
        have e2 : target.drop (p + a) = (target.drop p).drop a := by rw [List.drop_drop]
        rw [e1, List.take_append_drop, e2, List.take_append_drop]

/-- P18.8: what Apply makes of what Make wrote. -/
theorem there_ok {wd : Int} {Z : Nat} {base target : List UInt8} (hs : signE wd base.length (Z : Int) = 0) (hm : makeE (sign wd base Z) target = 0) :
    (applyE base (makeB (sign wd base Z) target) = 0 ∧ (applyB base (makeB (sign wd base Z) target) = target ∨ ((applyB base (makeB (sign wd base Z) target)).length = target.length ∧ Sha.ident wd (applyB base (makeB (sign wd base Z) target)) = Sha.ident wd target ∧ ¬ NoClash wd Z base target))) ∨
      (applyE base (makeB (sign wd base Z) target) = 182 ∧ applyB base (makeB (sign wd base Z) target) = [] ∧ ¬ NoClash wd Z base target) := by
  have hM := sign_may hs
  have hB : makeB (sign wd base Z) target = encD (makeD (sign wd base Z) target) := by unfold makeB; rw [if_pos hm, makeX_enc]
  have hb13 : base.length ≤ 131072 := by have := hM.l2; have e : (sign wd base Z).length = (base.length : Nat) := rfl; omega
  have hw0 : 0 ≤ wd := by have := hM.w1; have e : (sign wd base Z).width = wd := rfl; omega
  have hz1 : 1 ≤ Z := by have := hM.z1; have e : (sign wd base Z).size = (Z : Nat) := rfl; omega
  unfold makeE at hm
  rw [may_iff.2 hM, if_neg (by simp)] at hm
  split at hm
  · cases hm
  · rename_i h1
    split at hm
    · cases hm
    · rename_i h2
      split at hm
      · cases hm
      · rename_i h3
        have hO := makeD_ok (s := sign wd base Z) (t := target) hM (by omega) (by omega) (nought_ident _ _)
        have hd : decD (makeB (sign wd base Z) target) = some (makeD (sign wd base Z) target) := by
          rw [hB]
          exact decD_enc hO (by rw [← makeX_enc]; omega)
        obtain ⟨got, hgot⟩ : ∃ got, doIs Z base (insOf (sign wd base Z) target) = got := ⟨_, rfl⟩
        have hins : insOf (sign wd base Z) target = insF wd Z (weaks wd Z base (base.length / Z)) target.length [] target := by
          show ins wd ((Z : Int).toNat) (weaks wd Z base (base.length / Z)) [] target = _
          rw [Int.toNat_natCast]
          rfl
        have hgl : got.length = target.length := by
          rw [← hgot, doIs_len (z := Z) (b := base) (fun s hs => ?_), hins, insF_total hz1 _ _ _ (Nat.le_refl _) (by rw [← hins]; omega)]
          · simp [total]
          · have := insF_okI (wd := wd) (Z := Z) (L := weaks wd Z base (base.length / Z)) hz1 target.length [] target (by omega) (by simp) s (by rw [← hins]; exact hs)
            rw [weaks_len] at this
            exact this
        have hE : applyE base (makeB (sign wd base Z) target) = if Sha.ident wd got = Sha.ident wd target then 0 else 182 := by
          unfold applyE
          rw [if_neg (by omega), hd]
          simp only
          have e1 : (((makeD (sign wd base Z) target).width : Nat) : Int) = wd := Int.toNat_of_nonneg hw0
          have e2 : (makeD (sign wd base Z) target).size = Z := Int.toNat_natCast Z
          rw [e1, e2, if_pos ⟨(Int.toNat_natCast base.length).symm, rfl⟩]
          show (if Sha.ident wd (doIs Z base (insOf (sign wd base Z) target)) = Sha.ident wd target then (0 : Int) else 182) = _
          rw [hgot]
        have hAB : applyE base (makeB (sign wd base Z) target) = 0 → applyB base (makeB (sign wd base Z) target) = got := fun h0 => by
          unfold applyB
          rw [if_pos h0, hd]
          show doIs ((Z : Int).toNat) base (insOf (sign wd base Z) target) = got
          rw [Int.toNat_natCast, hgot]
        have hNC : NoClash wd Z base target → got = target := fun hN => by
          have := insF_do (base := base) (target := target) hz1 hN target.length [] 0 (by simp) (by rw [List.drop_zero, ← hins]; omega)
          rw [List.drop_zero, ← hins, hgot] at this
          simpa [doIs] using this
        by_cases hi : Sha.ident wd got = Sha.ident wd target
        · rw [if_pos hi] at hE
          left
          refine ⟨hE, ?_⟩
          rw [hAB hE]
          by_cases hg : got = target
          · exact .inl hg
          · exact .inr ⟨hgl, hi, fun hN => hg (hNC hN)⟩
        · rw [if_neg hi] at hE
          right
          refine ⟨hE, ?_, fun hN => hi (by rw [hNC hN])⟩
          unfold applyB
          rw [if_neg (by rw [hE]; decide)]

end Dlt
end

end Go.Proofs.Ytmklodligplbaab
