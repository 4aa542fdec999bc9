import Derived.Test.YtmklodligplbaabGreatD9jl
namespace Go.Proofs.YtmklodligplbaabGreat
namespace Dlt
set_option linter.unusedVariables false
def goodS (wd : Int) (Z : Nat) (L : List Wk) : Bool → List Stp → List UInt8 → Prop
 | _, [], ys => ys = []
 | pl, .lit bs :: r, ys => pl = false ∧ bs ≠ [] ∧ bs.length ≤ ys.length ∧ bs = ys.take bs.length ∧ (∀ q, q + Z ≤ bs.length → ∀ j, j < L.length → L.getD j wk0 ≠ weak wd ((bs.drop q).take Z)) ∧ goodS wd Z L true r (ys.drop bs.length)
 | _, .copy f c :: r, ys => 1 ≤ c ∧ f + c ≤ L.length ∧ c * Z ≤ ys.length ∧ (∀ k, k < c → L.getD (f + k) wk0 = weak wd ((ys.drop (k * Z)).take Z)) ∧ (∀ j, j < f → L.getD j wk0 ≠ weak wd (ys.take Z)) ∧ goodS wd Z L false r (ys.drop (c * Z))
theorem leastI_none {L : List Wk} {x : Int} {id : List UInt8} (h : leastI L x id = none) : ∀ j, j < L.length → ¬ ((L.getD j wk0).sum = x ∧ (L.getD j wk0).id = id) := fun j hj hh => by
 unfold leastI at h
 rw [List.find?_eq_none] at h
 have := h j (by simpa using hj)
 rw [hh.1, hh.2] at this
 simp at this
theorem find_first {p : Nat → Bool} : ∀ {n i : Nat}, (List.range n).find? p = some i → ∀ j, j < i → p j = false
 | 0, i, h => by simp at h
 | n + 1, i, h => by
  rw [List.range_succ, List.find?_append] at h
  cases hf : (List.range n).find? p with
  | some k =>
   rw [hf] at h
   simp at h
   subst h
   exact find_first hf
  | none =>
   rw [hf] at h
   simp at h
   obtain ⟨_, rfl⟩ := h
   intro j hj
   rw [List.find?_eq_none] at hf
   have := hf j (by simpa using hj)
   simpa using this
theorem leastI_first {L : List Wk} {x : Int} {id : List UInt8} {i : Nat} (h : leastI L x id = some i) : ∀ j, j < i → ¬ ((L.getD j wk0).sum = x ∧ (L.getD j wk0).id = id) := fun j hj hh => by
 have := find_first h j hj
 rw [hh.1, hh.2] at this
 simp at this
theorem weak_of {wd : Int} {b : List UInt8} {k : Wk} : k = weak wd b ↔ k.sum = (Rol.sum b : Nat) ∧ k.id = Sha.ident wd b := by
 constructor
 ·rintro rfl; exact ⟨rfl, rfl⟩
 ·intro h; exact Wk.ext' h.1 h.2
theorem fitI_none {wd : Int} {Z : Nat} {L : List Wk} {ys : List UInt8} {q : Nat} (h : fitI wd Z L ys q = none) : ∀ j, j < L.length → L.getD j wk0 ≠ weak wd ((ys.drop q).take Z) := fun j hj he => by
 unfold fitI wat at h
 exact leastI_none h j hj (weak_of.1 he)
theorem cntW_at {wd : Int} {Z : Nat} : ∀ {L : List Wk} {ys : List UInt8} (k : Nat), k < cntW wd Z L ys → L.getD k wk0 = weak wd ((ys.drop (k * Z)).take Z)
 | [], ys, k, h => by simp [cntW] at h
 | b :: L, ys, k, h => by
  unfold cntW at h
  split at h
  ·omega
  ·split at h
   ·rename_i he
    rw [wkEq_iff] at he
    cases k with
    | zero => simp [← he]
    | succ k =>
     have := cntW_at (wd := wd) (Z := Z) (L := L) (ys := ys.drop Z) k (by omega)
     rw [List.getD_cons_succ, this, List.drop_drop]
     congr 3
     rw [Nat.add_mul, Nat.one_mul, Nat.add_comm]
   ·omega
theorem good_lit {wd : Int} {Z : Nat} {L : List Wk} {ys : List UInt8} {a : Nat} (ha : a ≤ ys.length) (hno : ∀ q, q + Z ≤ a → fitI wd Z L ys q = none) {R : List Stp} (hR : ∀ pl, (pl = true → 0 < a) → goodS wd Z L pl R (ys.drop a)) : goodS wd Z L false ((if 0 < a then [.lit (ys.take a)] else []) ++ R) ys := by
 by_cases h : 0 < a
 ·rw [if_pos h]
  have hl : (ys.take a).length = a := by rw [List.length_take]; omega
  show goodS wd Z L false (.lit (ys.take a) :: R) ys
  refine ⟨rfl, fun e => ?_, by rw [hl]; exact ha, by rw [hl], fun q hq j hj => ?_, by rw [hl]; exact hR true (fun _ => h)⟩
  ·have := congrArg List.length e; rw [hl] at this; simp at this; omega
  ·rw [hl] at hq
   have := fitI_none (hno q hq) j hj
   rw [List.drop_take, List.take_take, Nat.min_eq_left (by omega)]
   exact this
 ·obtain rfl : a = 0 := by omega
  rw [if_neg h]
  have := hR false (fun h => by cases h)
  simpa using this
theorem insF_good {wd : Int} {Z : Nat} {L : List Wk} (hZ : 1 ≤ Z) : ∀ (k : Nat) (acc : List Stp) (ys : List UInt8), ys.length ≤ k → (insF wd Z L k acc ys).length ≤ 2048 → ∃ R, insF wd Z L k acc ys = acc ++ R ∧ goodS wd Z L false R ys
 | 0, acc, ys, h, _ => by
  have : ys = [] := List.length_eq_zero_iff.1 (by omega)
  subst this
  exact ⟨[], by simp [insF], rfl⟩
 | k + 1, acc, ys, h, hr => by
  unfold insF at hr ⊢
  split
  ·rename_i hc
   rw [if_pos hc] at hr
   rcases hc with hc | hc
   ·exact ⟨[], by simp, hc⟩
   ·omega
  ·rename_i hc
   rw [if_neg hc] at hr
   have hacc : ∀ a, accL acc ys a = acc ++ (if 0 < a then [.lit (ys.take a)] else []) := fun a => by unfold accL; split <;> simp
   split
   ·rename_i hd
    refine ⟨_, hacc _, ?_⟩
    rcases nextI_cases wd Z L ys with ⟨h1, h2⟩ | ⟨q, i, h1, h2, h3, h4⟩
    ·rw [h1] at hd ⊢
     have := good_lit (wd := wd) (Z := Z) (L := L) (ys := ys) (a := ys.length) (R := []) (Nat.le_refl _) (fun q hq => h2 q (by omega)) (fun pl _ => by simp [goodS])
     simpa using this
    ·rw [h1] at hd
     have := congrArg List.length hd
     rw [List.length_drop] at this
     simp at this
     omega
   ·rename_i hd
    rw [if_neg hd] at hr
    have hs := ins_short (L := L) (wd := wd) hZ hd
    obtain ⟨R, hR1, hR2⟩ := insF_good hZ k _ _ (by omega) hr
    rw [hR1, hacc]
    refine ⟨_, by rw [List.append_assoc, List.append_assoc], ?_⟩
    rcases nextI_cases wd Z L ys with ⟨h1, h2⟩ | ⟨q, i, h1, h2, h3, h4⟩
    ·exact absurd (by rw [h1]; simp) hd
    ·have hlt : (nextI wd Z L ys).1 < ys.length := by rw [h1]; show q < _; omega
     have hn := next_cnt hZ hlt
     rw [h1] at hn hR2 ⊢
     simp only at hn hR2 ⊢
     refine good_lit (by omega) (fun q' hq' => h4 q' (by omega)) (fun pl _ => ?_)
     have hcl := cntW_le wd Z (L.drop i) (ys.drop q)
     rw [List.length_drop] at hcl
     show goodS wd Z L pl (.copy i (cntW wd Z (L.drop i) (ys.drop q)) :: R) (ys.drop q)
     refine ⟨hn.2, by have := hn.1; omega, hcl.2, fun k' hk' => ?_, fun j hj he => ?_, hR2⟩
     ·have := cntW_at k' hk'
      rw [← this]
      simp [List.getD, List.getElem?_drop]
     ·unfold fitI wat at h3
      exact leastI_first h3 j hj (weak_of.1 he)
theorem make_good {s : Sig} {t : List UInt8} (h : makeE s t = 0) : goodS s.width s.size.toNat s.blocks false (insOf s t) t ∧ May s ∧ decD (makeB s t) = some (makeD s t) ∧ t.length ≤ 131072 ∧ (makeB s t).length ≤ 131072 := by
 have h0 := h
 unfold makeE at h
 cases hm : may s with
 | false => rw [hm, if_pos rfl] at h; cases h
 | true =>
  rw [hm, if_neg (by simp)] at h
  have hM := may_iff.1 hm
  split at h
  ·cases h
  ·rename_i h1
   split at h
   ·cases h
   ·rename_i h2
    split at h
    ·cases h
    ·rename_i h3
     have hz1 : 1 ≤ s.size.toNat := by have := hM.z1; omega
     have hB : makeB s t = encD (makeD s t) := by unfold makeB; rw [if_pos h0, makeX_enc]
     obtain ⟨R, hR1, hR2⟩ := insF_good (wd := s.width) (L := s.blocks) hz1 t.length [] t (Nat.le_refl _) (show (insOf s t).length ≤ 2048 by omega)
     have hins : insOf s t = R := by
      have : insOf s t = insF s.width s.size.toNat s.blocks t.length [] t := rfl
      rw [this, hR1]; rfl
     refine ⟨by rw [hins]; exact hR2, hM, ?_, by omega, by rw [hB, ← makeX_enc]; omega⟩
     rw [hB]
     exact decD_enc (makeD_ok hM (by omega) (by omega) (nought_ident _ _)) (by rw [← makeX_enc]; omega)
end Dlt
end Go.Proofs.YtmklodligplbaabGreat
