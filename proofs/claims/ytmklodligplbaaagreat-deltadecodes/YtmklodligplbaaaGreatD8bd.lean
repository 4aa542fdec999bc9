import Derived.Test.YtmklodligplbaaaGreatPure3d
namespace Go.Proofs.YtmklodligplbaaaGreat
namespace Dlt
structure At (xs : List UInt8) (s : Rs) (ys zs : List UInt8) : Prop where
 e : s.e = 0
 a : s.at_ = ys.length
 x : xs = ys ++ zs
theorem At.start (xs : List UInt8) : At xs ⟨0, 0, 0⟩ [] xs := ⟨rfl, rfl, rfl⟩
theorem At.drop {xs : List UInt8} {s : Rs} {ys zs : List UInt8} (h : At xs s ys zs) : xs.drop s.at_ = zs := by rw [h.a, h.x]; simp
theorem At.len {xs : List UInt8} {s : Rs} {ys zs : List UInt8} (h : At xs s ys zs) : xs.length - s.at_ = zs.length := by rw [h.a, h.x]; simp
theorem num_fwd {xs : List UInt8} {s : Rs} {ys zs : List UInt8} {v : Nat} (h : At xs s ys (Pure.enc v ++ zs)) (hv : v ≤ 2147483647) :
  stNumber xs s = ((v : Int), (stNumber xs s).2) ∧ At xs (stNumber xs s).2 (ys ++ Pure.enc v) zs := by
 have hn := Pure.num_back hv zs
 rw [← h.drop] at hn
 unfold stNumber
 rw [if_pos h.e]
 simp only [hn, if_true]
 exact ⟨trivial, rfl, by rw [h.a, List.length_append], by rw [h.x, List.append_assoc]⟩
theorem num_bwd {xs : List UInt8} {s : Rs} {ys zs : List UInt8} (h : At xs s ys zs) (he : (stNumber xs s).2.e = 0) :
  ∃ (v : Nat) (zs' : List UInt8), (stNumber xs s).1 = v ∧ v ≤ 2147483647 ∧ zs = Pure.enc v ++ zs' ∧ At xs (stNumber xs s).2 (ys ++ Pure.enc v) zs' := by
 unfold stNumber at he ⊢
 rw [if_pos h.e] at he ⊢
 rw [h.drop] at he ⊢
 rcases hn : Pure.num zs with ⟨v, k, c⟩
 rw [hn] at he
 simp only at he ⊢
 by_cases hc : c = 0
 ·subst hc
  obtain ⟨h1, h2, h3⟩ := Pure.num_enc hn
  have hl : (Pure.enc v).length = k := by rw [h1, List.length_take]; omega
  simp only [if_true]
  refine ⟨v, zs.drop k, rfl, h3, by rw [h1, List.take_append_drop], rfl, ?_, ?_⟩
  ·rw [h.a, List.length_append, hl]
  ·rw [h.x, List.append_assoc, h1, List.take_append_drop]
 ·rw [if_neg hc] at he
  simp only at he
  exact absurd (by simpa using he) hc
theorem num_bad {xs : List UInt8} {s : Rs} (he : s.e ≠ 0) : stNumber xs s = (0, s) := by unfold stNumber; rw [if_neg he]
theorem fix_fwd {xs : List UInt8} {s : Rs} {ys zs : List UInt8} {v n : Nat} (h : At xs s ys (Pure.fix v n ++ zs)) (hv : v < 256 ^ n) (h1 : 1 ≤ n) (h4 : n ≤ 4) :
  stFixed xs s n = ((v : Int), (stFixed xs s n).2) ∧ At xs (stFixed xs s n).2 (ys ++ Pure.fix v n) zs := by
 have hd := h.drop
 have hl := h.len
 rw [List.length_append, Pure.fix_len] at hl
 unfold stFixed
 rw [if_pos h.e, if_neg (by omega), if_neg (by omega), Int.toNat_natCast, hd]
 have e : (Pure.fix v n ++ zs).take n = Pure.fix v n := by
  conv => lhs; rw [show n = (Pure.fix v n).length by rw [Pure.fix_len]]
  rw [Pure.fix_len, List.take_append_of_le_length (by rw [Pure.fix_len]; exact Nat.le_refl _), List.take_of_length_le (by rw [Pure.fix_len]; exact Nat.le_refl _)]
 rw [e, Pure.be_fix, Nat.mod_eq_of_lt hv]
 exact ⟨rfl, rfl, by rw [h.a, List.length_append, Pure.fix_len], by rw [h.x, List.append_assoc]⟩
theorem fix_bwd {xs : List UInt8} {s : Rs} {ys zs : List UInt8} {n : Nat} (h : At xs s ys zs) (h1 : 1 ≤ n) (h4 : n ≤ 4) (he : (stFixed xs s n).2.e = 0) :
  ∃ (v : Nat) (zs' : List UInt8), (stFixed xs s n).1 = v ∧ v < 256 ^ n ∧ zs = Pure.fix v n ++ zs' ∧ At xs (stFixed xs s n).2 (ys ++ Pure.fix v n) zs' := by
 unfold stFixed at he ⊢
 rw [if_pos h.e, if_neg (by omega)] at he ⊢
 have hl := h.len
 by_cases hs : ((xs.length - s.at_ : Nat) : Int) < (n : Int)
 ·rw [if_pos hs] at he; simp at he
 ·rw [if_neg hs] at he ⊢
  rw [Int.toNat_natCast, h.drop]
  have hn : n ≤ zs.length := by omega
  have hk : (zs.take n).length = n := by rw [List.length_take]; omega
  have hf := Pure.fix_be (zs.take n)
  rw [hk] at hf
  have hb := Pure.be_lt (zs.take n)
  rw [hk] at hb
  refine ⟨Pure.be (zs.take n), zs.drop n, rfl, hb, by rw [hf, List.take_append_drop], rfl, ?_, ?_⟩
  ·rw [h.a, List.length_append, Pure.fix_len]
  ·rw [h.x, List.append_assoc, hf, List.take_append_drop]
theorem fix_bad {xs : List UInt8} {s : Rs} (he : s.e ≠ 0) (n : Int) : stFixed xs s n = (0, s) := by unfold stFixed; rw [if_neg he]
theorem raw_fwd {xs : List UInt8} {s : Rs} {ys zs rs : List UInt8} {n : Nat} (h : At xs s ys (rs ++ zs)) (hn : rs.length = n) :
  stRaw xs s n = (rs, (stRaw xs s n).2) ∧ At xs (stRaw xs s n).2 (ys ++ rs) zs := by
 have hd := h.drop
 have hl := h.len
 rw [List.length_append] at hl
 unfold stRaw
 rw [if_pos h.e, if_neg (by omega), if_neg (by omega), Int.toNat_natCast, hd]
 have e : (rs ++ zs).take n = rs := by rw [← hn]; simp
 rw [e]
 exact ⟨rfl, rfl, by rw [h.a, List.length_append, hn], by rw [h.x, List.append_assoc]⟩
theorem raw_bwd {xs : List UInt8} {s : Rs} {ys zs : List UInt8} {n : Nat} (h : At xs s ys zs) (he : (stRaw xs s n).2.e = 0) :
  ∃ zs', (stRaw xs s n).1.length = n ∧ zs = (stRaw xs s n).1 ++ zs' ∧ At xs (stRaw xs s n).2 (ys ++ (stRaw xs s n).1) zs' := by
 unfold stRaw at he ⊢
 rw [if_pos h.e, if_neg (by omega)] at he ⊢
 have hl := h.len
 by_cases hs : ((xs.length - s.at_ : Nat) : Int) < (n : Int)
 ·rw [if_pos hs] at he; simp at he
 ·rw [if_neg hs] at he ⊢
  rw [Int.toNat_natCast, h.drop]
  have hn : n ≤ zs.length := by omega
  refine ⟨zs.drop n, by rw [List.length_take]; omega, by rw [List.take_append_drop], rfl, ?_, ?_⟩
  ·show s.at_ + n = _
   rw [h.a, List.length_append, List.length_take, Nat.min_eq_left hn]
  ·rw [h.x, List.append_assoc, List.take_append_drop]
theorem raw_bad {xs : List UInt8} {s : Rs} (he : s.e ≠ 0) (n : Int) : stRaw xs s n = ([], s) := by unfold stRaw; rw [if_neg he]
theorem raw_len (xs : List UInt8) (s : Rs) (n : Nat) : (stRaw xs s n).1.length ≤ n := by
 unfold stRaw
 split
 ·split
  ·simp
  ·split
   ·simp
   ·rw [Int.toNat_natCast, List.length_take]; omega
 ·simp
theorem text_bwd {xs : List UInt8} {s : Rs} {ys zs : List UInt8} {m : Nat} (h : At xs s ys zs) (he : (stText xs s m).2.e = 0) :
  ∃ zs', (stText xs s m).1.length ≤ m ∧ (stText xs s m).1.length ≤ 2147483647 ∧ zs = (Pure.enc (stText xs s m).1.length ++ (stText xs s m).1) ++ zs' ∧ At xs (stText xs s m).2 (ys ++ (Pure.enc (stText xs s m).1.length ++ (stText xs s m).1)) zs' := by
 unfold stText at he ⊢
 rw [if_pos h.e, if_neg (by omega)] at he ⊢
 have hl := h.len
 rw [h.drop] at he ⊢
 rcases hn : Pure.num zs with ⟨v, k, c⟩
 rw [hn] at he
 simp only at he ⊢
 by_cases hc : c = 0
 ·subst hc
  simp only [if_true] at he ⊢
  by_cases h2 : (m : Int) < (v : Int)
  ·rw [if_pos h2] at he; simp at he
  ·rw [if_neg h2] at he ⊢
   by_cases h3 : xs.length - (s.at_ + k) < v
   ·rw [if_pos h3] at he; simp at he
   ·rw [if_neg h3] at he ⊢
    simp only
    obtain ⟨g1, g2, g3⟩ := Pure.num_enc hn
    have hlk : (Pure.enc v).length = k := by rw [g1, List.length_take]; omega
    have hd : (xs.drop (s.at_ + k)) = zs.drop k := by rw [← List.drop_drop, h.drop]
    rw [hd]
    have hv : ((zs.drop k).take v).length = v := by rw [List.length_take, List.length_drop]; omega
    rw [hv]
    have ez : zs = Pure.enc v ++ (zs.drop k).take v ++ (zs.drop k).drop v := by rw [g1, List.append_assoc, List.take_append_drop, List.take_append_drop]
    refine ⟨(zs.drop k).drop v, by omega, g3, ez, rfl, ?_, ?_⟩
    ·rw [h.a]; simp only [List.length_append, hlk, hv]; omega
    ·rw [h.x]; conv => lhs; rw [ez]
     simp only [List.append_assoc]
 ·rw [if_neg hc] at he
  simp only at he
  exact absurd (by simpa using he) hc
theorem text_bad {xs : List UInt8} {s : Rs} (he : s.e ≠ 0) (m : Int) : stText xs s m = ([], s) := by unfold stText; rw [if_neg he]
def pad (l : List UInt8) : List UInt8 := l.take 32 ++ List.replicate (32 - l.length) 0
theorem pad_len (l : List UInt8) : (pad l).length = 32 := by simp [pad]; omega
theorem pad_take {l : List UInt8} {w : Nat} (h : l.length = w) (hw : w ≤ 32) : (pad l).take w = l := by
 unfold pad
 rw [List.take_of_length_le (show l.length ≤ 32 by omega), ← h, List.take_left]
theorem pad_nought {l : List UInt8} {w : Nat} (h : l.length = w) (hw : w ≤ 32) : nought w (pad l) = true := by
 unfold pad nought
 rw [List.take_of_length_le (show l.length ≤ 32 by omega), ← h, List.drop_left]
 simp
theorem pad_of_nought {id : List UInt8} {w : Nat} (h : id.length = 32) (hn : nought w id = true) (hw : w ≤ 32) : pad (id.take w) = id := by
 unfold pad
 have h1 : (id.take w).length = w := by rw [List.length_take]; omega
 rw [List.take_of_length_le (by omega), h1]
 have h2 : id.drop w = List.replicate (32 - w) 0 := by
  rw [List.eq_replicate_iff]
  refine ⟨by rw [List.length_drop]; omega, fun b hb => ?_⟩
  have := List.all_eq_true.1 hn b hb
  simpa using this
 rw [← h2, List.take_append_drop]
theorem fixed_wf (xs : List UInt8) (s : Rs) : (Lit.int .i64 (stFixed xs s 4).1).wf = true := by
 have h : 0 ≤ (stFixed xs s 4).1 ∧ (stFixed xs s 4).1 < 4294967296 := by
  unfold stFixed
  split
  ·split
   ·simp
   ·split
    ·simp
    ·have h1 := Pure.be_lt ((xs.drop s.at_).take (Int.toNat 4))
     have h2 : ((xs.drop s.at_).take (Int.toNat 4)).length ≤ 4 := by rw [List.length_take]; exact Nat.min_le_left _ _
     have h3 : 256 ^ ((xs.drop s.at_).take (Int.toNat 4)).length ≤ 256 ^ 4 := Nat.pow_le_pow_right (by omega) h2
     simp only
     omega
  ·simp
 exact wf64 (by omega) (by omega)
def rdW (xs : List UInt8) (w : Int) (s : Rs) : Wk × Rs :=
 (⟨(stFixed xs s 4).1, pad (stRaw xs (stFixed xs s 4).2 w).1, pad_len _, fixed_wf _ _⟩, (stRaw xs (stFixed xs s 4).2 w).2)
def rdWs (xs : List UInt8) (w : Int) (s : Rs) : Nat → List Wk × Rs
 | 0 => ([], s)
 | k + 1 => ((rdWs xs w s k).1 ++ [(rdW xs w (rdWs xs w s k).2).1], (rdW xs w (rdWs xs w s k).2).2)
theorem rdWs_len (xs : List UInt8) (w : Int) (s : Rs) (k : Nat) : (rdWs xs w s k).1.length = k := by
 induction k with
 | zero => rfl
 | succ k ih => simp [rdWs, ih]
def endOk (xs : List UInt8) (s : Rs) : Bool := decide (stLeft xs s = 4) && decide ((stFixed xs s 4).1 = (Pure.sum (xs.take (xs.length - 4)) : Nat))
theorem rdW_bad {xs : List UInt8} {s : Rs} (he : s.e ≠ 0) (w : Int) : (rdW xs w s).2 = s := by
 show (stRaw xs (stFixed xs s 4).2 w).2 = s
 rw [fix_bad he, raw_bad he]
theorem rdWs_bad {xs : List UInt8} {s : Rs} (he : s.e ≠ 0) (w : Int) (k : Nat) : (rdWs xs w s k).2 = s := by
 induction k with
 | zero => rfl
 | succ k ih => simp only [rdWs]; rw [rdW_bad (by rw [ih]; exact he), ih]
theorem rdW_e {xs : List UInt8} {s : Rs} {w : Int} (h : (rdW xs w s).2.e = 0) : s.e = 0 := by
 apply Classical.byContradiction
 intro he
 rw [rdW_bad he] at h
 exact he h
theorem rdWs_e {xs : List UInt8} {s : Rs} {w : Int} {k : Nat} (h : (rdWs xs w s k).2.e = 0) : s.e = 0 := by
 apply Classical.byContradiction
 intro he
 rw [rdWs_bad he] at h
 exact he h
theorem endOk_e {xs : List UInt8} {s : Rs} (h : endOk xs s = true) : s.e = 0 := by
 simp only [endOk, Bool.and_eq_true, decide_eq_true_eq] at h
 unfold stLeft at h
 apply Classical.byContradiction
 intro he
 rw [if_neg he] at h
 omega
theorem end_bwd {xs : List UInt8} {s : Rs} {ys zs : List UInt8} (h : At xs s ys zs) (hk : endOk xs s = true) : xs = sealed ys := by
 simp only [endOk, Bool.and_eq_true, decide_eq_true_eq] at hk
 obtain ⟨h1, h2⟩ := hk
 have hl := h.len
 unfold stLeft at h1
 rw [if_pos h.e, hl] at h1
 have hz : zs.length = 4 := by omega
 have he : (stFixed xs s (4 : Nat)).2.e = 0 := by
  unfold stFixed
  rw [if_pos h.e, if_neg (by omega), if_neg (by omega)]
 obtain ⟨v, zs', hv, hv2, hz2, _⟩ := fix_bwd h (n := 4) (by omega) (by omega) he
 have hz3 : zs' = [] := by
  have := congrArg List.length hz2
  rw [List.length_append, Pure.fix_len, hz] at this
  exact List.length_eq_zero_iff.1 (by omega)
 have hx : xs.take (xs.length - 4) = ys := by rw [h.x, List.length_append, hz]; simp
 have : v = Pure.sum ys := by
  have h3 : ((stFixed xs s (4 : Nat)).1 : Int) = (Pure.sum ys : Nat) := by rw [← hx]; exact h2
  rw [hv] at h3
  omega
 rw [h.x, hz2, hz3, this, List.append_nil]; rfl
theorem end_fwd {xs : List UInt8} {s : Rs} {ys : List UInt8} (h : At xs s ys (Pure.fix (Pure.sum ys) 4)) : endOk xs s = true := by
 simp only [endOk, Bool.and_eq_true, decide_eq_true_eq]
 have hl := h.len
 rw [Pure.fix_len] at hl
 have hs : Pure.sum ys < 256 ^ 4 := by unfold Pure.sum; omega
 refine ⟨by unfold stLeft; rw [if_pos h.e, hl]; rfl, ?_⟩
 have h' : At xs s ys (Pure.fix (Pure.sum ys) 4 ++ []) := by rw [List.append_nil]; exact h
 have h1 := (fix_fwd h' hs (by omega) (by omega)).1
 have h2 : (stFixed xs s 4).1 = ((Pure.sum ys : Nat) : Int) := by
  have := congrArg Prod.fst h1
  exact this
 rw [h2]
 have hx : xs.take (xs.length - 4) = ys := by rw [h.x, List.length_append, Pure.fix_len]; simp
 rw [hx]
theorem rdW_fwd {xs : List UInt8} {s : Rs} {ys zs : List UInt8} {w : Nat} {k : Wk} (h : At xs s ys (encW w k ++ zs)) (hw : w ≤ 32) (h0 : 0 ≤ k.sum) (h1 : k.sum ≤ 4294967295) (hn : nought w k.id = true) :
  (rdW xs w s).1 = k ∧ At xs (rdW xs w s).2 (ys ++ encW w k) zs := by
 unfold encW at h
 rw [List.append_assoc] at h
 obtain ⟨e1, a1⟩ := fix_fwd h (by omega) (by omega) (by omega)
 have hl : (k.id.take w).length = w := by rw [List.length_take, k.hid]; omega
 obtain ⟨e2, a2⟩ := raw_fwd (n := w) a1 hl
 have f1 : (stFixed xs s 4).1 = k.sum := by
  have := congrArg Prod.fst e1
  have e : (stFixed xs s ((4 : Nat) : Int)).1 = ((k.sum.toNat : Nat) : Int) := this
  have e' : (stFixed xs s 4).1 = ((k.sum.toNat : Nat) : Int) := e
  rw [e']; omega
 refine ⟨Wk.ext' f1 ?_, ?_⟩
 ·show pad (stRaw xs (stFixed xs s 4).2 w).1 = k.id
  have e : (stRaw xs (stFixed xs s ((4 : Nat) : Int)).2 w).1 = k.id.take w := congrArg Prod.fst e2
  have e' : (stRaw xs (stFixed xs s 4).2 w).1 = k.id.take w := e
  rw [e']
  exact pad_of_nought k.hid hn hw
 ·unfold encW; rw [← List.append_assoc]; exact a2
theorem rdW_bwd {xs : List UInt8} {s : Rs} {ys zs : List UInt8} {w : Nat} (h : At xs s ys zs) (hw : w ≤ 32) (he : (rdW xs w s).2.e = 0) :
  ∃ zs', 0 ≤ (rdW xs w s).1.sum ∧ (rdW xs w s).1.sum ≤ 4294967295 ∧ nought w (rdW xs w s).1.id = true ∧ At xs (rdW xs w s).2 (ys ++ encW w (rdW xs w s).1) zs' := by
 have he1 : (stFixed xs s ((4 : Nat) : Int)).2.e = 0 := by
  apply Classical.byContradiction
  intro hc
  have : (rdW xs w s).2 = (stFixed xs s ((4 : Nat) : Int)).2 := by show (stRaw xs (stFixed xs s ((4 : Nat) : Int)).2 w).2 = _; rw [raw_bad hc]
  rw [this] at he; exact hc he
 obtain ⟨v, zs1, hv, hv2, hz1, a1⟩ := fix_bwd h (n := 4) (by omega) (by omega) he1
 obtain ⟨zs2, hl, hz2, a2⟩ := raw_bwd (n := w) a1 he
 have f1 : (rdW xs w s).1.sum = (v : Int) := hv
 have f2 : (rdW xs w s).1.id = pad (stRaw xs (stFixed xs s ((4 : Nat) : Int)).2 w).1 := rfl
 refine ⟨zs2, by rw [f1]; omega, by rw [f1]; have : v < 256 ^ 4 := hv2; omega, by rw [f2]; exact pad_nought hl hw, ?_⟩
 unfold encW
 rw [f1, f2, pad_take hl hw, Int.toNat_natCast, ← List.append_assoc]
 exact a2
theorem rdWs_fwd {xs : List UInt8} {w : Nat} (hw : w ≤ 32) (L : List Wk) (hL : ∀ k, k ∈ L → 0 ≤ k.sum ∧ k.sum ≤ 4294967295 ∧ nought w k.id = true) {s : Rs} {ys zs : List UInt8} (h : At xs s ys (L.flatMap (encW w) ++ zs)) :
  ∀ n, n ≤ L.length → (rdWs xs w s n).1 = L.take n ∧ At xs (rdWs xs w s n).2 (ys ++ (L.take n).flatMap (encW w)) ((L.drop n).flatMap (encW w) ++ zs)
 | 0, _ => by simp only [rdWs, List.take_zero, List.flatMap_nil, List.append_nil, List.drop_zero]; exact ⟨trivial, h⟩
 | n + 1, hn => by
  obtain ⟨h1, h2⟩ := rdWs_fwd hw L hL h n (by omega)
  have hd : L.drop n = L[n] :: L.drop (n + 1) := List.drop_eq_getElem_cons (by omega)
  rw [hd, List.flatMap_cons, List.append_assoc] at h2
  obtain ⟨k1, k2, k3⟩ := hL L[n] (List.getElem_mem _)
  obtain ⟨g1, g2⟩ := rdW_fwd h2 hw k1 k2 k3
  have ht : L.take (n + 1) = L.take n ++ [L[n]] := List.take_succ_eq_append_getElem (by omega)
  simp only [rdWs]
  refine ⟨by rw [h1, g1, ht], ?_⟩
  rw [ht, List.flatMap_append, ← List.append_assoc]
  simp only [List.flatMap_cons, List.flatMap_nil, List.append_nil]
  exact g2
theorem rdWs_bwd {xs : List UInt8} {w : Nat} (hw : w ≤ 32) {s : Rs} {ys zs : List UInt8} (h : At xs s ys zs) :
  ∀ n, (rdWs xs w s n).2.e = 0 → ∃ zs', (∀ k, k ∈ (rdWs xs w s n).1 → 0 ≤ k.sum ∧ k.sum ≤ 4294967295 ∧ nought w k.id = true) ∧ At xs (rdWs xs w s n).2 (ys ++ (rdWs xs w s n).1.flatMap (encW w)) zs'
 | 0, _ => ⟨zs, by simp [rdWs], by simp only [rdWs, List.flatMap_nil, List.append_nil]; exact h⟩
 | n + 1, he => by
  have he1 : (rdWs xs w s n).2.e = 0 := rdW_e (w := (w : Int)) he
  obtain ⟨zs1, h1, h2⟩ := rdWs_bwd hw h n he1
  obtain ⟨zs2, g1, g2, g3, g4⟩ := rdW_bwd h2 hw he
  refine ⟨zs2, ?_, ?_⟩
  ·intro k hk
   simp only [rdWs, List.mem_append, List.mem_singleton] at hk
   rcases hk with hk | rfl
   ·exact h1 k hk
   ·exact ⟨g1, g2, g3⟩
  ·simp only [rdWs, List.flatMap_append, List.flatMap_cons, List.flatMap_nil, List.append_nil]
   rw [← List.append_assoc]; exact g4
def s1 (xs : List UInt8) : Rs := (stFixed xs ⟨0, 0, 0⟩ 1).2
def s2 (xs : List UInt8) : Rs := (stNumber xs (s1 xs)).2
def s3 (xs : List UInt8) : Rs := (stNumber xs (s2 xs)).2
def s4 (xs : List UInt8) : Rs := (stNumber xs (s3 xs)).2
def mk (xs : List UInt8) : Int := (stFixed xs ⟨0, 0, 0⟩ 1).1
def nW (xs : List UInt8) : Int := (stNumber xs (s1 xs)).1
def nZ (xs : List UInt8) : Int := (stNumber xs (s2 xs)).1
def nL (xs : List UInt8) : Int := (stNumber xs (s3 xs)).1
def sB (xs : List UInt8) : Rs := (stRaw xs (s4 xs) (nW xs)).2
def idB (xs : List UInt8) : List UInt8 := pad (stRaw xs (s4 xs) (nW xs)).1
def cntS (xs : List UInt8) : Nat := (nL xs / nZ xs).toNat
def sigOf (xs : List UInt8) : Sig := ⟨nW xs, nZ xs, nL xs, idB xs, (rdWs xs (nW xs) (sB xs) (cntS xs)).1, pad_len _⟩
def decS (xs : List UInt8) : Option Sig :=
 if 131072 < xs.length then none
 else if mk xs ≠ 83 then none
 else if isW (nW xs) = false then none
 else if isZ (nZ xs) = false then none
 else if within (nL xs) 0 131072 = false then none
 else if 2048 < nL xs / nZ xs then none
 else if endOk xs (rdWs xs (nW xs) (sB xs) (cntS xs)).2 = false then none
 else some (sigOf xs)
theorem decS_some {xs : List UInt8} {s : Sig} (h : decS xs = some s) : May s ∧ xs = encS s := by
 unfold decS at h
 split at h; · cases h
 rename_i h1
 split at h; · cases h
 rename_i h2
 split at h; · cases h
 rename_i h3
 split at h; · cases h
 rename_i h4
 split at h; · cases h
 rename_i h5
 split at h; · cases h
 rename_i h6
 split at h; · cases h
 rename_i h7
 injection h with h
 subst h
 have h2 : mk xs = 83 := Classical.not_not.1 h2
 rw [Bool.not_eq_false] at h3 h4 h5 h7
 rw [isW, within_iff] at h3
 rw [isZ, within_iff] at h4
 rw [within_iff] at h5
 obtain ⟨W, hW⟩ := Int.eq_ofNat_of_zero_le (show 0 ≤ nW xs by omega)
 have eq := endOk_e h7
 have eB : (sB xs).e = 0 := rdWs_e eq
 have e4 : (s4 xs).e = 0 := by
  apply Classical.byContradiction; intro hc
  have : sB xs = s4 xs := by unfold sB; rw [raw_bad hc]
  rw [this] at eB; exact hc eB
 have e3 : (s3 xs).e = 0 := by
  apply Classical.byContradiction; intro hc
  have : s4 xs = s3 xs := by unfold s4; rw [num_bad hc]
  rw [this] at e4; exact hc e4
 have e2 : (s2 xs).e = 0 := by
  apply Classical.byContradiction; intro hc
  have : s3 xs = s2 xs := by unfold s3; rw [num_bad hc]
  rw [this] at e3; exact hc e3
 have e1 : (s1 xs).e = 0 := by
  apply Classical.byContradiction; intro hc
  have : s2 xs = s1 xs := by unfold s2; rw [num_bad hc]
  rw [this] at e2; exact hc e2
 obtain ⟨m, z1, hm, _, _, a1⟩ := fix_bwd (At.start xs) (n := 1) (by omega) (by omega) e1
 have hm2 : m = 83 := by
  have : mk xs = (m : Int) := hm
  omega
 subst hm2
 obtain ⟨w, z2, hw, hw2, _, a2⟩ := num_bwd (s := s1 xs) a1 e2
 obtain ⟨z, z3, hz, hz2, _, a3⟩ := num_bwd (s := s2 xs) a2 e3
 obtain ⟨l, z4, hl, hl2, _, a4⟩ := num_bwd (s := s3 xs) a3 e4
 have hw : nW xs = (w : Int) := hw
 have hz : nZ xs = (z : Int) := hz
 have hl : nL xs = (l : Int) := hl
 have hwn : w ≤ 32 := by omega
 have eB' : (stRaw xs (s4 xs) (w : Nat)).2.e = 0 := by rw [← hw]; exact eB
 obtain ⟨z5, hr, _, a5⟩ := raw_bwd (s := s4 xs) (n := w) a4 eB'
 have hq : (rdWs xs (w : Nat) (stRaw xs (s4 xs) (w : Nat)).2 (cntS xs)).2.e = 0 := by rw [← hw]; exact eq
 obtain ⟨z6, hk, a6⟩ := rdWs_bwd hwn a5 (cntS xs) hq
 have hend : endOk xs (rdWs xs (w : Nat) (stRaw xs (s4 xs) (w : Nat)).2 (cntS xs)).2 = true := by rw [← hw]; exact h7
 have hx := end_bwd a6 hend
 have hb1 : (sigOf xs).blocks = (rdWs xs (w : Nat) (stRaw xs (s4 xs) (w : Nat)).2 (cntS xs)).1 := by
  show (rdWs xs (nW xs) (sB xs) (cntS xs)).1 = _
  rw [sB, hw]
 have hb2 : (sigOf xs).base = pad (stRaw xs (s4 xs) (w : Nat)).1 := by
  show idB xs = _
  rw [idB, hw]
 have hw3 : (sigOf xs).width.toNat = w := by show (nW xs).toNat = w; omega
 have hbody : bodyS (sigOf xs) = [] ++ Pure.fix 83 1 ++ Pure.enc w ++ Pure.enc z ++ Pure.enc l ++ (stRaw xs (s4 xs) (w : Nat)).1 ++ (rdWs xs (w : Nat) (stRaw xs (s4 xs) (w : Nat)).2 (cntS xs)).1.flatMap (encW w) := by
  unfold bodyS headS
  rw [hw3, hb1, hb2, pad_take hr hwn]
  have h1 : (sigOf xs).size.toNat = z := by show (nZ xs).toNat = z; omega
  have h2 : (sigOf xs).length.toNat = l := by show (nL xs).toNat = l; omega
  rw [h1, h2]
  rfl
 refine ⟨⟨h3.1, h3.2, h4.1, h4.2, h5.1, h5.2, ?_, ?_, ?_, ?_⟩, ?_⟩
 ·rw [hb1, rdWs_len]
  show ((cntS xs : Nat) : Int) = nL xs / nZ xs
  unfold cntS
  exact Int.toNat_of_nonneg (Int.ediv_nonneg h5.1 (by omega))
 ·rw [hb1, rdWs_len]
  unfold cntS
  omega
 ·rw [hb1, hw3]; exact hk
 ·rw [hb2, hw3]; exact pad_nought hr hwn
 ·rw [encS, hbody]; exact hx
theorem decS_enc {s : Sig} (h : May s) : decS (encS s) = some s := by
 obtain ⟨W, hW⟩ := Int.eq_ofNat_of_zero_le (show 0 ≤ s.width by have := h.w1; omega)
 obtain ⟨Z, hZ⟩ := Int.eq_ofNat_of_zero_le (show 0 ≤ s.size by have := h.z1; omega)
 obtain ⟨N, hN⟩ := Int.eq_ofNat_of_zero_le h.l1
 have hW2 : W ≤ 32 := by have := h.w2; omega
 have hl := encS_len h
 obtain ⟨xs, hxs⟩ : ∃ xs, encS s = xs := ⟨_, rfl⟩
 have hx : xs = [] ++ (Pure.fix 83 1 ++ (Pure.enc W ++ (Pure.enc Z ++ (Pure.enc N ++ (s.base.take W ++ (s.blocks.flatMap (encW W) ++ Pure.fix (Pure.sum (bodyS s)) 4)))))) := by
  rw [← hxs, encS, sealed]
  conv => lhs; arg 1; unfold bodyS headS
  rw [hW, hZ, hN]
  simp only [Int.toNat_natCast, List.append_assoc, List.nil_append]
  rfl
 have a0 : At xs ⟨0, 0, 0⟩ [] (Pure.fix 83 1 ++ (Pure.enc W ++ (Pure.enc Z ++ (Pure.enc N ++ (s.base.take W ++ (s.blocks.flatMap (encW W) ++ Pure.fix (Pure.sum (bodyS s)) 4)))))) := ⟨rfl, rfl, hx⟩
 obtain ⟨f1, a1⟩ := fix_fwd a0 (by omega) (by omega) (by omega)
 have g1 : mk xs = 83 := congrArg Prod.fst f1
 have a1 : At xs (s1 xs) ([] ++ Pure.fix 83 1) _ := a1
 obtain ⟨f2, a2⟩ := num_fwd a1 (by omega)
 have g2 : nW xs = (W : Int) := congrArg Prod.fst f2
 have a2 : At xs (s2 xs) _ _ := a2
 obtain ⟨f3, a3⟩ := num_fwd a2 (by have := h.z2; omega)
 have g3 : nZ xs = (Z : Int) := congrArg Prod.fst f3
 have a3 : At xs (s3 xs) _ _ := a3
 obtain ⟨f4, a4⟩ := num_fwd a3 (by have := h.l2; omega)
 have g4 : nL xs = (N : Int) := congrArg Prod.fst f4
 have a4 : At xs (s4 xs) _ _ := a4
 have hbl : (s.base.take W).length = W := by rw [List.length_take, s.hb]; omega
 obtain ⟨f5, a5⟩ := raw_fwd (n := W) a4 hbl
 have g5 : (stRaw xs (s4 xs) (nW xs)).1 = s.base.take W := by rw [g2]; exact congrArg Prod.fst f5
 have hsB : sB xs = (stRaw xs (s4 xs) (W : Nat)).2 := by unfold sB; rw [g2]
 rw [← hsB] at a5
 have hwt : s.width.toNat = W := by omega
 have hks := h.bks
 rw [hwt] at hks
 have hcnt : cntS xs = s.blocks.length := by
  unfold cntS
  rw [g3, g4, ← hZ, ← hN, ← h.cnt, Int.toNat_natCast]
 obtain ⟨r1, r2⟩ := rdWs_fwd hW2 s.blocks hks a5 (cntS xs) (by rw [hcnt]; exact Nat.le_refl _)
 rw [hcnt, List.take_of_length_le (Nat.le_refl _)] at r1 r2
 rw [List.drop_of_length_le (Nat.le_refl _), List.flatMap_nil] at r2
 simp only [List.nil_append] at r2
 rw [← hcnt] at r1 r2
 have hbody : bodyS s = Pure.fix 83 1 ++ Pure.enc W ++ Pure.enc Z ++ Pure.enc N ++ s.base.take W ++ s.blocks.flatMap (encW W) := by
  unfold bodyS headS
  rw [hW, hZ, hN]
  simp only [Int.toNat_natCast]
  rfl
 rw [← hbody] at r2
 have hend := end_fwd r2
 rw [hxs]
 rw [hxs] at hl
 unfold decS
 have i1 : isW (nW xs) = true := by rw [isW, within_iff, g2]; have := h.w1; have := h.w2; omega
 have i2 : isZ (nZ xs) = true := by rw [isZ, within_iff, g3]; have := h.z1; have := h.z2; omega
 have i3 : within (nL xs) 0 131072 = true := by rw [within_iff, g4]; have := h.l2; omega
 have i4 : ¬ 2048 < nL xs / nZ xs := by rw [g3, g4, ← hZ, ← hN, ← h.cnt]; have := h.few; omega
 rw [if_neg (by omega), if_neg (by rw [g1]; simp), i1, i2, i3, if_neg (by simp), if_neg (by simp), if_neg (by simp), if_neg i4, g2, hend, if_neg (by simp)]
 congr 1
 refine Sig.ext' (by show nW xs = _; rw [g2, hW]) (by show nZ xs = _; rw [g3, hZ]) (by show nL xs = _; rw [g4, hN]) ?_ ?_
 ·show pad (stRaw xs (s4 xs) (nW xs)).1 = s.base
  have := h.bas
  rw [hwt] at this
  rw [g5]; exact pad_of_nought s.hb this hW2
 ·show (rdWs xs (nW xs) (sB xs) (cntS xs)).1 = s.blocks
  rw [g2]; exact r1
end Dlt
end Go.Proofs.YtmklodligplbaaaGreat
