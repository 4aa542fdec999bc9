import Derived.Test.YtmklodligplbaaaGreatD8am
open Go.RowKit
set_option linter.unusedVariables false
set_option linter.unusedSimpArgs false
set_option maxRecDepth 100000
set_option maxHeartbeats 51200000
namespace Go.Proofs.YtmklodligplbaaaGreat
namespace Dlt
structure At (xs : List UInt8) (s : Rs) (ys zs : List UInt8) : Prop where
 e : s.e = 0
 a : s.at_ = ys.length
 x : xs = ys ++ zs
theorem At.start (xs : List UInt8) : At xs ⟨0, 0, 0⟩ [] xs := ⟨rfl, rfl, rfl⟩
theorem At.drop {xs : List UInt8} {s : Rs} {ys zs : List UInt8} (h : At xs s ys zs) : xs.drop s.at_ = zs := by rw [h.a, h.x]; simp
theorem At.len {xs : List UInt8} {s : Rs} {ys zs : List UInt8} (h : At xs s ys zs) : xs.length - s.at_ = zs.length := by rw [h.a, h.x]; simp
theorem num_bwd {xs : List UInt8} {s : Rs} {ys zs : List UInt8} (h : At xs s ys zs) (he : (stNumber xs s).2.e = 0) :
  ∃ (v : Nat) (zs' : List UInt8), (stNumber xs s).1 = v ∧ v <= 2147483647 ∧ zs = Pure.enc v ++ zs' ∧ At xs (stNumber xs s).2 (ys ++ Pure.enc v) zs' := by
 unfold stNumber at he ⊢
 rw [if_pos h.e] at he ⊢
 rw [h.drop] at he ⊢
 rcases hn : Pure.num zs with ⟨v, k, c⟩
 rw [hn] at he
 simp only at he ⊢
 by_cases hc : c = 0
 ·subst hc
  obtain ⟨h1, h2, h3⟩ := Pure.num_enc hn
  have hl : (Pure.enc v).length = k := by rw [h1, List.length_take]; omega
  simp only [if_true]
  refine ⟨v, zs.drop k, rfl, h3, by rw [h1, List.take_append_drop], rfl, ?_, ?_⟩
  ·rw [h.a, List.length_append, hl]
  ·rw [h.x, List.append_assoc, h1, List.take_append_drop]
 ·rw [if_neg hc] at he
  simp only at he
  exact absurd (by simpa using he) hc
theorem num_bad {xs : List UInt8} {s : Rs} (he : s.e ≠ 0) : stNumber xs s = (0, s) := by unfold stNumber; rw [if_neg he]
theorem fix_bwd {xs : List UInt8} {s : Rs} {ys zs : List UInt8} {n : Nat} (h : At xs s ys zs) (h1 : 1 <= n) (h4 : n <= 4) (he : (stFixed xs s n).2.e = 0) :
  ∃ (v : Nat) (zs' : List UInt8), (stFixed xs s n).1 = v ∧ v < 256 ^ n ∧ zs = Pure.fix v n ++ zs' ∧ At xs (stFixed xs s n).2 (ys ++ Pure.fix v n) zs' := by
 unfold stFixed at he ⊢
 rw [if_pos h.e, if_neg (by omega)] at he ⊢
 have hl := h.len
 by_cases hs : ((xs.length - s.at_ : Nat) : Int) < (n : Int)
 ·rw [if_pos hs] at he; simp at he
 ·rw [if_neg hs] at he ⊢
  rw [Int.toNat_natCast, h.drop]
  have hn : n <= zs.length := by omega
  have hk : (zs.take n).length = n := by rw [List.length_take]; omega
  have hf := Pure.fix_be (zs.take n)
  rw [hk] at hf
  have hb := Pure.be_lt (zs.take n)
  rw [hk] at hb
  refine ⟨Pure.be (zs.take n), zs.drop n, rfl, hb, by rw [hf, List.take_append_drop], rfl, ?_, ?_⟩
  ·rw [h.a, List.length_append, Pure.fix_len]
  ·rw [h.x, List.append_assoc, hf, List.take_append_drop]
theorem fix_bad {xs : List UInt8} {s : Rs} (he : s.e ≠ 0) (n : Int) : stFixed xs s n = (0, s) := by unfold stFixed; rw [if_neg he]
theorem raw_bwd {xs : List UInt8} {s : Rs} {ys zs : List UInt8} {n : Nat} (h : At xs s ys zs) (he : (stRaw xs s n).2.e = 0) :
  ∃ zs', (stRaw xs s n).1.length = n ∧ zs = (stRaw xs s n).1 ++ zs' ∧ At xs (stRaw xs s n).2 (ys ++ (stRaw xs s n).1) zs' := by
 unfold stRaw at he ⊢
 rw [if_pos h.e, if_neg (by omega)] at he ⊢
 have hl := h.len
 by_cases hs : ((xs.length - s.at_ : Nat) : Int) < (n : Int)
 ·rw [if_pos hs] at he; simp at he
 ·rw [if_neg hs] at he ⊢
  rw [Int.toNat_natCast, h.drop]
  have hn : n <= zs.length := by omega
  refine ⟨zs.drop n, by rw [List.length_take]; omega, by rw [List.take_append_drop], rfl, ?_, ?_⟩
  ·show s.at_ + n = _
   rw [h.a, List.length_append, List.length_take, Nat.min_eq_left hn]
  ·rw [h.x, List.append_assoc, List.take_append_drop]
theorem raw_bad {xs : List UInt8} {s : Rs} (he : s.e ≠ 0) (n : Int) : stRaw xs s n = ([], s) := by unfold stRaw; rw [if_neg he]
theorem raw_len (xs : List UInt8) (s : Rs) (n : Nat) : (stRaw xs s n).1.length <= n := by
 unfold stRaw
 split
 ·split
  ·simp
  ·split
   ·simp
   ·rw [Int.toNat_natCast, List.length_take]; omega
 ·simp
theorem text_bwd {xs : List UInt8} {s : Rs} {ys zs : List UInt8} {m : Nat} (h : At xs s ys zs) (he : (stText xs s m).2.e = 0) :
  ∃ zs', (stText xs s m).1.length <= m ∧ (stText xs s m).1.length <= 2147483647 ∧ zs = (Pure.enc (stText xs s m).1.length ++ (stText xs s m).1) ++ zs' ∧ At xs (stText xs s m).2 (ys ++ (Pure.enc (stText xs s m).1.length ++ (stText xs s m).1)) zs' := by
 unfold stText at he ⊢
 rw [if_pos h.e, if_neg (by omega)] at he ⊢
 have hl := h.len
 rw [h.drop] at he ⊢
 rcases hn : Pure.num zs with ⟨v, k, c⟩
 rw [hn] at he
 simp only at he ⊢
 by_cases hc : c = 0
 ·subst hc
  simp only [if_true] at he ⊢
  by_cases h2 : (m : Int) < (v : Int)
  ·rw [if_pos h2] at he; simp at he
  ·rw [if_neg h2] at he ⊢
   by_cases h3 : xs.length - (s.at_ + k) < v
   ·rw [if_pos h3] at he; simp at he
   ·rw [if_neg h3] at he ⊢
    simp only
    obtain ⟨g1, g2, g3⟩ := Pure.num_enc hn
    have hlk : (Pure.enc v).length = k := by rw [g1, List.length_take]; omega
    have hd : (xs.drop (s.at_ + k)) = zs.drop k := by rw [<-List.drop_drop, h.drop]
    rw [hd]
    have hv : ((zs.drop k).take v).length = v := by rw [List.length_take, List.length_drop]; omega
    rw [hv]
    have ez : zs = Pure.enc v ++ (zs.drop k).take v ++ (zs.drop k).drop v := by rw [g1, List.append_assoc, List.take_append_drop, List.take_append_drop]
    refine ⟨(zs.drop k).drop v, by omega, g3, ez, rfl, ?_, ?_⟩
    ·rw [h.a]; simp only [List.length_append, hlk, hv]; omega
    ·rw [h.x]; conv => lhs; rw [ez]
     simp only [List.append_assoc]
 ·rw [if_neg hc] at he
  simp only at he
  exact absurd (by simpa using he) hc
theorem text_bad {xs : List UInt8} {s : Rs} (he : s.e ≠ 0) (m : Int) : stText xs s m = ([], s) := by unfold stText; rw [if_neg he]
def pad (l : List UInt8) : List UInt8 := l.take 32 ++ List.replicate (32 - l.length) 0
theorem pad_len (l : List UInt8) : (pad l).length = 32 := by simp [pad]; omega
theorem pad_take {l : List UInt8} {w : Nat} (h : l.length = w) (hw : w <= 32) : (pad l).take w = l := by
 unfold pad
 rw [List.take_of_length_le (show l.length <= 32 by omega), <-h, List.take_left]
theorem pad_nought {l : List UInt8} {w : Nat} (h : l.length = w) (hw : w <= 32) : nought w (pad l) = true := by
 unfold pad nought
 rw [List.take_of_length_le (show l.length <= 32 by omega), <-h, List.drop_left]
 simp
def endOk (xs : List UInt8) (s : Rs) : Bool := decide (stLeft xs s = 4) && decide ((stFixed xs s 4).1 = (Pure.sum (xs.take (xs.length - 4)) : Nat))
theorem endOk_e {xs : List UInt8} {s : Rs} (h : endOk xs s = true) : s.e = 0 := by
 simp only [endOk, Bool.and_eq_true, decide_eq_true_eq] at h
 unfold stLeft at h
 apply Classical.byContradiction
 intro he
 rw [if_neg he] at h
 omega
theorem end_bwd {xs : List UInt8} {s : Rs} {ys zs : List UInt8} (h : At xs s ys zs) (hk : endOk xs s = true) : xs = sealed ys := by
 simp only [endOk, Bool.and_eq_true, decide_eq_true_eq] at hk
 obtain ⟨h1, h2⟩ := hk
 have hl := h.len
 unfold stLeft at h1
 rw [if_pos h.e, hl] at h1
 have hz : zs.length = 4 := by omega
 have he : (stFixed xs s (4 : Nat)).2.e = 0 := by
  unfold stFixed
  rw [if_pos h.e, if_neg (by omega), if_neg (by omega)]
 obtain ⟨v, zs', hv, hv2, hz2, _⟩ := fix_bwd h (n := 4) (by omega) (by omega) he
 have hz3 : zs' = [] := by
  have := congrArg List.length hz2
  rw [List.length_append, Pure.fix_len, hz] at this
  exact List.length_eq_zero_iff.1 (by omega)
 have hx : xs.take (xs.length - 4) = ys := by rw [h.x, List.length_append, hz]; simp
 have : v = Pure.sum ys := by
  have h3 : ((stFixed xs s (4 : Nat)).1 : Int) = (Pure.sum ys : Nat) := by rw [<-hx]; exact h2
  rw [hv] at h3
  omega
 rw [h.x, hz2, hz3, this, List.append_nil]; rfl
def s1 (xs : List UInt8) : Rs := (stFixed xs ⟨0, 0, 0⟩ 1).2
def s2 (xs : List UInt8) : Rs := (stNumber xs (s1 xs)).2
def s3 (xs : List UInt8) : Rs := (stNumber xs (s2 xs)).2
def s4 (xs : List UInt8) : Rs := (stNumber xs (s3 xs)).2
def mk (xs : List UInt8) : Int := (stFixed xs ⟨0, 0, 0⟩ 1).1
def nW (xs : List UInt8) : Int := (stNumber xs (s1 xs)).1
def nZ (xs : List UInt8) : Int := (stNumber xs (s2 xs)).1
def nL (xs : List UInt8) : Int := (stNumber xs (s3 xs)).1
def sB (xs : List UInt8) : Rs := (stRaw xs (s4 xs) (nW xs)).2
def idB (xs : List UInt8) : List UInt8 := pad (stRaw xs (s4 xs) (nW xs)).1
end Dlt
end Go.Proofs.YtmklodligplbaaaGreat
