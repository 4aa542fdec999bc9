import Derived.Test.YtmklodligplbaabGreatD8go
import Derived.Defers
import Derived.Recover
import Derived.Laws.Pointers
open Go.RowKit
set_option linter.unusedVariables false
set_option linter.unusedSimpArgs false
set_option maxRecDepth 100000
set_option maxHeartbeats 0
namespace Go.Proofs.YtmklodligplbaabGreat
section
namespace Dlt
structure At (xs : List UInt8) (s : Rs) (ys zs : List UInt8) : Prop where
 e : s.e = 0
 a : s.at_ = ys.length
 x : xs = ys ++ zs
theorem At.start (xs : List UInt8) : At xs ⟨0, 0, 0⟩ [] xs := ⟨rfl, rfl, rfl⟩
theorem At.drop {xs : List UInt8} {s : Rs} {ys zs : List UInt8} (h : At xs s ys zs) : xs.drop s.at_ = zs := by rw [h.a, h.x]; simp
theorem At.len {xs : List UInt8} {s : Rs} {ys zs : List UInt8} (h : At xs s ys zs) : xs.length - s.at_ = zs.length := by rw [h.a, h.x]; simp
theorem num_fwd {xs : List UInt8} {s : Rs} {ys zs : List UInt8} {v : Nat} (h : At xs s ys (Pure.enc v ++ zs)) (hv : v <= 2147483647) :
  stNumber xs s = ((v : Int), (stNumber xs s).2) ∧ At xs (stNumber xs s).2 (ys ++ Pure.enc v) zs := by
 have hn := Pure.num_back hv zs
 rw [<-h.drop] at hn
 unfold stNumber
 rw [if_pos h.e]
 simp only [hn, if_true]
 exact ⟨trivial, rfl, by rw [h.a, List.length_append], by rw [h.x, List.append_assoc]⟩
theorem num_bwd {xs : List UInt8} {s : Rs} {ys zs : List UInt8} (h : At xs s ys zs) (he : (stNumber xs s).2.e = 0) :
  ∃ (v : Nat) (zs' : List UInt8), (stNumber xs s).1 = v ∧ v <= 2147483647 ∧ zs = Pure.enc v ++ zs' ∧ At xs (stNumber xs s).2 (ys ++ Pure.enc v) zs' := by
 unfold stNumber at he ⊢
 rw [if_pos h.e] at he ⊢
 rw [h.drop] at he ⊢
 rcases hn : Pure.num zs with ⟨v, k, c⟩
 rw [hn] at he
 simp only at he ⊢
 by_cases hc : c = 0
 ·subst hc
  obtain ⟨h1, h2, h3⟩ := Pure.num_enc hn
  have hl : (Pure.enc v).length = k := by rw [h1, List.length_take]; omega
  simp only [if_true]
  refine ⟨v, zs.drop k, rfl, h3, by rw [h1, List.take_append_drop], rfl, ?_, ?_⟩
  ·rw [h.a, List.length_append, hl]
  ·rw [h.x, List.append_assoc, h1, List.take_append_drop]
 ·rw [if_neg hc] at he
  simp only at he
  exact absurd (by simpa using he) hc
theorem num_bad {xs : List UInt8} {s : Rs} (he : s.e ≠ 0) : stNumber xs s = (0, s) := by unfold stNumber; rw [if_neg he]
theorem fix_fwd {xs : List UInt8} {s : Rs} {ys zs : List UInt8} {v n : Nat} (h : At xs s ys (Pure.fix v n ++ zs)) (hv : v < 256 ^ n) (h1 : 1 <= n) (h4 : n <= 4) :
  stFixed xs s n = ((v : Int), (stFixed xs s n).2) ∧ At xs (stFixed xs s n).2 (ys ++ Pure.fix v n) zs := by
 have hd := h.drop
 have hl := h.len
 rw [List.length_append, Pure.fix_len] at hl
 unfold stFixed
 rw [if_pos h.e, if_neg (by omega), if_neg (by omega), Int.toNat_natCast, hd]
 have e : (Pure.fix v n ++ zs).take n = Pure.fix v n := by
  conv => lhs; rw [show n = (Pure.fix v n).length by rw [Pure.fix_len]]
  rw [Pure.fix_len, List.take_append_of_le_length (by rw [Pure.fix_len]; exact Nat.le_refl _), List.take_of_length_le (by rw [Pure.fix_len]; exact Nat.le_refl _)]
 rw [e, Pure.be_fix, Nat.mod_eq_of_lt hv]
 exact ⟨rfl, rfl, by rw [h.a, List.length_append, Pure.fix_len], by rw [h.x, List.append_assoc]⟩
theorem fix_bwd {xs : List UInt8} {s : Rs} {ys zs : List UInt8} {n : Nat} (h : At xs s ys zs) (h1 : 1 <= n) (h4 : n <= 4) (he : (stFixed xs s n).2.e = 0) :
  ∃ (v : Nat) (zs' : List UInt8), (stFixed xs s n).1 = v ∧ v < 256 ^ n ∧ zs = Pure.fix v n ++ zs' ∧ At xs (stFixed xs s n).2 (ys ++ Pure.fix v n) zs' := by
 unfold stFixed at he ⊢
 rw [if_pos h.e, if_neg (by omega)] at he ⊢
 have hl := h.len
 by_cases hs : ((xs.length - s.at_ : Nat) : Int) < (n : Int)
 ·rw [if_pos hs] at he; simp at he
 ·rw [if_neg hs] at he ⊢
  rw [Int.toNat_natCast, h.drop]
  have hn : n <= zs.length := by omega
  have hk : (zs.take n).length = n := by rw [List.length_take]; omega
  have hf := Pure.fix_be (zs.take n)
  rw [hk] at hf
  have hb := Pure.be_lt (zs.take n)
  rw [hk] at hb
  refine ⟨Pure.be (zs.take n), zs.drop n, rfl, hb, by rw [hf, List.take_append_drop], rfl, ?_, ?_⟩
  ·rw [h.a, List.length_append, Pure.fix_len]
  ·rw [h.x, List.append_assoc, hf, List.take_append_drop]
theorem fix_bad {xs : List UInt8} {s : Rs} (he : s.e ≠ 0) (n : Int) : stFixed xs s n = (0, s) := by unfold stFixed; rw [if_neg he]
theorem raw_fwd {xs : List UInt8} {s : Rs} {ys zs rs : List UInt8} {n : Nat} (h : At xs s ys (rs ++ zs)) (hn : rs.length = n) :
  stRaw xs s n = (rs, (stRaw xs s n).2) ∧ At xs (stRaw xs s n).2 (ys ++ rs) zs := by
 have hd := h.drop
 have hl := h.len
 rw [List.length_append] at hl
 unfold stRaw
 rw [if_pos h.e, if_neg (by omega), if_neg (by omega), Int.toNat_natCast, hd]
 have e : (rs ++ zs).take n = rs := by rw [<-hn]; simp
 rw [e]
 exact ⟨rfl, rfl, by rw [h.a, List.length_append, hn], by rw [h.x, List.append_assoc]⟩
theorem raw_bwd {xs : List UInt8} {s : Rs} {ys zs : List UInt8} {n : Nat} (h : At xs s ys zs) (he : (stRaw xs s n).2.e = 0) :
  ∃ zs', (stRaw xs s n).1.length = n ∧ zs = (stRaw xs s n).1 ++ zs' ∧ At xs (stRaw xs s n).2 (ys ++ (stRaw xs s n).1) zs' := by
 unfold stRaw at he ⊢
 rw [if_pos h.e, if_neg (by omega)] at he ⊢
 have hl := h.len
 by_cases hs : ((xs.length - s.at_ : Nat) : Int) < (n : Int)
 ·rw [if_pos hs] at he; simp at he
 ·rw [if_neg hs] at he ⊢
  rw [Int.toNat_natCast, h.drop]
  have hn : n <= zs.length := by omega
  refine ⟨zs.drop n, by rw [List.length_take]; omega, by rw [List.take_append_drop], rfl, ?_, ?_⟩
  ·show s.at_ + n = _
   rw [h.a, List.length_append, List.length_take, Nat.min_eq_left hn]
  ·rw [h.x, List.append_assoc, List.take_append_drop]
theorem raw_bad {xs : List UInt8} {s : Rs} (he : s.e ≠ 0) (n : Int) : stRaw xs s n = ([], s) := by unfold stRaw; rw [if_neg he]
theorem raw_len (xs : List UInt8) (s : Rs) (n : Nat) : (stRaw xs s n).1.length <= n := by
 unfold stRaw
 split
 ·split
  ·simp
  ·split
   ·simp
   ·rw [Int.toNat_natCast, List.length_take]; omega
 ·simp
theorem text_fwd {xs : List UInt8} {s : Rs} {ys zs rs : List UInt8} {m : Nat} (h : At xs s ys (Pure.enc rs.length ++ rs ++ zs)) (hn : rs.length <= m) (hm : rs.length <= 2147483647) :
  stText xs s m = (rs, (stText xs s m).2) ∧ At xs (stText xs s m).2 (ys ++ (Pure.enc rs.length ++ rs)) zs := by
 have hd := h.drop
 have hl := h.len
 have hb := Pure.num_back hm (rs ++ zs)
 rw [<-List.append_assoc, <-hd] at hb
 rw [List.length_append, List.length_append] at hl
 unfold stText
 rw [if_pos h.e, if_neg (by omega)]
 simp only [hb, if_true]
 rw [if_neg (by omega), if_neg (by omega)]
 have e : (xs.drop (s.at_ + (Pure.enc rs.length).length)).take rs.length = rs := by
  rw [<-List.drop_drop, hd, List.append_assoc, List.drop_left, List.take_left]
 rw [e]
 exact ⟨rfl, rfl, by rw [h.a]; simp only [List.length_append]; omega, by rw [h.x]; simp only [List.append_assoc]⟩
theorem text_bwd {xs : List UInt8} {s : Rs} {ys zs : List UInt8} {m : Nat} (h : At xs s ys zs) (he : (stText xs s m).2.e = 0) :
  ∃ zs', (stText xs s m).1.length <= m ∧ (stText xs s m).1.length <= 2147483647 ∧ zs = (Pure.enc (stText xs s m).1.length ++ (stText xs s m).1) ++ zs' ∧ At xs (stText xs s m).2 (ys ++ (Pure.enc (stText xs s m).1.length ++ (stText xs s m).1)) zs' := by
 unfold stText at he ⊢
 rw [if_pos h.e, if_neg (by omega)] at he ⊢
 have hl := h.len
 rw [h.drop] at he ⊢
 rcases hn : Pure.num zs with ⟨v, k, c⟩
 rw [hn] at he
 simp only at he ⊢
 by_cases hc : c = 0
 ·subst hc
  simp only [if_true] at he ⊢
  by_cases h2 : (m : Int) < (v : Int)
  ·rw [if_pos h2] at he; simp at he
  ·rw [if_neg h2] at he ⊢
   by_cases h3 : xs.length - (s.at_ + k) < v
   ·rw [if_pos h3] at he; simp at he
   ·rw [if_neg h3] at he ⊢
    simp only
    obtain ⟨g1, g2, g3⟩ := Pure.num_enc hn
    have hlk : (Pure.enc v).length = k := by rw [g1, List.length_take]; omega
    have hd : (xs.drop (s.at_ + k)) = zs.drop k := by rw [<-List.drop_drop, h.drop]
    rw [hd]
    have hv : ((zs.drop k).take v).length = v := by rw [List.length_take, List.length_drop]; omega
    rw [hv]
    have ez : zs = Pure.enc v ++ (zs.drop k).take v ++ (zs.drop k).drop v := by rw [g1, List.append_assoc, List.take_append_drop, List.take_append_drop]
    refine ⟨(zs.drop k).drop v, by omega, g3, ez, rfl, ?_, ?_⟩
    ·rw [h.a]; simp only [List.length_append, hlk, hv]; omega
    ·rw [h.x]; conv => lhs; rw [ez]
     simp only [List.append_assoc]
 ·rw [if_neg hc] at he
  simp only at he
  exact absurd (by simpa using he) hc
theorem text_bad {xs : List UInt8} {s : Rs} (he : s.e ≠ 0) (m : Int) : stText xs s m = ([], s) := by unfold stText; rw [if_neg he]
def pad (l : List UInt8) : List UInt8 := l.take 32 ++ List.replicate (32 - l.length) 0
theorem pad_len (l : List UInt8) : (pad l).length = 32 := by simp [pad]; omega
theorem pad_take {l : List UInt8} {w : Nat} (h : l.length = w) (hw : w <= 32) : (pad l).take w = l := by
 unfold pad
 rw [List.take_of_length_le (show l.length <= 32 by omega), <-h, List.take_left]
theorem pad_nought {l : List UInt8} {w : Nat} (h : l.length = w) (hw : w <= 32) : nought w (pad l) = true := by
 unfold pad nought
 rw [List.take_of_length_le (show l.length <= 32 by omega), <-h, List.drop_left]
 simp
theorem pad_of_nought {id : List UInt8} {w : Nat} (h : id.length = 32) (hn : nought w id = true) (hw : w <= 32) : pad (id.take w) = id := by
 unfold pad
 have h1 : (id.take w).length = w := by rw [List.length_take]; omega
 rw [List.take_of_length_le (by omega), h1]
 have h2 : id.drop w = List.replicate (32 - w) 0 := by
  rw [List.eq_replicate_iff]
  refine ⟨by rw [List.length_drop]; omega, fun b hb => ?_⟩
  have := List.all_eq_true.1 hn b hb
  simpa using this
 rw [<-h2, List.take_append_drop]
def endOk (xs : List UInt8) (s : Rs) : Bool := decide (stLeft xs s = 4) && decide ((stFixed xs s 4).1 = (Pure.sum (xs.take (xs.length - 4)) : Nat))
theorem endOk_e {xs : List UInt8} {s : Rs} (h : endOk xs s = true) : s.e = 0 := by
 simp only [endOk, Bool.and_eq_true, decide_eq_true_eq] at h
 unfold stLeft at h
 apply Classical.byContradiction
 intro he
 rw [if_neg he] at h
 omega
theorem end_bwd {xs : List UInt8} {s : Rs} {ys zs : List UInt8} (h : At xs s ys zs) (hk : endOk xs s = true) : xs = sealed ys := by
 simp only [endOk, Bool.and_eq_true, decide_eq_true_eq] at hk
 obtain ⟨h1, h2⟩ := hk
 have hl := h.len
 unfold stLeft at h1
 rw [if_pos h.e, hl] at h1
 have hz : zs.length = 4 := by omega
 have he : (stFixed xs s (4 : Nat)).2.e = 0 := by
  unfold stFixed
  rw [if_pos h.e, if_neg (by omega), if_neg (by omega)]
 obtain ⟨v, zs', hv, hv2, hz2, _⟩ := fix_bwd h (n := 4) (by omega) (by omega) he
 have hz3 : zs' = [] := by
  have := congrArg List.length hz2
  rw [List.length_append, Pure.fix_len, hz] at this
  exact List.length_eq_zero_iff.1 (by omega)
 have hx : xs.take (xs.length - 4) = ys := by rw [h.x, List.length_append, hz]; simp
 have : v = Pure.sum ys := by
  have h3 : ((stFixed xs s (4 : Nat)).1 : Int) = (Pure.sum ys : Nat) := by rw [<-hx]; exact h2
  rw [hv] at h3
  omega
 rw [h.x, hz2, hz3, this, List.append_nil]; rfl
theorem end_fwd {xs : List UInt8} {s : Rs} {ys : List UInt8} (h : At xs s ys (Pure.fix (Pure.sum ys) 4)) : endOk xs s = true := by
 simp only [endOk, Bool.and_eq_true, decide_eq_true_eq]
 have hl := h.len
 rw [Pure.fix_len] at hl
 have hs : Pure.sum ys < 256 ^ 4 := by unfold Pure.sum; omega
 refine ⟨by unfold stLeft; rw [if_pos h.e, hl]; rfl, ?_⟩
 have h' : At xs s ys (Pure.fix (Pure.sum ys) 4 ++ []) := by rw [List.append_nil]; exact h
 have h1 := (fix_fwd h' hs (by omega) (by omega)).1
 have h2 : (stFixed xs s 4).1 = ((Pure.sum ys : Nat) : Int) := by
  have := congrArg Prod.fst h1
  exact this
 rw [h2]
 have hx : xs.take (xs.length - 4) = ys := by rw [h.x, List.length_append, Pure.fix_len]; simp
 rw [hx]
def s1 (xs : List UInt8) : Rs := (stFixed xs ⟨0, 0, 0⟩ 1).2
def s2 (xs : List UInt8) : Rs := (stNumber xs (s1 xs)).2
def s3 (xs : List UInt8) : Rs := (stNumber xs (s2 xs)).2
def s4 (xs : List UInt8) : Rs := (stNumber xs (s3 xs)).2
def mk (xs : List UInt8) : Int := (stFixed xs ⟨0, 0, 0⟩ 1).1
def nW (xs : List UInt8) : Int := (stNumber xs (s1 xs)).1
def nZ (xs : List UInt8) : Int := (stNumber xs (s2 xs)).1
def nL (xs : List UInt8) : Int := (stNumber xs (s3 xs)).1
def sB (xs : List UInt8) : Rs := (stRaw xs (s4 xs) (nW xs)).2
def idB (xs : List UInt8) : List UInt8 := pad (stRaw xs (s4 xs) (nW xs)).1
end Dlt
end

section
namespace Dlt
inductive Stp where
 | copy (first count : Nat)
 | lit (bs : List UInt8)
def Stp.len (z : Nat) : Stp -> Nat
 | .copy _ c => c * z
 | .lit bs => bs.length
def encI : Stp -> List UInt8
 | .copy f c => Pure.fix 1 1 ++ (Pure.enc f ++ Pure.enc c)
 | .lit bs => Pure.fix 2 1 ++ (Pure.enc bs.length ++ bs)
def total (z : Nat) (L : List Stp) : Nat := (L.map (Stp.len z)).sum
theorem total_snoc (z : Nat) (L : List Stp) (i : Stp) : total z (L ++ [i]) = total z L + i.len z := by simp [total]
structure Dta where
 width : Nat
 size : Nat
 blen : Nat
 bid : List UInt8
 tlen : Nat
 tid : List UInt8
 steps : List Stp
 hb : bid.length = 32
 ht : tid.length = 32
theorem Dta.ext' {a b : Dta} (h1 : a.width = b.width) (h2 : a.size = b.size) (h3 : a.blen = b.blen) (h4 : a.bid = b.bid) (h5 : a.tlen = b.tlen) (h6 : a.tid = b.tid) (h7 : a.steps = b.steps) : a = b := by
 cases a; cases b; simp only at h1 h2 h3 h4 h5 h6 h7; subst h1; subst h2; subst h3; subst h4; subst h5; subst h6; subst h7; rfl
def headD (d : Dta) : List UInt8 :=
 Pure.fix 68 1 ++ (Pure.enc d.width ++ (Pure.enc d.size ++ (Pure.enc d.blen ++ (d.bid.take d.width ++ (Pure.enc d.tlen ++ (d.tid.take d.width ++ Pure.enc d.steps.length))))))
def bodyD (d : Dta) : List UInt8 := headD d ++ d.steps.flatMap encI
def encD (d : Dta) : List UInt8 := sealed (bodyD d)
def okI (n : Nat) : Stp -> Prop
 | .copy f c => 1 <= c ∧ f + c <= n
 | .lit bs => bs ≠ [] ∧ bs.length <= 131072
structure OkD (d : Dta) : Prop where
 w1 : 1 <= d.width
 w2 : d.width <= 32
 z1 : 16 <= d.size
 z2 : d.size <= 4096
 b2 : d.blen <= 131072
 t2 : d.tlen <= 131072
 nb : nought d.width d.bid = true
 nt : nought d.width d.tid = true
 few : d.steps.length <= 2048
 ins : ∀ i, i ∈ d.steps -> okI (d.blen / d.size) i
 sum : total d.size d.steps = d.tlen
def rdI (xs : List UInt8) (n : Nat) (s : Rs) : Option (Stp × Rs) :=
 if (stFixed xs s 1).1 = 1 then
  if within (stNumber xs (stFixed xs s 1).2).1 0 n = false then none
  else if within (stNumber xs (stNumber xs (stFixed xs s 1).2).2).1 1 ((n : Int) - (stNumber xs (stFixed xs s 1).2).1) = false then none
  else some (.copy (stNumber xs (stFixed xs s 1).2).1.toNat (stNumber xs (stNumber xs (stFixed xs s 1).2).2).1.toNat, (stNumber xs (stNumber xs (stFixed xs s 1).2).2).2)
 else if (stFixed xs s 1).1 = 2 then
  if (stText xs (stFixed xs s 1).2 131072).1 = [] then none
  else some (.lit (stText xs (stFixed xs s 1).2 131072).1, (stText xs (stFixed xs s 1).2 131072).2)
 else none
def rdIs (xs : List UInt8) (n : Nat) (s : Rs) : Nat -> Option (List Stp × Rs)
 | 0 => some ([], s)
 | k + 1 => (rdIs xs n s k).bind fun p => (rdI xs n p.2).map fun q => (p.1 ++ [q.1], q.2)
theorem rdIs_len {xs : List UInt8} {n : Nat} {s : Rs} : ∀ {k : Nat} {p : List Stp × Rs}, rdIs xs n s k = some p -> p.1.length = k
 | 0, p, h => by cases h; rfl
 | k + 1, p, h => by
  simp only [rdIs] at h
  cases hr : rdIs xs n s k with
  | none => rw [hr] at h; cases h
  | some q =>
   rw [hr, Option.bind_some] at h
   cases hi : rdI xs n q.2 with
   | none => rw [hi] at h; cases h
   | some r =>
    rw [hi, Option.map_some] at h
    injection h with h; subst h
    simp [rdIs_len hr]
theorem fix1_lt {xs : List UInt8} {s : Rs} {v : Int} (h : (stFixed xs s 1).1 = v) (hv : v ≠ 0) : s.e = 0 ∧ (stFixed xs s 1).2.e = 0 := by
 constructor
 ·apply Classical.byContradiction; intro he
  rw [fix_bad he] at h
  exact hv h.symm
 ·apply Classical.byContradiction; intro he
  apply hv
  rw [<-h]
  unfold stFixed at he ⊢
  split at he
  ·split at he
   ·rw [if_pos (by assumption), if_pos (by assumption)]
   ·split at he
    ·rw [if_pos (by assumption), if_neg (by assumption), if_pos (by assumption)]
    ·exact absurd rfl he
  ·rename_i hs
   rw [if_neg hs]
theorem num_e {xs : List UInt8} {s : Rs} (h : (stNumber xs s).1 ≠ 0) : (stNumber xs s).2.e = 0 := by
 apply Classical.byContradiction; intro he
 apply h
 unfold stNumber at he ⊢
 split at he
 ·split at he
  ·exact absurd rfl he
  ·rw [if_pos (by assumption), if_neg (by assumption)]
 ·rename_i hs
  rw [if_neg hs]
theorem num_e0 {xs : List UInt8} {s : Rs} (h : (stNumber xs s).2.e = 0) : s.e = 0 := by
 apply Classical.byContradiction; intro he
 rw [num_bad he] at h; exact he h
theorem raw_e0 {xs : List UInt8} {s : Rs} {n : Int} (h : (stRaw xs s n).2.e = 0) : s.e = 0 := by
 apply Classical.byContradiction; intro he
 rw [raw_bad he] at h; exact he h
theorem text_e {xs : List UInt8} {s : Rs} {m : Int} (h : (stText xs s m).1 ≠ []) : (stText xs s m).2.e = 0 := by
 apply Classical.byContradiction; intro he
 apply h
 unfold stText at he ⊢
 split at he
 ·split at he
  ·rw [if_pos (by assumption), if_pos (by assumption)]
  ·split at he
   ·split at he
    ·rw [if_pos (by assumption), if_neg (by assumption), if_pos (by assumption), if_pos (by assumption)]
    ·split at he
     ·rw [if_pos (by assumption), if_neg (by assumption), if_pos (by assumption), if_neg (by assumption), if_pos (by assumption)]
     ·exact absurd rfl he
   ·rw [if_pos (by assumption), if_neg (by assumption), if_neg (by assumption)]
 ·rename_i hs
  rw [if_neg hs]
theorem rdI_bwd {xs : List UInt8} {n : Nat} {s : Rs} {ys zs : List UInt8} (h : At xs s ys zs) {i : Stp} {s' : Rs} (hr : rdI xs n s = some (i, s')) :
  okI n i ∧ ∃ zs', At xs s' (ys ++ encI i) zs' := by
 unfold rdI at hr
 split at hr
 ·rename_i hk
  split at hr
  ·cases hr
  ·rename_i hf
   split at hr
   ·cases hr
   ·rename_i hc
    rw [Bool.not_eq_false, within_iff] at hf hc
    injection hr with hr; injection hr with h1 h2; subst h1; subst h2
    obtain ⟨m, z1, hm, _, _, a1⟩ := fix_bwd h (n := 1) (by omega) (by omega) (fix1_lt hk (by omega)).2
    have hm1 : m = 1 := by
     have : (stFixed xs s 1).1 = (m : Int) := hm
     omega
    subst hm1
    have e3 := num_e (xs := xs) (s := (stNumber xs (stFixed xs s 1).2).2) (by omega)
    have e2 := num_e0 e3
    obtain ⟨f, z2, hf1, hf2, _, a2⟩ := num_bwd a1 e2
    obtain ⟨c, z3, hc1, hc2, _, a3⟩ := num_bwd a2 e3
    have hf1 : (stNumber xs (stFixed xs s 1).2).1 = (f : Int) := hf1
    have hc1 : (stNumber xs (stNumber xs (stFixed xs s 1).2).2).1 = (c : Int) := hc1
    rw [hf1] at hf hc
    rw [hc1] at hc
    refine ⟨?_, z3, ?_⟩
    ·show 1 <= _ ∧ _ <= n
     rw [hf1, hc1, Int.toNat_natCast, Int.toNat_natCast]
     omega
    ·rw [encI, hf1, hc1, Int.toNat_natCast, Int.toNat_natCast]
     rw [<-List.append_assoc, <-List.append_assoc]
     exact a3
 ·split at hr
  ·rename_i hk
   split at hr
   ·cases hr
   ·rename_i ht
    injection hr with hr; injection hr with h1 h2; subst h1; subst h2
    obtain ⟨m, z1, hm, _, _, a1⟩ := fix_bwd h (n := 1) (by omega) (by omega) (fix1_lt hk (by omega)).2
    have hm1 : m = 2 := by
     have : (stFixed xs s 1).1 = (m : Int) := hm
     omega
    subst hm1
    obtain ⟨z2, g1, g2, _, a2⟩ := text_bwd (m := 131072) a1 (text_e ht)
    refine ⟨⟨ht, g1⟩, z2, ?_⟩
    rw [encI, <-List.append_assoc]
    exact a2
  ·cases hr
theorem rdI_fwd {xs : List UInt8} {n : Nat} {s : Rs} {ys zs : List UInt8} {i : Stp} (h : At xs s ys (encI i ++ zs)) (hi : okI n i) (hn : n <= 131072) :
  ∃ s', rdI xs n s = some (i, s') ∧ At xs s' (ys ++ encI i) zs := by
 cases i with
 | copy f c =>
  obtain ⟨hc1, hc2⟩ := hi
  rw [encI, List.append_assoc, List.append_assoc] at h
  obtain ⟨e1, a1⟩ := fix_fwd h (by omega) (by omega) (by omega)
  obtain ⟨e2, a2⟩ := num_fwd a1 (by omega)
  obtain ⟨e3, a3⟩ := num_fwd a2 (by omega)
  have g1 : (stFixed xs s 1).1 = 1 := congrArg Prod.fst e1
  have g2 : (stNumber xs (stFixed xs s 1).2).1 = (f : Int) := congrArg Prod.fst e2
  have g3 : (stNumber xs (stNumber xs (stFixed xs s 1).2).2).1 = (c : Int) := congrArg Prod.fst e3
  have i1 : within (f : Int) 0 n = true := within_iff.2 (by omega)
  have i2 : within (c : Int) 1 ((n : Int) - f) = true := within_iff.2 (by omega)
  refine ⟨(stNumber xs (stNumber xs (stFixed xs s 1).2).2).2, ?_, ?_⟩
  ·unfold rdI
   rw [if_pos g1, g2, g3, i1, i2, if_neg (by simp), if_neg (by simp), Int.toNat_natCast, Int.toNat_natCast]
  ·rw [encI, <-List.append_assoc, <-List.append_assoc]; exact a3
 | lit bs =>
  obtain ⟨h0, hl⟩ := hi
  rw [encI, List.append_assoc] at h
  obtain ⟨e1, a1⟩ := fix_fwd h (by omega) (by omega) (by omega)
  obtain ⟨e2, a2⟩ := text_fwd (m := 131072) a1 hl (by omega)
  have g1 : (stFixed xs s 1).1 = 2 := congrArg Prod.fst e1
  have g2 : (stText xs (stFixed xs s 1).2 131072).1 = bs := congrArg Prod.fst e2
  refine ⟨(stText xs (stFixed xs s 1).2 131072).2, ?_, ?_⟩
  ·unfold rdI
   rw [if_neg (by rw [g1]; omega), if_pos g1, g2, if_neg h0]
  ·rw [encI, <-List.append_assoc]; exact a2
theorem rdIs_bwd {xs : List UInt8} {n : Nat} {s : Rs} {ys zs : List UInt8} (h : At xs s ys zs) :
  ∀ {k : Nat} {p : List Stp × Rs}, rdIs xs n s k = some p -> (∀ i, i ∈ p.1 -> okI n i) ∧ ∃ zs', At xs p.2 (ys ++ p.1.flatMap encI) zs'
 | 0, p, hr => by cases hr; exact ⟨by simp, zs, by simpa using h⟩
 | k + 1, p, hr => by
  simp only [rdIs] at hr
  cases hq : rdIs xs n s k with
  | none => rw [hq] at hr; cases hr
  | some q =>
   rw [hq, Option.bind_some] at hr
   obtain ⟨h1, z1, h2⟩ := rdIs_bwd h hq
   cases hi : rdI xs n q.2 with
   | none => rw [hi] at hr; cases hr
   | some r =>
    rw [hi, Option.map_some] at hr
    injection hr with hr; subst hr
    obtain ⟨g1, z2, g2⟩ := rdI_bwd h2 (i := r.1) (s' := r.2) hi
    refine ⟨fun i hm => ?_, z2, ?_⟩
    ·simp only [List.mem_append, List.mem_singleton] at hm
     rcases hm with hm | rfl
     ·exact h1 i hm
     ·exact g1
    ·simp only [List.flatMap_append, List.flatMap_cons, List.flatMap_nil, List.append_nil]
     rw [<-List.append_assoc]; exact g2
theorem rdIs_fwd {xs : List UInt8} {n : Nat} (hn : n <= 131072) (L : List Stp) (hL : ∀ i, i ∈ L -> okI n i) {s : Rs} {ys zs : List UInt8} (h : At xs s ys (L.flatMap encI ++ zs)) :
  ∀ k, k <= L.length -> ∃ s', rdIs xs n s k = some (L.take k, s') ∧ At xs s' (ys ++ (L.take k).flatMap encI) ((L.drop k).flatMap encI ++ zs)
 | 0, _ => ⟨s, rfl, by simpa using h⟩
 | k + 1, hk => by
  obtain ⟨s1, h1, h2⟩ := rdIs_fwd hn L hL h k (by omega)
  have hd : L.drop k = L[k] :: L.drop (k + 1) := List.drop_eq_getElem_cons (by omega)
  rw [hd, List.flatMap_cons, List.append_assoc] at h2
  obtain ⟨s2, g1, g2⟩ := rdI_fwd h2 (hL L[k] (List.getElem_mem _)) hn
  have ht : L.take (k + 1) = L.take k ++ [L[k]] := List.take_succ_eq_append_getElem (by omega)
  refine ⟨s2, ?_, ?_⟩
  ·simp only [rdIs]
   rw [h1, Option.bind_some, g1, Option.map_some, ht]
  ·rw [ht, List.flatMap_append, <-List.append_assoc]
   simp only [List.flatMap_cons, List.flatMap_nil, List.append_nil]
   exact g2
def s5 (xs : List UInt8) : Rs := (stNumber xs (sB xs)).2
def nT (xs : List UInt8) : Int := (stNumber xs (sB xs)).1
def s6 (xs : List UInt8) : Rs := (stRaw xs (s5 xs) (nW xs)).2
def idT (xs : List UInt8) : List UInt8 := pad (stRaw xs (s5 xs) (nW xs)).1
def s7 (xs : List UInt8) : Rs := (stNumber xs (s6 xs)).2
def nI (xs : List UInt8) : Int := (stNumber xs (s6 xs)).1
def cntB (xs : List UInt8) : Nat := (nL xs / nZ xs).toNat
def headOk (xs : List UInt8) : Bool :=
 decide (xs.length <= 131072) && decide (mk xs = 68) && isW (nW xs) && isZ (nZ xs) && within (nL xs) 0 131072 && within (nT xs) 0 131072 && within (nI xs) 0 2048
def decD (xs : List UInt8) : Option Dta :=
 if headOk xs = false then none
 else match rdIs xs (cntB xs) (s7 xs) (nI xs).toNat with
  | none => none
  | some p =>
   if (decide ((total (nZ xs).toNat p.1 : Int) = nT xs) && endOk xs p.2) = false then none
   else some ⟨(nW xs).toNat, (nZ xs).toNat, (nL xs).toNat, idB xs, (nT xs).toNat, idT xs, p.1, pad_len _, pad_len _⟩
theorem decD_some {xs : List UInt8} {d : Dta} (h : decD xs = some d) : OkD d ∧ xs = encD d ∧ xs.length <= 131072 := by
 unfold decD at h
 split at h; · cases h
 rename_i h0
 split at h; · cases h
 rename_i p hp
 split at h; · cases h
 rename_i he
 injection h with h
 rw [Bool.not_eq_false] at h0 he
 simp only [headOk, Bool.and_eq_true, decide_eq_true_eq, isW, isZ, within_iff] at h0
 rw [Bool.and_eq_true, decide_eq_true_eq] at he
 obtain ⟨⟨⟨⟨⟨⟨h1, h2⟩, h3⟩, h4⟩, h5⟩, h6⟩, h7⟩ := h0
 have eq := endOk_e he.2
 have e7 : (s7 xs).e = 0 := by
  have : ∀ {k : Nat} {q : List Stp × Rs}, rdIs xs (cntB xs) (s7 xs) k = some q -> q.2.e = 0 -> (s7 xs).e = 0 := by
   intro k
   induction k with
   | zero => intro q hq h0; cases hq; exact h0
   | succ k ih =>
    intro q hq h0
    simp only [rdIs] at hq
    cases hr : rdIs xs (cntB xs) (s7 xs) k with
    | none => rw [hr] at hq; cases hq
    | some r =>
     rw [hr, Option.bind_some] at hq
     cases hi : rdI xs (cntB xs) r.2 with
     | none => rw [hi] at hq; cases hq
     | some t =>
      refine ih hr ?_
      unfold rdI at hi
      split at hi
      ·rename_i hk; exact (fix1_lt hk (by omega)).1
      ·split at hi
       ·rename_i hk; exact (fix1_lt hk (by omega)).1
       ·cases hi
  exact this hp eq
 have e6 : (s6 xs).e = 0 := num_e0 e7
 have e5 : (s5 xs).e = 0 := raw_e0 e6
 have eB : (sB xs).e = 0 := num_e0 e5
 have e4 : (s4 xs).e = 0 := raw_e0 eB
 have e3 : (s3 xs).e = 0 := num_e0 e4
 have e2 : (s2 xs).e = 0 := num_e0 e3
 have e1 : (s1 xs).e = 0 := num_e0 e2
 obtain ⟨m, z1, hm, _, _, a1⟩ := fix_bwd (At.start xs) (n := 1) (by omega) (by omega) e1
 have hm2 : m = 68 := by
  have : mk xs = (m : Int) := hm
  omega
 subst hm2
 obtain ⟨w, z2, hw, hw2, _, a2⟩ := num_bwd (s := s1 xs) a1 e2
 obtain ⟨z, z3, hz, hz2, _, a3⟩ := num_bwd (s := s2 xs) a2 e3
 obtain ⟨l, z4, hl, hl2, _, a4⟩ := num_bwd (s := s3 xs) a3 e4
 have hw : nW xs = (w : Int) := hw
 have hz : nZ xs = (z : Int) := hz
 have hl : nL xs = (l : Int) := hl
 have hwn : w <= 32 := by omega
 have hsB : sB xs = (stRaw xs (s4 xs) (w : Nat)).2 := by unfold sB; rw [hw]
 obtain ⟨z5, hr, _, a5⟩ := raw_bwd (s := s4 xs) (n := w) a4 (by rw [<-hsB]; exact eB)
 rw [<-hsB] at a5
 obtain ⟨t, z6, ht, ht2, _, a6⟩ := num_bwd (s := sB xs) a5 e5
 have ht : nT xs = (t : Int) := ht
 have hs6 : s6 xs = (stRaw xs (s5 xs) (w : Nat)).2 := by unfold s6; rw [hw]
 obtain ⟨z7, hr2, _, a7⟩ := raw_bwd (s := s5 xs) (n := w) a6 (by rw [<-hs6]; exact e6)
 rw [<-hs6] at a7
 obtain ⟨n, z8, hn, hn2, _, a8⟩ := num_bwd (s := s6 xs) a7 e7
 have hn : nI xs = (n : Int) := hn
 obtain ⟨hok, z9, a9⟩ := rdIs_bwd (s := s7 xs) a8 hp
 have hx := end_bwd a9 he.2
 have hlen := rdIs_len hp
 rw [hn, Int.toNat_natCast] at hlen
 have hcb : cntB xs = l / z := by
  unfold cntB
  rw [hl, hz, <-Int.natCast_ediv, Int.toNat_natCast]
 have eB1 : idB xs = pad (stRaw xs (s4 xs) (w : Nat)).1 := by unfold idB; rw [hw]
 have eT1 : idT xs = pad (stRaw xs (s5 xs) (w : Nat)).1 := by unfold idT; rw [hw]
 have k1 : (nW xs).toNat = w := by omega
 have k2 : (nZ xs).toNat = z := by omega
 have k3 : (nL xs).toNat = l := by omega
 have k4 : (nT xs).toNat = t := by omega
 have d1 : d.width = w := by rw [<-h]; exact k1
 have d2 : d.size = z := by rw [<-h]; exact k2
 have d3 : d.blen = l := by rw [<-h]; exact k3
 have d4 : d.tlen = t := by rw [<-h]; exact k4
 have d5 : d.bid = pad (stRaw xs (s4 xs) (w : Nat)).1 := by rw [<-h]; exact eB1
 have d6 : d.tid = pad (stRaw xs (s5 xs) (w : Nat)).1 := by rw [<-h]; exact eT1
 have d7 : d.steps = p.1 := by rw [<-h]
 have hbody : bodyD d = [] ++ Pure.fix 68 1 ++ Pure.enc w ++ Pure.enc z ++ Pure.enc l ++ (stRaw xs (s4 xs) (w : Nat)).1 ++ Pure.enc t ++ (stRaw xs (s5 xs) (w : Nat)).1 ++ Pure.enc n ++ p.1.flatMap encI := by
  unfold bodyD headD
  rw [d1, d2, d3, d4, d5, d6, d7, pad_take hr hwn, pad_take hr2 hwn, hlen]
  simp only [List.append_assoc, List.nil_append]
 refine ⟨⟨by omega, by omega, by omega, by omega, by omega, by omega, ?_, ?_, ?_, ?_, ?_⟩, ?_, h1⟩
 ·rw [d1, d5]; exact pad_nought hr hwn
 ·rw [d1, d6]; exact pad_nought hr2 hwn
 ·rw [d7, hlen]; omega
 ·rw [d7, d2, d3, <-hcb]; exact hok
 ·rw [d7, d2, d4]
  have := he.1
  rw [k2, ht] at this
  omega
 ·rw [encD, hbody]; exact hx
theorem decD_enc {d : Dta} (h : OkD d) (hl : (encD d).length <= 131072) : decD (encD d) = some d := by
 obtain ⟨xs, hxs⟩ := nm (encD d)
 have hW2 := h.w2
 have hx : xs = [] ++ (Pure.fix 68 1 ++ (Pure.enc d.width ++ (Pure.enc d.size ++ (Pure.enc d.blen ++ (d.bid.take d.width ++ (Pure.enc d.tlen ++ (d.tid.take d.width ++ (Pure.enc d.steps.length ++ (d.steps.flatMap encI ++ Pure.fix (Pure.sum (bodyD d)) 4))))))))) := by
  rw [<-hxs, encD, sealed]
  conv => lhs; arg 1; unfold bodyD headD
  simp only [List.append_assoc, List.nil_append]
 have a0 : At xs ⟨0, 0, 0⟩ [] _ := ⟨rfl, rfl, hx⟩
 obtain ⟨f1, a1⟩ := fix_fwd a0 (by omega) (by omega) (by omega)
 have g1 : mk xs = 68 := congrArg Prod.fst f1
 obtain ⟨f2, a2⟩ := num_fwd (s := s1 xs) a1 (by omega)
 have g2 : nW xs = (d.width : Int) := congrArg Prod.fst f2
 obtain ⟨f3, a3⟩ := num_fwd (s := s2 xs) a2 (by have := h.z2; omega)
 have g3 : nZ xs = (d.size : Int) := congrArg Prod.fst f3
 obtain ⟨f4, a4⟩ := num_fwd (s := s3 xs) a3 (by have := h.b2; omega)
 have g4 : nL xs = (d.blen : Int) := congrArg Prod.fst f4
 have hbl : (d.bid.take d.width).length = d.width := by rw [List.length_take, d.hb]; omega
 have htl : (d.tid.take d.width).length = d.width := by rw [List.length_take, d.ht]; omega
 obtain ⟨f5, a5⟩ := raw_fwd (s := s4 xs) (n := d.width) a4 hbl
 have g5 : (stRaw xs (s4 xs) (nW xs)).1 = d.bid.take d.width := by rw [g2]; exact congrArg Prod.fst f5
 have hsB : sB xs = (stRaw xs (s4 xs) (d.width : Nat)).2 := by unfold sB; rw [g2]
 rw [<-hsB] at a5
 obtain ⟨f6, a6⟩ := num_fwd (s := sB xs) a5 (by have := h.t2; omega)
 have g6 : nT xs = (d.tlen : Int) := congrArg Prod.fst f6
 obtain ⟨f7, a7⟩ := raw_fwd (s := s5 xs) (n := d.width) a6 htl
 have g7 : (stRaw xs (s5 xs) (nW xs)).1 = d.tid.take d.width := by rw [g2]; exact congrArg Prod.fst f7
 have hs6 : s6 xs = (stRaw xs (s5 xs) (d.width : Nat)).2 := by unfold s6; rw [g2]
 rw [<-hs6] at a7
 obtain ⟨f8, a8⟩ := num_fwd (s := s6 xs) a7 (by have := h.few; omega)
 have g8 : nI xs = (d.steps.length : Int) := congrArg Prod.fst f8
 have hcb : cntB xs = d.blen / d.size := by
  unfold cntB
  rw [g3, g4, <-Int.natCast_ediv, Int.toNat_natCast]
 have hnb : cntB xs <= 131072 := by rw [hcb]; exact Nat.le_trans (Nat.div_le_self _ _) h.b2
 obtain ⟨s8, r1, r2⟩ := rdIs_fwd hnb d.steps (by rw [hcb]; exact h.ins) (s := s7 xs) a8 d.steps.length (Nat.le_refl _)
 rw [List.take_of_length_le (Nat.le_refl _)] at r1 r2
 rw [List.drop_of_length_le (Nat.le_refl _), List.flatMap_nil] at r2
 simp only [List.nil_append] at r2
 have hbody : bodyD d = Pure.fix 68 1 ++ Pure.enc d.width ++ Pure.enc d.size ++ Pure.enc d.blen ++ d.bid.take d.width ++ Pure.enc d.tlen ++ d.tid.take d.width ++ Pure.enc d.steps.length ++ d.steps.flatMap encI := by
  unfold bodyD headD
  simp only [List.append_assoc]
 rw [<-hbody] at r2
 have hend := end_fwd r2
 rw [hxs] at hl ⊢
 have i0 : headOk xs = true := by
  simp only [headOk, Bool.and_eq_true, decide_eq_true_eq, isW, isZ, within_iff]
  rw [g1, g2, g3, g4, g6, g8]
  have := h.w1; have := h.z1; have := h.z2; have := h.b2; have := h.t2; have := h.few
  omega
 unfold decD
 rw [i0, if_neg (by simp), g8, Int.toNat_natCast, r1]
 simp only
 have i1 : (decide ((total (nZ xs).toNat d.steps : Int) = nT xs) && endOk xs s8) = true := by
  rw [Bool.and_eq_true, decide_eq_true_eq, g3, g6, Int.toNat_natCast, h.sum]
  exact ⟨rfl, hend⟩
 rw [i1, if_neg (by simp)]
 congr 1
 refine Dta.ext' (by show (nW xs).toNat = _; omega) (by show (nZ xs).toNat = _; omega) (by show (nL xs).toNat = _; omega) ?_ (by show (nT xs).toNat = _; omega) ?_ rfl
 ·show pad (stRaw xs (s4 xs) (nW xs)).1 = d.bid
  rw [g5]; exact pad_of_nought d.hb h.nb hW2
 ·show pad (stRaw xs (s5 xs) (nW xs)).1 = d.tid
  rw [g7]; exact pad_of_nought d.ht h.nt hW2
def doI (z : Nat) (b : List UInt8) : Stp -> List UInt8
 | .copy f c => (b.drop (f * z)).take (c * z)
 | .lit bs => bs
def doIs (z : Nat) (b : List UInt8) (L : List Stp) : List UInt8 := L.flatMap (doI z b)
theorem doIs_snoc (z : Nat) (b : List UInt8) (L : List Stp) (i : Stp) : doIs z b (L ++ [i]) = doIs z b L ++ doI z b i := by simp [doIs]
theorem doI_len {z : Nat} {b : List UInt8} {i : Stp} (h : okI (b.length / z) i) : (doI z b i).length = i.len z := by
 cases i with
 | copy f c =>
  obtain ⟨h1, h2⟩ := h
  have : (f + c) * z <= b.length := Nat.le_trans (Nat.mul_le_mul_right z h2) (Nat.div_mul_le_self _ _)
  rw [Nat.add_mul] at this
  simp only [doI, Stp.len, List.length_take, List.length_drop]
  omega
 | lit bs => rfl
theorem doIs_len {z : Nat} {b : List UInt8} : ∀ {L : List Stp}, (∀ i, i ∈ L -> okI (b.length / z) i) -> (doIs z b L).length = total z L
 | [], _ => rfl
 | i :: L, h => by
  have := doIs_len (L := L) fun j hj => h j (by simp [hj])
  have h1 := doI_len (h i (by simp))
  simp only [doIs, List.flatMap_cons, List.length_append, total, List.map_cons, List.sum_cons] at this ⊢
  rw [h1]
  omega
def applyE (b xs : List UInt8) : Int :=
 if 131072 < b.length then 2
 else match decD xs with
  | none => 180
  | some d =>
   if b.length = d.blen ∧ Sha.ident d.width b = d.bid then
    if Sha.ident d.width (doIs d.size b d.steps) = d.tid then 0 else 182
   else 181
def applyB (b xs : List UInt8) : List UInt8 :=
 if applyE b xs = 0 then
  match decD xs with
  | none => []
  | some d => doIs d.size b d.steps
 else []
end Dlt
end

section
open Dlt
theorem wp_copy_run8 (w : World) {o : Oper} {a : Act} {K : Act -> World -> Prop} {Q : Exit -> Act -> World -> Prop} (d s : Operand) (t t' : TypeId)
  (ho : o.op = .call { callee := .builtin .copy, args := #[d, s], argTypes := #[t, t'] }) (v u : Value) (hd : a.eval d = v) (hs : a.eval s = u) {v' : Value} {w' : World}
  (hr : (Builtin.copy_ #[t, t'] o.type #[v, u]).run Tryz.prog w = .ok v' w') (h : K (a.put o.dst v') w') : o.wp Tryz.prog a w K Q := by
 unfold Oper.wp execOp
 simp only [ho, resolve, invoke, builtin, Sem.run_bind, Sem.run_pure, Result.andThen_ok, List.map_toArray, List.map_cons, List.map_nil, hd, hs, hr]
 exact h
abbrev gaveUp8 : Ending := .panicked [{ v := .iface 29 (.int .i64 180), recovered := false }]
abbrev stV (b : Nat) : Value := .agg #[.pointer (some ⟨b, 0, none⟩)]
abbrev stC (b : Nat) : List Value := [.pointer (some ⟨b, 0, none⟩)]
theorem Tryz.infoStrict : (Tryz.prog.info? 145).map (·.size) = some 1 := by kernel_rfl
theorem giveUp_ok (w : World) : Calls Tryz.prog 113 #[] w fun e w' => e = gaveUp8 ∧ w' = w := by
 go_enter Tryz.func113, Tryz.ntmps113
 go_wp2
 exact ⟨rfl, rfl, rfl⟩
theorem must_yes (b : Nat) (w : World) : Calls Tryz.prog 92 #[stV b, .bool true] w fun e w' => e = .returned (.tuple #[]) ∧ Kept [] w w' := by
 have hK := ka w (.cells (stC b).toArray 145)
 go_enter Tryz.func92, Tryz.ntmps92
 go_wp2
 go_end0
 exact ⟨rfl, hK⟩
theorem must_no (b : Nat) (w : World) : Calls Tryz.prog 92 #[stV b, .bool false] w fun e w' => e = gaveUp8 ∧ Kept [] w w' := by
 have hK := ka w (.cells (stC b).toArray 145)
 have hg := giveUp_ok (w.alloc (.cells (stC b).toArray 145))
 go_enter Tryz.func92, Tryz.ntmps92
 go_wp2_with (go_at_call 113; refine hg.mono ?_; rintro r w' ⟨rfl, hw⟩; obtain rfl := hw.symm)
 exact ⟨rfl, rfl, hK⟩
structure Sx (w : World) (g b : Nat) : Prop where
 row : w.heap[g]? = some (.cells (stC b).toArray 145 (0, 0))
theorem Sx.kept {l : List Nat} {w w' : World} {g b : Nat} (h : Sx w g b) (hk : Kept l w w') (hn : g ∉ l) : Sx w' g b := ⟨(hk.block g (gs h.row).1 hn).trans h.row⟩
theorem Sx.new (w : World) (b : Nat) : Sx (w.alloc (.cells (stC b).toArray 145)) w.heap.size b := ⟨heap_new w _⟩
theorem Sx.cell {w : World} {g b : Nat} (h : Sx w g b) : w.cell? ⟨g, 0, none⟩ = some (.pointer (some ⟨b, 0, none⟩)) := by rw [cell_of_row _ _ _ _ _ _ h.row]; rfl
theorem Sx.range {w : World} {g b : Nat} (h : Sx w g b) : w.rangeAt g 0 (stC b) := row_rangeK h.row
theorem Sx.lt {w : World} {g b : Nat} (h : Sx w g b) : g < w.heap.size := (gs h.row).1
theorem RdS.blk {w : World} {b : Nat} {ao : Option Addr} {cap : Nat} {xs : List UInt8} {s : Rs} (h : RdS w b ao cap xs s) (hx : xs ≠ []) : ∀ a, ao = some a -> a.block < w.heap.size := by
 obtain ⟨a0, _, hr⟩ := h
 intro a ha
 obtain ⟨g, off, e, hg, _⟩ := hr.sl.open hx
 rw [ha] at e
 cases e
 exact hg
theorem RdS.apart {w : World} {b : Nat} {ao : Option Addr} {cap : Nat} {xs : List UInt8} {s : Rs} (h : RdS w b ao cap xs s) : ∀ a, ao = some a -> a.block ≠ b := by
 obtain ⟨a0, _, hr⟩ := h
 exact hr.apart
theorem RdS.later {w w' : World} {b : Nat} {ao : Option Addr} {cap : Nat} {xs : List UInt8} {s : Rs} (h : RdS w b ao cap xs s) (hk : Kept [] w w') : RdS w' b ao cap xs s := h.kept hk (by simp) (by simp)
theorem number_yes (lo hi : Int) {w : World} {b : Nat} {ao : Option Addr} {cap : Nat} {xs : List UInt8} {s : Rs} (h : RdS w b ao cap xs s) (hw : Dlt.within (stNumber xs s).1 lo hi = true) :
  Calls Tryz.prog 90 #[stV b, .int .i64 lo, .int .i64 hi] w fun e w' => e = .returned (.int .i64 (stNumber xs s).1) ∧ RdS w' b ao cap xs (stNumber xs s).2 ∧ Kept [b] w w' := by
 have hK := ka w (.cells (stC b).toArray 145)
 have hX := Sx.new w b
 have hR := h.later hK
 have hnu := rnumber_st hR
 have HK := hide hK
 have hlt := h.lt
 have hgb : w.heap.size ≠ b := by omega
 have cb := hX.cell
 obtain ⟨v, hv⟩ := nm ((stNumber xs s).1)
 rw [hv] at hw hnu
 have HW := hide hw
 have HV := hide hv
 clear hv hw h hK hR hlt
 obtain ⟨G, hG⟩ := nm (w.heap.size)
 rw [hG] at hX hgb cb
 have HX := hide hX
 go_enter Tryz.func90, Tryz.ntmps90
 go_upto_region 1 with (fail)
 have HG := hide hG
 clear hG hX
 generalize w.alloc (.cells (stC b).toArray 145) = w1 at *
 go_upto_region 2 with (go_at_call 115; refine hnu.mono ?_; rintro r w2 ⟨rfl, hk2, hr2⟩; have H2 := hide (ai hr2 hk2); clear hnu hk2 hr2)
 have HX2 := hide (HX.out.kept H2.out.2 (by simpa using hgb))
 clear HX cb
 refine th w2 fun h0 => ?_
 generalize World.drew w2 = v0 at h0  ⊢
 refine t4 0 (stV b) rfl (yieldsIf_load_mid (by rfl) _ _ rfl G 0 rfl (stC b) _ (fun W h => (HX2.out.kept h (by simp)).range) Tryz.underlying145 rfl Tryz.infoStrict) h0 ?_
 simp only [zz]
 refine t1 1 (.int .i64 v) h0 ?_
 simp only [zz]
 refine t1 2 (.int .i64 lo) h0 ?_
 simp only [zz]
 refine t1 3 (.int .i64 hi) h0 ?_
 simp only [zz]
 refine rd 4 fun K hK => ?_
 go_simp
 refine (within_ok v lo hi v0).mono ?_
 rintro e v1 ⟨rfl, hq⟩
 rw [HW.out]
 subst hq
 refine hK.out _ _ (h0) (fun h1 => ?_)
 clear hK K
 try simp only [zz]
 clear h0
 refine rd 5 fun K hK => ?_
 go_simp
 refine (must_yes b v1).mono ?_
 rintro e v2 ⟨rfl, hq⟩
 refine hK.out _ _ (h1.tr hq) (fun h2 => ?_)
 clear hK K
 try simp only [zz]
 clear hq h1
 refine qd ?_
 have HF := hide h2
 clear h2 HX2
 go_wp2
 go_ret
 have k1 : Kept [b] w w2 := (HK.out.mono (by simp)).tr H2.out.2
 exact ⟨by rw [HV.out]; rfl, H2.out.1.later HF.out, k1.tr HF.out⟩
theorem number_no (lo hi : Int) {w : World} {b : Nat} {ao : Option Addr} {cap : Nat} {xs : List UInt8} {s : Rs} (h : RdS w b ao cap xs s) (hw : Dlt.within (stNumber xs s).1 lo hi = false) :
  Calls Tryz.prog 90 #[stV b, .int .i64 lo, .int .i64 hi] w fun e w' => e = gaveUp8 ∧ Kept [b] w w' := by
 have hK := ka w (.cells (stC b).toArray 145)
 have hX := Sx.new w b
 have hR := h.later hK
 have hnu := rnumber_st hR
 have HK := hide hK
 have hlt := h.lt
 have hgb : w.heap.size ≠ b := by omega
 have cb := hX.cell
 obtain ⟨v, hv⟩ := nm ((stNumber xs s).1)
 rw [hv] at hw hnu
 have HW := hide hw
 have HV := hide hv
 clear hv hw h hK hR hlt
 obtain ⟨G, hG⟩ := nm (w.heap.size)
 rw [hG] at hX hgb cb
 have HX := hide hX
 go_enter Tryz.func90, Tryz.ntmps90
 go_upto_region 1 with (fail)
 have HG := hide hG
 clear hG hX
 generalize w.alloc (.cells (stC b).toArray 145) = w1 at *
 go_upto_region 2 with (go_at_call 115; refine hnu.mono ?_; rintro r w2 ⟨rfl, hk2, hr2⟩; have H2 := hide (ai hr2 hk2); clear hnu hk2 hr2)
 have HX2 := hide (HX.out.kept H2.out.2 (by simpa using hgb))
 clear HX cb
 refine th w2 fun h0 => ?_
 generalize World.drew w2 = v0 at h0  ⊢
 refine t4 0 (stV b) rfl (yieldsIf_load_mid (by rfl) _ _ rfl G 0 rfl (stC b) _ (fun W h => (HX2.out.kept h (by simp)).range) Tryz.underlying145 rfl Tryz.infoStrict) h0 ?_
 simp only [zz]
 refine t1 1 (.int .i64 v) h0 ?_
 simp only [zz]
 refine t1 2 (.int .i64 lo) h0 ?_
 simp only [zz]
 refine t1 3 (.int .i64 hi) h0 ?_
 simp only [zz]
 refine rd 4 fun K hK => ?_
 go_simp
 refine (within_ok v lo hi v0).mono ?_
 rintro e v1 ⟨rfl, hq⟩
 rw [HW.out]
 subst hq
 refine hK.out _ _ (h0) (fun h1 => ?_)
 clear hK K
 try simp only [zz]
 clear h0
 refine rd 5 fun K hK => ?_
 go_simp
 refine (must_no b v1).mono ?_
 rintro e v2 ⟨rfl, hq⟩
 exact ⟨rfl, rfl, (((HK.out.mono (by simp)).tr H2.out.2).tr h1).tr hq⟩
end

end Go.Proofs.YtmklodligplbaabGreat
