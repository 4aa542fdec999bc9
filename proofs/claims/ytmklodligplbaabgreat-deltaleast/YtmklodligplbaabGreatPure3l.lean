import Derived.Test.YtmklodligplbaabGreatPurel
import Derived.Test.YtmklodligplbaabGreatMeml
namespace Go.Proofs.YtmklodligplbaabGreat
section
namespace Pure
def T (y : Nat) : Nat := y / 2 ^^^ (if y % 2 = 1 then 3988292384 else 0)
theorem xor_half (a b : Nat) : (a ^^^ b) / 2 = a / 2 ^^^ b / 2 := by
 apply Nat.eq_of_testBit_eq
 intro i
 simp only [Nat.testBit_xor, ← Nat.testBit_succ]
theorem xor_odd (a b : Nat) : (a ^^^ b) % 2 = 1 ↔ ¬ (a % 2 = 1 ↔ b % 2 = 1) := by
 have h : (a ^^^ b).testBit 0 = ((a.testBit 0) ^^ (b.testBit 0)) := Nat.testBit_xor ..
 simp only [Nat.testBit_zero] at h
 by_cases h1 : a % 2 = 1 <;> by_cases h2 : b % 2 = 1 <;> simp_all
theorem xor4 (a b c d : Nat) : (a ^^^ b) ^^^ (c ^^^ d) = (a ^^^ c) ^^^ (b ^^^ d) := by
 rw [Nat.xor_assoc, Nat.xor_assoc, ← Nat.xor_assoc b, Nat.xor_comm b c, Nat.xor_assoc c]
theorem T_xor (a b : Nat) : T (a ^^^ b) = T a ^^^ T b := by
 unfold T
 rw [xor_half, xor4]
 congr 1
 have := xor_odd a b
 by_cases h1 : a % 2 = 1 <;> by_cases h2 : b % 2 = 1 <;> simp_all
theorem T_even (y : Nat) : T (2 * y) = y := by
 unfold T
 rw [if_neg (by omega), Nat.xor_zero]
 omega
def Ts : Nat → Nat → Nat
 | 0, y => y
 | k + 1, y => Ts k (T y)
theorem Ts_xor (k a b : Nat) : Ts k (a ^^^ b) = Ts k a ^^^ Ts k b := by
 induction k generalizing a b with
 | zero => rfl
 | succ k ih => simp only [Ts]; rw [T_xor, ih]
theorem Ts_pow (k y : Nat) : Ts k (2 ^ k * y) = y := by
 induction k generalizing y with
 | zero => simp [Ts]
 | succ k ih =>
  simp only [Ts]
  rw [show 2 ^ (k + 1) * y = 2 * (2 ^ k * y) by rw [Nat.pow_succ, Nat.mul_comm (2 ^ k) 2, Nat.mul_assoc], T_even, ih]
theorem Ts_add (j k y : Nat) : Ts (j + k) y = Ts k (Ts j y) := by
 induction j generalizing y with
 | zero => simp [Ts]
 | succ j ih => rw [Nat.succ_add]; simp only [Ts]; exact ih (T y)
theorem T_lt {y : Nat} (h : y < 4294967296) : T y < 4294967296 := by
 unfold T
 refine xor_lt32 (by omega) ?_
 split <;> omega
theorem tb_bits : ∀ i, i < 16 → tb i = Ts 4 i := by decide
theorem join16 (y : Nat) : y = (16 * (y / 16)) ^^^ (y % 16) := by
 apply Nat.eq_of_testBit_eq
 intro i
 rw [Nat.testBit_xor, show 16 * (y / 16) = 2 ^ 4 * (y / 16) from rfl, Nat.testBit_two_pow_mul, show 16 = 2 ^ 4 from rfl, Nat.testBit_mod_two_pow, Nat.testBit_div_two_pow]
 by_cases h : 4 ≤ i
 ·simp [h, show ¬ i < 4 by omega]
 ·simp [h, show i < 4 by omega]
theorem nib_turns (y : Nat) : nib y = Ts 4 y := by
 conv => rhs; rw [join16 y, Ts_xor]
 rw [← tb_bits (y % 16) (by omega), show (16 : Nat) * (y / 16) = 2 ^ 4 * (y / 16) from rfl, Ts_pow]
 rfl
theorem crcStep_turns (x c : Nat) : crcStep x c = Ts 8 (x ^^^ c) := by
 unfold crcStep
 rw [nib_turns, nib_turns, ← Ts_add]
def N : List UInt8 → Nat
 | [] => 0
 | c :: l => c.toNat ^^^ (256 * N l)
end Pure
end

section
namespace Pure
theorem ofNat_toNat (c : UInt8) : UInt8.ofNat c.toNat = c := by simp
theorem numGo_enc (xs : List UInt8) : ∀ f k x v n, numGo xs f k x = (v, n, 0) → x < 2 ^ (7 * k) → ∃ y, v = x + y * 2 ^ (7 * k) ∧ k < n ∧ n ≤ xs.length ∧ enc y = (xs.take n).drop k ∧ (0 < k → 0 < y)
 | 0, k, x, v, n, h, _ => by simp [numGo] at h
 | f + 1, k, x, v, n, h, hx => by
  simp only [numGo] at h
  split at h
  ·rename_i hk
   have hcb : (xs.getD k 0).toNat < 256 := UInt8.toNat_lt _
   have htk : (xs.take (k + 1)).drop k = [xs.getD k 0] := by
    rw [List.take_succ_eq_append_getElem hk, List.drop_append_of_le_length (by simp; omega), List.drop_of_length_le (by rw [List.length_take]; exact Nat.min_le_left _ _)]
    simp [List.getElem?_eq_getElem hk]
   split at h
   ·rename_i h1
    split at h
    ·simp at h
    ·rename_i h2
     simp only [Prod.mk.injEq] at h
     obtain ⟨rfl, rfl, _⟩ := h
     refine ⟨(xs.getD k 0).toNat, rfl, by omega, by omega, ?_, fun hk0 => ?_⟩
     ·rw [enc_small h1, htk, ofNat_toNat]
     ·omega
   ·rename_i h1
    have hx2 : x + ((xs.getD k 0).toNat - 128) * 2 ^ (7 * k) < 2 ^ (7 * (k + 1)) := by
     have e : 2 ^ (7 * (k + 1)) = 128 * 2 ^ (7 * k) := by rw [show 7 * (k + 1) = 7 * k + 7 by omega, Nat.pow_add]; omega
     have : ((xs.getD k 0).toNat - 128) * 2 ^ (7 * k) ≤ 127 * 2 ^ (7 * k) := Nat.mul_le_mul (by omega) (Nat.le_refl _)
     omega
    obtain ⟨y, hv, hn1, hn2, he, hy⟩ := numGo_enc xs f (k + 1) _ v n h hx2
    have hy0 := hy (by omega)
    refine ⟨((xs.getD k 0).toNat - 128) + 128 * y, ?_, by omega, hn2, ?_, fun _ => by omega⟩
    ·rw [hv, show 7 * (k + 1) = 7 * k + 7 by omega, Nat.pow_add, Nat.add_mul, Nat.add_assoc]
     congr 2
     rw [Nat.mul_comm (2 ^ (7 * k)) (2 ^ 7), ← Nat.mul_assoc, Nat.mul_comm y]
    ·have hsm : ((xs.getD k 0).toNat - 128 + 128 * y) % 128 + 128 = (xs.getD k 0).toNat := by omega
     have hdv : ((xs.getD k 0).toNat - 128 + 128 * y) / 128 = y := by omega
     rw [enc_more (by omega), hsm, hdv, he, ofNat_toNat]
     have hkn : k < (xs.take n).length := by simp; omega
     rw [List.drop_eq_getElem_cons hkn]
     simp [List.getElem?_eq_getElem hk]
  ·simp at h
theorem num_enc {xs : List UInt8} {v n : Nat} (h : num xs = (v, n, 0)) : enc v = xs.take n ∧ n ≤ xs.length ∧ v ≤ 2147483647 := by
 obtain ⟨y, hv, _, h2, he, _⟩ := numGo_enc xs 5 0 0 v n h (by simp)
 have hf := num_facts xs
 rw [h] at hf
 simp only at hf
 refine ⟨?_, h2, by omega⟩
 have : v = y := by simpa using hv
 rw [this]
 simpa using he
theorem be_cons (c : UInt8) (l : List UInt8) : be (c :: l) = c.toNat * 256 ^ l.length + be l := by
 have : ∀ (l : List UInt8) (a : Nat), l.foldl (fun v c => 256 * v + c.toNat) a = a * 256 ^ l.length + be l := by
  intro l
  induction l with
  | nil => intro a; simp [be]
  | cons d l ih =>
   intro a
   simp only [List.foldl_cons, List.length_cons, be]
   rw [ih, ih (256 * 0 + d.toNat), Nat.pow_succ, Nat.mul_comm (256 ^ l.length) 256, ← Nat.mul_assoc, Nat.add_mul, Nat.mul_comm 256 a]
   simp only [Nat.mul_zero, Nat.zero_add]
   omega
 simp only [be, List.foldl_cons, Nat.mul_zero, Nat.zero_add]
 exact this l c.toNat
theorem fix_mod (v w : Nat) (k : Nat) (h : v % 256 ^ k = w % 256 ^ k) : fix v k = fix w k := by
 induction k with
 | zero => rfl
 | succ k ih =>
  have h1 : v / 256 ^ k % 256 = w / 256 ^ k % 256 := by
   rw [Nat.pow_succ] at h
   rw [← Nat.mod_mul_right_div_self, ← Nat.mod_mul_right_div_self, h]
  have h2 : v % 256 ^ k = w % 256 ^ k := by
   have := congrArg (· % 256 ^ k) h
   simp only [Nat.pow_succ, Nat.mod_mul_right_mod] at this
   exact this
  simp only [fix]
  rw [h1, ih h2]
theorem fix_be (l : List UInt8) : fix (be l) l.length = l := by
 induction l with
 | nil => rfl
 | cons c l ih =>
  have hl := be_lt l
  have hc := UInt8.toNat_lt c
  simp only [List.length_cons, fix]
  have h1 : be (c :: l) / 256 ^ l.length % 256 = c.toNat := by
   rw [be_cons, Nat.mul_comm, Nat.mul_add_div (Nat.pow_pos (by omega)), Nat.div_eq_of_lt hl, Nat.add_zero, Nat.mod_eq_of_lt hc]
  have h2 : fix (be (c :: l)) l.length = fix (be l) l.length := fix_mod _ _ _ (by rw [be_cons, Nat.mul_comm, Nat.mul_add_mod])
  rw [h1, ofNat_toNat, h2, ih]
end Pure
end

section
namespace Pure
theorem numGo_back (xs rest : List UInt8) : ∀ f k x y, k + f = 5 → xs.drop k = enc y ++ rest → x + y * 2 ^ (7 * k) ≤ 2147483647 → (0 < k → 0 < y) → numGo xs f k x = (x + y * 2 ^ (7 * k), k + (enc y).length, 0) := by
 intro f
 induction f with
 | zero =>
  intro k x y hk hd hx hy
  obtain rfl : k = 5 := by omega
  have := hy (by omega)
  exfalso
  have h2 : 2 ^ (7 * 5) = 34359738368 := by decide
  rw [h2] at hx
  omega
 | succ f ih =>
  intro k x y hk hd hx hy
  have hlen : k < xs.length := by
   have h1 : (xs.drop k).length = (enc y ++ rest).length := by rw [hd]
   have h2 : 0 < (enc y).length := by
    by_cases h : y < 128
    ·rw [enc_small h]; simp
    ·rw [enc_more h]; simp
   simp at h1
   omega
  by_cases h : y < 128
  ·rw [enc_small h] at hd
   have hg : (xs.getD k 0).toNat = y := by
    have h1 : xs.getD k 0 = (xs.drop k).getD 0 0 := by simp [List.getD_eq_getElem?_getD]
    rw [h1, hd]
    simp only [List.cons_append, List.getD_cons_zero]
    exact toNat_ofNat_small (by omega)
   have hno : ¬ (2147483647 < x + (xs.getD k 0).toNat * 2 ^ (7 * k) ∨ (0 < k ∧ (xs.getD k 0).toNat = 0)) := by
    rw [hg]
    rintro (h1 | ⟨h1, h2⟩)
    ·omega
    ·have := hy h1
     omega
   rw [numGo_good hlen (by omega) hno, hg, enc_small h]
   rfl
  ·rw [enc_more h] at hd
   have hg : (xs.getD k 0).toNat = y % 128 + 128 := by
    have h1 : xs.getD k 0 = (xs.drop k).getD 0 0 := by simp [List.getD_eq_getElem?_getD]
    rw [h1, hd]
    simp only [List.cons_append, List.getD_cons_zero]
    exact toNat_ofNat_small (by omega)
   have hd2 : xs.drop (k + 1) = enc (y / 128) ++ rest := by
    rw [← List.drop_drop, hd]
    simp
   have hp : 2 ^ (7 * (k + 1)) = 128 * 2 ^ (7 * k) := by
    rw [show 7 * (k + 1) = 7 + 7 * k by omega, Nat.pow_add]
   have hm : y * 2 ^ (7 * k) = y % 128 * 2 ^ (7 * k) + y / 128 * 2 ^ (7 * (k + 1)) := by
    rw [hp, ← Nat.mul_assoc, ← Nat.add_mul]
    congr 1
    omega
   rw [numGo_more hlen (by omega), hg, show y % 128 + 128 - 128 = y % 128 by omega]
   rw [ih (k + 1) _ (y / 128) (by omega) hd2 (by omega) (by omega), enc_more h, hm]
   simp
   omega
theorem num_back {v : Nat} (h : v ≤ 2147483647) (rest : List UInt8) : num (enc v ++ rest) = (v, (enc v).length, 0) := by
 have := numGo_back (enc v ++ rest) rest 5 0 0 v rfl rfl (by simpa using h) (by simp)
 simpa [num] using this
theorem be_fix (v : Nat) : ∀ k, be (fix v k) = v % 256 ^ k
 | 0 => by simp [fix, be, Nat.mod_one]
 | k + 1 => by
  rw [fix, be_cons, be_fix v k, fix_len, toNat_ofNat_small (Nat.mod_lt _ (by omega)), Nat.pow_succ, Nat.mod_mul]
  rw [Nat.mul_comm, Nat.add_comm]
end Pure
end

section
namespace Dlt
structure Wk where
 sum : Int
 id : List UInt8
 hid : id.length = 32
 hs : (Lit.int .i64 sum).wf = true
theorem Wk.ext' {a b : Wk} (h1 : a.sum = b.sum) (h2 : a.id = b.id) : a = b := by
 cases a; cases b; simp only at h1 h2; subst h1; subst h2; rfl
structure Sig where
 width : Int
 size : Int
 length : Int
 base : List UInt8
 blocks : List Wk
 hb : base.length = 32
theorem Sig.ext' {a b : Sig} (h1 : a.width = b.width) (h2 : a.size = b.size) (h3 : a.length = b.length) (h4 : a.base = b.base) (h5 : a.blocks = b.blocks) : a = b := by
 cases a; cases b; simp only at h1 h2 h3 h4 h5; subst h1; subst h2; subst h3; subst h4; subst h5; rfl
def wk0 : Wk := ⟨0, List.replicate 32 0, by simp, by decide⟩
def sig0 : Sig := ⟨0, 0, 0, List.replicate 32 0, [], by simp⟩
def within (v lo hi : Int) : Bool := decide (lo ≤ v) && decide (v ≤ hi)
def isW (w : Int) : Bool := within w 1 32
def isZ (s : Int) : Bool := within s 16 4096
def nought (w : Nat) (id : List UInt8) : Bool := (id.drop w).all (· == 0)
def okWk (w : Nat) (k : Wk) : Bool := within k.sum 0 4294967295 && nought w k.id
def may (s : Sig) : Bool :=
 isW s.width && isZ s.size && within s.length 0 131072 && decide ((s.blocks.length : Int) = s.length / s.size) && decide (s.blocks.length ≤ 2048) && s.blocks.all (okWk s.width.toNat) && nought s.width.toNat s.base
theorem within_iff {v lo hi : Int} : within v lo hi = true ↔ lo ≤ v ∧ v ≤ hi := by simp [within]
theorem within_no {v lo hi : Int} : within v lo hi = false ↔ v < lo ∨ hi < v := by
 rw [← Bool.not_eq_true, within_iff]; omega
structure May (s : Sig) : Prop where
 w1 : 1 ≤ s.width
 w2 : s.width ≤ 32
 z1 : 16 ≤ s.size
 z2 : s.size ≤ 4096
 l1 : 0 ≤ s.length
 l2 : s.length ≤ 131072
 cnt : (s.blocks.length : Int) = s.length / s.size
 few : s.blocks.length ≤ 2048
 bks : ∀ k, k ∈ s.blocks → 0 ≤ k.sum ∧ k.sum ≤ 4294967295 ∧ nought s.width.toNat k.id = true
 bas : nought s.width.toNat s.base = true
theorem may_iff {s : Sig} : may s = true ↔ May s := by
 constructor
 ·intro h
  simp only [may, isW, isZ, Bool.and_eq_true, within_iff, decide_eq_true_eq, List.all_eq_true, okWk] at h
  obtain ⟨⟨⟨⟨⟨⟨⟨a1, a2⟩, a3, a4⟩, a5, a6⟩, a7⟩, a8⟩, a9⟩, a10⟩ := h
  exact ⟨a1, a2, a3, a4, a5, a6, a7, a8, fun k hk => ⟨(a9 k hk).1.1, (a9 k hk).1.2, (a9 k hk).2⟩, a10⟩
 ·intro h
  simp only [may, isW, isZ, Bool.and_eq_true, within_iff, decide_eq_true_eq, List.all_eq_true, okWk]
  exact ⟨⟨⟨⟨⟨⟨⟨h.w1, h.w2⟩, h.z1, h.z2⟩, h.l1, h.l2⟩, h.cnt⟩, h.few⟩, fun k hk => ⟨⟨(h.bks k hk).1, (h.bks k hk).2.1⟩, (h.bks k hk).2.2⟩⟩, h.bas⟩
theorem wf64 {v : Int} (h1 : -9223372036854775808 ≤ v) (h2 : v ≤ 9223372036854775807) : (Lit.int .i64 v).wf = true := by
 simp only [Lit.wf, Bool.and_eq_true, decide_eq_true_eq]
 exact ⟨h1, h2⟩
theorem sum_wf (l : List UInt8) : (Lit.int .i64 (Rol.sum l : Nat)).wf = true := by
 have := Rol.sum_lt l
 exact wf64 (by omega) (by omega)
def weak (w : Int) (b : List UInt8) : Wk := ⟨(Rol.sum b : Nat), Sha.ident w b, Sha.ident_len _ _, sum_wf _⟩
def blk (z : Nat) (b : List UInt8) (k : Nat) : List UInt8 := (b.drop (k * z)).take z
def weaks (w : Int) (z : Nat) (b : List UInt8) (n : Nat) : List Wk := (List.range n).map fun k => weak w (blk z b k)
theorem weaks_len (w : Int) (z : Nat) (b : List UInt8) (n : Nat) : (weaks w z b n).length = n := by simp [weaks]
theorem weaks_snoc (w : Int) (z : Nat) (b : List UInt8) (n : Nat) : weaks w z b (n + 1) = weaks w z b n ++ [weak w (blk z b n)] := by simp [weaks, List.range_succ]
def sign (w : Int) (b : List UInt8) (z : Nat) : Sig := ⟨w, z, b.length, Sha.ident w b, weaks w z b (b.length / z), Sha.ident_len _ _⟩
def signE (w : Int) (n : Nat) (z : Int) : Int :=
 if (isW w && isZ z) = false then 1 else if 131072 < n then 2 else if 2048 < (n : Int) / z then 183 else 0
theorem nought_ident (w : Int) (b : List UInt8) : nought w.toNat (Sha.ident w b) = true := by
 unfold Sha.ident
 split
 ·rw [nought, List.all_eq_true]
  intro x hx
  have := List.mem_of_mem_drop hx
  rw [List.mem_replicate] at this
  simp [this.2]
 ·rw [nought, List.all_eq_true]
  intro x hx
  have h : w.toNat ≤ 32 := by omega
  rw [List.drop_append_of_le_length (by rw [List.length_take, Sha.full_len]; omega), List.drop_take_self] at hx
  simp only [List.nil_append, List.mem_replicate] at hx
  simp [hx.2]
def sealed (xs : List UInt8) : List UInt8 := xs ++ Pure.fix (Pure.sum xs) 4
end Dlt
end

end Go.Proofs.YtmklodligplbaabGreat
