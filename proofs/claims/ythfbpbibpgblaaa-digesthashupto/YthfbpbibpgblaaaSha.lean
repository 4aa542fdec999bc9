/-
  Plain mathematics of chapter 2 (digest): SHA-256 on numbers. Nothing of the program.
-/
import Derived.Laws.BitsAllLaws
namespace Go.Proofs.Ythfbpbibpgblaaa.Sha

def add (a b : Nat) : Nat := (a + b) % 4294967296
def rot (x n : Nat) : Nat := (x / 2 ^ n) ||| (x * 2 ^ (32 - n) % 4294967296)
def late (x : Nat) : Nat := rot x 17 ^^^ rot x 19 ^^^ (x / 1024)
def early (x : Nat) : Nat := rot x 7 ^^^ rot x 18 ^^^ (x / 8)
/-- A word that the 16 grow to, of those 2, 7, 15 and 16 ahead of it. -/
def grow (p g q o : Nat) : Nat := add (add (add (late p) g) (early q)) o
def big1 (e : Nat) : Nat := rot e 6 ^^^ rot e 11 ^^^ rot e 25
def ch (e f g : Nat) : Nat := (e &&& f) ^^^ ((4294967295 - e) &&& g)
def big0 (a : Nat) : Nat := rot a 2 ^^^ rot a 13 ^^^ rot a 22
def maj (a b c : Nat) : Nat := (a &&& b) ^^^ (a &&& c) ^^^ (b &&& c)
def xs (h e f g k w : Nat) : Nat := add (add (add (add h (big1 e)) (ch e f g)) k) w
def ys (a b c : Nat) : Nat := add (big0 a) (maj a b c)

theorem add_lt (a b : Nat) : add a b < 4294967296 := Nat.mod_lt _ (by omega)
theorem xor_lt {a b : Nat} (ha : a < 4294967296) (hb : b < 4294967296) : a ^^^ b < 4294967296 := Nat.xor_lt_two_pow (n := 32) ha hb
theorem and_lt {a : Nat} (b : Nat) (ha : a < 4294967296) : a &&& b < 4294967296 := Nat.lt_of_le_of_lt Nat.and_le_left ha
theorem or_lt {a b : Nat} (ha : a < 4294967296) (hb : b < 4294967296) : a ||| b < 4294967296 := Nat.or_lt_two_pow (n := 32) ha hb
theorem div_lt {a : Nat} (b : Nat) (ha : a < 4294967296) : a / b < 4294967296 := Nat.lt_of_le_of_lt (Nat.div_le_self _ _) ha
theorem rot_lt {x : Nat} (n : Nat) (hx : x < 4294967296) : rot x n < 4294967296 := or_lt (div_lt _ hx) (Nat.mod_lt _ (by omega))
theorem late_lt {x : Nat} (hx : x < 4294967296) : late x < 4294967296 := xor_lt (xor_lt (rot_lt _ hx) (rot_lt _ hx)) (div_lt _ hx)
theorem early_lt {x : Nat} (hx : x < 4294967296) : early x < 4294967296 := xor_lt (xor_lt (rot_lt _ hx) (rot_lt _ hx)) (div_lt _ hx)
theorem grow_lt (p g q o : Nat) : grow p g q o < 4294967296 := add_lt _ _
theorem big1_lt {x : Nat} (hx : x < 4294967296) : big1 x < 4294967296 := xor_lt (xor_lt (rot_lt _ hx) (rot_lt _ hx)) (rot_lt _ hx)
theorem big0_lt {x : Nat} (hx : x < 4294967296) : big0 x < 4294967296 := xor_lt (xor_lt (rot_lt _ hx) (rot_lt _ hx)) (rot_lt _ hx)
theorem ch_lt {e : Nat} (f g : Nat) (he : e < 4294967296) : ch e f g < 4294967296 := xor_lt (and_lt _ he) (and_lt _ (by omega))
theorem maj_lt {a b : Nat} (c : Nat) (ha : a < 4294967296) (hb : b < 4294967296) : maj a b c < 4294967296 := xor_lt (xor_lt (and_lt _ ha) (and_lt _ ha)) (and_lt _ hb)
theorem xs_lt (h e f g k w : Nat) : xs h e f g k w < 4294967296 := add_lt _ _
theorem ys_lt (a b c : Nat) : ys a b c < 4294967296 := add_lt _ _

/-- Eight words. -/
structure S8 where
  a : Nat
  b : Nat
  c : Nat
  d : Nat
  e : Nat
  f : Nat
  g : Nat
  h : Nat

def S8.words (s : S8) : List Nat := [s.a, s.b, s.c, s.d, s.e, s.f, s.g, s.h]
structure S8.Ok (s : S8) : Prop where
  a : s.a < 4294967296
  b : s.b < 4294967296
  c : s.c < 4294967296
  d : s.d < 4294967296
  e : s.e < 4294967296
  f : s.f < 4294967296
  g : s.g < 4294967296
  h : s.h < 4294967296

def first : S8 := ⟨1779033703, 3144134277, 1013904242, 2773480762, 1359893119, 2600822924, 528734635, 1541459225⟩
theorem first_ok : first.Ok := by constructor <;> decide

def table : List Nat := [
  1116352408, 1899447441, 3049323471, 3921009573, 961987163, 1508970993, 2453635748, 2870763221,
  3624381080, 310598401, 607225278, 1426881987, 1925078388, 2162078206, 2614888103, 3248222580,
  3835390401, 4022224774, 264347078, 604807628, 770255983, 1249150122, 1555081692, 1996064986,
  2554220882, 2821834349, 2952996808, 3210313671, 3336571891, 3584528711, 113926993, 338241895,
  666307205, 773529912, 1294757372, 1396182291, 1695183700, 1986661051, 2177026350, 2456956037,
  2730485921, 2820302411, 3259730800, 3345764771, 3516065817, 3600352804, 4094571909, 275423344,
  430227734, 506948616, 659060556, 883997877, 958139571, 1322822218, 1537002063, 1747873779,
  1955562222, 2024104815, 2227730452, 2361852424, 2428436474, 2756734187, 3204031479, 3329325298]
def tb (t : Nat) : Nat := table.getD t 0
theorem tb_lt (i : Nat) : tb i < 4294967296 := by
  unfold tb
  by_cases h : i < 64
  · have : ∀ i, i < 64 → table.getD i 0 < 4294967296 := by decide
    exact this i h
  · have : table.length ≤ i := by simp [table]; omega
    simp [List.getElem?_eq_none this]

/-- Four bytes as a word. -/
def word (a b c d : UInt8) : Nat := a.toNat * 16777216 + b.toNat * 65536 + c.toNat * 256 + d.toNat
theorem word_lt (a b c d : UInt8) : word a b c d < 4294967296 := by
  have := a.toNat_lt; have := b.toNat_lt; have := c.toNat_lt; have := d.toNat_lt
  unfold word; omega
def wordAt (bs : List UInt8) (t : Nat) : Nat := word (bs.getD (4 * t) 0) (bs.getD (4 * t + 1) 0) (bs.getD (4 * t + 2) 0) (bs.getD (4 * t + 3) 0)

/-- The first words, t of them laid. -/
def lay (bs : List UInt8) : Nat → List Nat
  | 0 => List.replicate 64 0
  | t + 1 => (lay bs t).set t (wordAt bs t)
/-- k words more. -/
def more (A : List Nat) : Nat → List Nat
  | 0 => A
  | k + 1 => (more A k).set (16 + k) (grow ((more A k).getD (14 + k) 0) ((more A k).getD (9 + k) 0) ((more A k).getD (1 + k) 0) ((more A k).getD k 0))
def spread (bs : List UInt8) : List Nat := more (lay bs 16) 48

/-- All words are words. -/
def Words (l : List Nat) : Prop := ∀ i, l.getD i 0 < 4294967296
theorem Words.set {l : List Nat} (h : Words l) (i : Nat) {v : Nat} (hv : v < 4294967296) : Words (l.set i v) := by
  intro j
  have hj := h j
  simp only [List.getD_eq_getElem?_getD, List.getElem?_set] at hj ⊢
  by_cases e : i = j
  · subst e
    by_cases hl : i < l.length <;> simp [hl, hv]
  · simpa [e] using hj
theorem lay_words (bs : List UInt8) (t : Nat) : Words (lay bs t) := by
  induction t with
  | zero =>
    intro i
    simp only [lay, List.getD_eq_getElem?_getD, List.getElem?_replicate]
    split <;> simp
  | succ t ih => exact ih.set t (word_lt _ _ _ _)
theorem lay_len (bs : List UInt8) (t : Nat) : (lay bs t).length = 64 := by
  induction t with
  | zero => simp [lay]
  | succ t ih => simp [lay, ih]
theorem more_words {A : List Nat} (h : Words A) (k : Nat) : Words (more A k) := by
  induction k with
  | zero => exact h
  | succ k ih => exact ih.set _ (grow_lt _ _ _ _)
theorem more_len (A : List Nat) (k : Nat) : (more A k).length = A.length := by
  induction k with
  | zero => rfl
  | succ k ih => simp [more, ih]
theorem spread_words (bs : List UInt8) : Words (spread bs) := more_words (lay_words bs 16) 48
theorem spread_len (bs : List UInt8) : (spread bs).length = 64 := by rw [spread, more_len, lay_len]

/-- One of the 64 rounds. -/
def rnd (s : S8) (k w : Nat) : S8 :=
  ⟨add (xs s.h s.e s.f s.g k w) (ys s.a s.b s.c), s.a, s.b, s.c, add s.d (xs s.h s.e s.f s.g k w), s.e, s.f, s.g⟩
theorem rnd_ok {s : S8} (h : s.Ok) (k w : Nat) : (rnd s k w).Ok := ⟨add_lt _ _, h.a, h.b, h.c, add_lt _ _, h.e, h.f, h.g⟩
def rounds (W : List Nat) (s : S8) : Nat → S8
  | 0 => s
  | t + 1 => rnd (rounds W s t) (tb t) (W.getD t 0)
theorem rounds_ok {s : S8} (h : s.Ok) (W : List Nat) (t : Nat) : (rounds W s t).Ok := by
  induction t with
  | zero => exact h
  | succ t ih => exact rnd_ok ih _ _
def plus (s r : S8) : S8 := ⟨add s.a r.a, add s.b r.b, add s.c r.c, add s.d r.d, add s.e r.e, add s.f r.f, add s.g r.g, add s.h r.h⟩
theorem plus_ok (s r : S8) : (plus s r).Ok := ⟨add_lt _ _, add_lt _ _, add_lt _ _, add_lt _ _, add_lt _ _, add_lt _ _, add_lt _ _, add_lt _ _⟩
/-- The state behind 64 bytes. -/
def turn (s : S8) (bs : List UInt8) : S8 := plus s (rounds (spread bs) s 64)
theorem turn_ok (s : S8) (bs : List UInt8) : (turn s bs).Ok := plus_ok _ _

/-- The state behind the first n rows of 64 bytes. -/
def st (l : List UInt8) : Nat → S8
  | 0 => first
  | n + 1 => turn (st l n) ((l.drop (64 * n)).take 64)
theorem st_ok (l : List UInt8) (n : Nat) : (st l n).Ok := by
  cases n with
  | zero => exact first_ok
  | succ n => exact turn_ok _ _
/-- Bytes behind the end of what was looked at say nothing. -/
theorem st_append (l r : List UInt8) : ∀ n, 64 * n ≤ l.length → st (l ++ r) n = st l n
  | 0, _ => rfl
  | n + 1, h => by
    have e : ((l ++ r).drop (64 * n)).take 64 = (l.drop (64 * n)).take 64 := by
      rw [List.drop_append_of_le_length (by omega), List.take_append_of_le_length (by simp; omega)]
    simp only [st, e, st_append l r n (by omega)]

/-- A number in eight bytes, the highest first. -/
def be8 (n : Nat) : List UInt8 := (List.range 8).map fun i => UInt8.ofNat (n / 256 ^ (7 - i) % 256)
/-- What stands behind a message of n bytes. -/
def size (n : Nat) : Nat := if 64 - n % 64 < 9 then 128 - n % 64 else 64 - n % 64
def ending (n : Nat) : List UInt8 := 128 :: (List.replicate (size n - 9) 0 ++ be8 (8 * n % 18446744073709551616))
theorem size_ge (n : Nat) : 9 ≤ size n ∧ size n ≤ 72 ∧ (n + size n) % 64 = 0 := by
  unfold size
  split <;> omega
theorem be8_len (n : Nat) : (be8 n).length = 8 := by simp [be8]
theorem ending_len (n : Nat) : (ending n).length = size n := by
  have := size_ge n
  simp [ending, be8_len]; omega
/-- A word in four bytes. -/
def four (w : Nat) : List UInt8 := [UInt8.ofNat (w / 16777216 % 256), UInt8.ofNat (w / 65536 % 256), UInt8.ofNat (w / 256 % 256), UInt8.ofNat (w % 256)]
def bytes (s : S8) : List UInt8 := four s.a ++ four s.b ++ four s.c ++ four s.d ++ four s.e ++ four s.f ++ four s.g ++ four s.h
theorem bytes_len (s : S8) : (bytes s).length = 32 := rfl
/-- The digest. -/
def full (m : List UInt8) : List UInt8 := bytes (st (m ++ ending m.length) ((m.length + size m.length) / 64))
theorem full_len (m : List UInt8) : (full m).length = 32 := rfl
/-- The id of a width. -/
def ident (width : Int) (m : List UInt8) : List UInt8 :=
  if width < 1 ∨ 32 < width then List.replicate 32 0 else (full m).take width.toNat ++ List.replicate (32 - width.toNat) 0
theorem ident_len (width : Int) (m : List UInt8) : (ident width m).length = 32 := by
  unfold ident
  split
  · simp
  · simp [full_len]; omega

end Go.Proofs.Ythfbpbibpgblaaa.Sha
