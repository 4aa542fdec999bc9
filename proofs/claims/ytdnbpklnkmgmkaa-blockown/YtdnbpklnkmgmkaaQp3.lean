/-
  Packed bytes as mathematics: items as bytes in groups, there and back. Nothing of the program.
-/
import Derived.Test.YtdnbpklnkmgmkaaQp2
namespace Go.Proofs.Ytdnbpklnkmgmkaa
set_option linter.unusedVariables false

namespace Prs

/-- A match as a number. -/
def code (d l : Nat) : Nat := (d - 1) * 64 + (l - 3)
def bodyOf : Item → List UInt8
  | .lit b => [b]
  | .mat d l => [UInt8.ofNat (code d l / 256), UInt8.ofNat (code d l % 256)]
def bitOf : Item → Nat
  | .lit _ => 0
  | .mat _ _ => 1
def flagOf : List Item → Nat
  | [] => 0
  | i :: l => bitOf i + 2 * flagOf l
def flat : List Item → List UInt8
  | [] => []
  | i :: l => bodyOf i ++ flat l

theorem flat_append : ∀ (l m : List Item), flat (l ++ m) = flat l ++ flat m
  | [], m => rfl
  | i :: l, m => by simp [flat, flat_append l m]
theorem bitOf_lt (i : Item) : bitOf i < 2 := by cases i <;> simp [bitOf]
theorem flagOf_append : ∀ (l : List Item) (i : Item), flagOf (l ++ [i]) = flagOf l + bitOf i * 2 ^ l.length
  | [], i => by simp [flagOf]
  | j :: l, i => by simp only [List.cons_append, flagOf, flagOf_append l i, List.length_cons, Nat.pow_succ, Nat.mul_add]; rw [show 2 * (bitOf i * 2 ^ l.length) = bitOf i * (2 ^ l.length * 2) by rw [Nat.mul_comm 2, Nat.mul_assoc]]; omega
theorem flagOf_lt : ∀ (l : List Item), flagOf l < 2 ^ l.length
  | [] => by simp [flagOf]
  | i :: l => by have := flagOf_lt l; have := bitOf_lt i; simp only [flagOf, List.length_cons, Nat.pow_succ]; omega

/-- The groups so far and the one that is being filled. -/
def outOf (pre : List UInt8) (cur : List Item) : List UInt8 := if cur = [] then pre else pre ++ UInt8.ofNat (flagOf cur) :: flat cur
def encs : List Item → List UInt8 → List Item → List UInt8
  | [], pre, cur => outOf pre cur
  | i :: l, pre, cur => if cur.length = 8 then encs l (outOf pre cur) [i] else encs l pre (cur ++ [i])

def pack (data : List UInt8) : List UInt8 := encs (items data data.length 0) [] []

theorem outOf_pre (p pre : List UInt8) (cur : List Item) : outOf (p ++ pre) cur = p ++ outOf pre cur := by
  unfold outOf; split <;> simp
theorem encs_pre (p : List UInt8) : ∀ (l : List Item) (pre : List UInt8) (cur : List Item), encs l (p ++ pre) cur = p ++ encs l pre cur
  | [], pre, cur => outOf_pre p pre cur
  | i :: l, pre, cur => by
    simp only [encs]
    split
    · rw [outOf_pre, encs_pre p l]
    · rw [encs_pre p l]

theorem encs_len : ∀ (l : List Item) (pre : List UInt8) (cur : List Item), cur.length ≤ 8 → (encs l pre cur).length = pre.length + (flat (cur ++ l)).length + ((cur ++ l).length + 7) / 8
  | [], pre, cur, h => by
    simp only [encs, outOf, List.append_nil]
    by_cases h0 : cur = []
    · subst h0; simp [flat]
    · have : 0 < cur.length := List.length_pos_iff.2 h0
      rw [if_neg h0]; simp only [List.length_append, List.length_cons]; omega
  | i :: l, pre, cur, h => by
    simp only [encs]
    split
    · next h8 =>
      rw [encs_len l _ [i] (by simp), outOf, if_neg (by rintro rfl; simp at h8)]
      simp only [flat_append, List.length_append, List.length_cons, List.cons_append, List.nil_append, flat]
      omega
    · next h8 =>
      rw [encs_len l _ _ (by simp; omega)]
      simp

/-- The items of one group and the rest. -/
theorem encs_group (cur : List Item) : ∀ (l : List Item), cur.length ≤ 8 → cur ++ l ≠ [] → encs l [] cur = UInt8.ofNat (flagOf ((cur ++ l).take 8)) :: flat ((cur ++ l).take 8) ++ encs ((cur ++ l).drop 8) [] []
  | [], h, h0 => by
    simp only [List.append_nil] at h0
    rw [List.append_nil, List.take_of_length_le h, List.drop_of_length_le h]
    simp [encs, outOf, h0]
  | i :: l, h, h0 => by
    simp only [encs]
    split
    · next h8 =>
      have e : outOf [] cur = outOf [] cur ++ [] := by simp
      rw [e, encs_pre, List.take_append_of_le_length (by omega), List.take_of_length_le (by omega)]
      rw [show (cur ++ i :: l).drop 8 = i :: l by rw [← h8]; simp]
      have hc : cur ≠ [] := by rintro rfl; simp at h8
      simp [encs, outOf, hc]
    · next h8 =>
      have := encs_group (cur ++ [i]) l (by simp; omega) (by simp)
      simpa using this
theorem encs_split (l : List Item) (h : l ≠ []) : encs l [] [] = UInt8.ofNat (flagOf (l.take 8)) :: flat (l.take 8) ++ encs (l.drop 8) [] [] := by
  have := encs_group [] l (by simp) (by simpa using h)
  simpa using this

/-- An item that may come behind out. -/
def okItem (n : Nat) (out : List UInt8) : Item → Prop
  | .lit _ => out.length < n
  | .mat d l => 1 ≤ d ∧ d ≤ out.length ∧ d ≤ 1024 ∧ 3 ≤ l ∧ l ≤ 66 ∧ out.length + l ≤ n
def longItem (n : Nat) (out : List UInt8) : Item → Prop
  | .lit _ => out.length = n
  | .mat d l => 1 ≤ d ∧ d ≤ out.length ∧ d ≤ 1024 ∧ 3 ≤ l ∧ l ≤ 66 ∧ n < out.length + l
def Fits (n : Nat) : List UInt8 → List Item → Prop
  | _, [] => True
  | out, i :: l => okItem n out i ∧ Fits n (made out i) l
def Over (n : Nat) : List UInt8 → List Item → Prop
  | _, [] => False
  | out, i :: l => longItem n out i ∨ (okItem n out i ∧ Over n (made out i) l)

theorem fits_append (n : Nat) : ∀ (l m : List Item) (out : List UInt8), Fits n out (l ++ m) ↔ Fits n out l ∧ Fits n (madeAll out l) m
  | [], m, out => by simp [Fits, madeAll]
  | i :: l, m, out => by simp only [List.cons_append, Fits, fits_append n l m, madeAll, List.foldl_cons, and_assoc]
theorem over_append (n : Nat) : ∀ (l m : List Item) (out : List UInt8), Over n out (l ++ m) → Over n out l ∨ (Fits n out l ∧ Over n (madeAll out l) m)
  | [], m, out, h => .inr ⟨trivial, h⟩
  | i :: l, m, out, h => by
    rcases h with h | ⟨h1, h2⟩
    · exact .inl (.inl h)
    · rcases over_append n l m _ h2 with h | ⟨h3, h4⟩
      · exact .inl (.inr ⟨h1, h⟩)
      · exact .inr ⟨⟨h1, h3⟩, h4⟩

theorem code_lt {d l : Nat} (h1 : 1 ≤ d) (h2 : d ≤ 1024) (h3 : 3 ≤ l) (h4 : l ≤ 66) : code d l < 65536 := by unfold code; omega
theorem code_back {d l : Nat} (h1 : 1 ≤ d) (h2 : d ≤ 1024) (h3 : 3 ≤ l) (h4 : l ≤ 66) :
    256 * (UInt8.ofNat (code d l / 256)).toNat + (UInt8.ofNat (code d l % 256)).toNat = code d l := by
  have := code_lt h1 h2 h3 h4
  rw [UInt8.toNat_ofNat', UInt8.toNat_ofNat']
  omega
theorem code_div {d l : Nat} (h1 : 1 ≤ d) (h3 : 3 ≤ l) (h4 : l ≤ 66) : code d l / 64 + 1 = d ∧ code d l % 64 + 3 = l := by unfold code; omega

theorem unp_item (n k flag : Nat) (i : Item) (rest out : List UInt8) (hb : flag % 2 = bitOf i) (h : okItem n out i) : unp n (k + 1) flag (bodyOf i ++ rest) out = unp n k (flag / 2) rest (made out i) := by
  cases i with
  | lit b => exact unp_lit _ _ _ _ _ _ hb (by have : out.length < n := h; omega)
  | mat d l =>
    obtain ⟨h1, h2, h3, h4, h5, h6⟩ := h
    have e := code_back h1 h3 h4 h5
    obtain ⟨e1, e2⟩ := code_div h1 h4 h5
    simp only [bodyOf, List.cons_append, List.nil_append]
    rw [unp_mat _ _ _ _ _ _ _ hb (by rw [e]; omega) (by rw [e]; omega), e, e1, e2]
    rfl
theorem unp_item_long (n k flag : Nat) (i : Item) (rest out : List UInt8) (hb : flag % 2 = bitOf i) (h : longItem n out i) : unp n (k + 1) flag (bodyOf i ++ rest) out = ([], 41) := by
  cases i with
  | lit b => exact unp_full _ _ _ _ _ _ hb h
  | mat d l =>
    obtain ⟨h1, h2, h3, h4, h5, h6⟩ := h
    have e := code_back h1 h3 h4 h5
    obtain ⟨e1, e2⟩ := code_div h1 h4 h5
    simp only [bodyOf, List.cons_append, List.nil_append]
    rw [unp_long _ _ _ _ _ _ _ hb (by rw [e]; omega) (by rw [e]; omega)]

theorem unp_items (n j : Nat) (rest : List UInt8) : ∀ (cur : List Item) (out : List UInt8), Fits n out cur → unp n (cur.length + j) (flagOf cur) (flat cur ++ rest) out = unp n j 0 rest (madeAll out cur)
  | [], out, _ => by simp [flagOf, flat, madeAll]
  | i :: l, out, ⟨h1, h2⟩ => by
    have hb := bitOf_lt i
    rw [show (i :: l).length + j = (l.length + j) + 1 by simp; omega]
    simp only [flat, List.append_assoc]
    rw [unp_item n _ _ i _ out (by simp only [flagOf]; omega) h1, show flagOf (i :: l) / 2 = flagOf l by simp only [flagOf]; omega, unp_items n j rest l _ h2]
    rfl
theorem unp_items_over (n j : Nat) (rest : List UInt8) : ∀ (cur : List Item) (out : List UInt8), Over n out cur → unp n (cur.length + j) (flagOf cur) (flat cur ++ rest) out = ([], 41)
  | [], out, h => h.elim
  | i :: l, out, h => by
    have hb := bitOf_lt i
    rw [show (i :: l).length + j = (l.length + j) + 1 by simp; omega]
    simp only [flat, List.append_assoc]
    rcases h with h | ⟨h1, h2⟩
    · exact unp_item_long n _ _ i _ out (by simp only [flagOf]; omega) h
    · rw [unp_item n _ _ i _ out (by simp only [flagOf]; omega) h1, show flagOf (i :: l) / 2 = flagOf l by simp only [flagOf]; omega, unp_items_over n j rest l _ h2]

theorem bodyOf_cons (i : Item) : ∃ x r, bodyOf i = x :: r := by cases i <;> exact ⟨_, _, rfl⟩
/-- One group. -/
theorem unp_group (n : Nat) (cur : List Item) (rest out : List UInt8) (h0 : cur ≠ []) (h8 : cur.length ≤ 8) : unp n 0 0 (UInt8.ofNat (flagOf cur) :: flat cur ++ rest) out = unp n 8 (flagOf cur) (flat cur ++ rest) out := by
  have hf : flagOf cur < 256 := Nat.lt_of_lt_of_le (flagOf_lt cur) (Nat.pow_le_pow_right (by decide) h8)
  cases cur with
  | nil => exact absurd rfl h0
  | cons i l =>
    obtain ⟨x, r, e⟩ := bodyOf_cons i
    simp only [flat, e, List.cons_append]
    rw [unp_flag, UInt8.toNat_ofNat', Nat.mod_eq_of_lt hf]

theorem unp_zero (n : Nat) (out : List UInt8) (j : Nat) : unp n j 0 [] out = unp n 0 0 [] out := by
  rw [unp_gaps n out j 0 (Nat.two_pow_pos j)]; simp

/-- All groups. -/
theorem unp_encs (n : Nat) : ∀ (m : Nat) (l : List Item) (out : List UInt8), l.length ≤ m → Fits n out l → unp n 0 0 (encs l [] []) out = unp n 0 0 [] (madeAll out l)
  | m, [], out, _, _ => by simp [encs, outOf, madeAll]
  | 0, i :: l, out, h, _ => by simp at h
  | m + 1, i :: l, out, h, hf => by
    have hl : (i :: l).take 8 ++ (i :: l).drop 8 = i :: l := List.take_append_drop _ _
    rw [encs_split (i :: l) (by simp), unp_group n _ _ _ (by simp) (by simp; omega)]
    rw [← hl] at hf
    obtain ⟨h1, h2⟩ := (fits_append n _ _ _).1 hf
    have hm : madeAll out (i :: l) = madeAll (madeAll out ((i :: l).take 8)) ((i :: l).drop 8) := by
      conv => lhs; rw [← hl]
      exact List.foldl_append
    have h8 : ((i :: l).take 8).length + (8 - ((i :: l).take 8).length) = 8 := by simp; omega
    have e := unp_items n (8 - ((i :: l).take 8).length) (encs ((i :: l).drop 8) [] []) _ out h1
    rw [h8] at e
    rw [e, hm]
    by_cases hd : (i :: l).drop 8 = []
    · rw [hd]
      simp only [encs, outOf, if_pos, madeAll, List.foldl_nil]
      rw [unp_zero]
    · have : 8 - ((i :: l).take 8).length = 0 := by
        have : 8 < (i :: l).length := by
          rcases Nat.lt_or_ge 8 (i :: l).length with h | h
          · exact h
          · exact absurd (List.drop_of_length_le h) hd
        simp at this ⊢; omega
      rw [this]
      exact unp_encs n m _ _ (by simp at h ⊢; omega) h2
theorem unp_encs_over (n : Nat) : ∀ (m : Nat) (l : List Item) (out : List UInt8), l.length ≤ m → Over n out l → unp n 0 0 (encs l [] []) out = ([], 41)
  | m, [], out, _, h => h.elim
  | 0, i :: l, out, h, _ => by simp at h
  | m + 1, i :: l, out, h, hf => by
    have hl : (i :: l).take 8 ++ (i :: l).drop 8 = i :: l := List.take_append_drop _ _
    rw [encs_split (i :: l) (by simp), unp_group n _ _ _ (by simp) (by simp; omega)]
    rw [← hl] at hf
    have h8 : ((i :: l).take 8).length + (8 - ((i :: l).take 8).length) = 8 := by simp; omega
    rcases over_append n _ _ _ hf with h1 | ⟨h1, h2⟩
    · have e := unp_items_over n (8 - ((i :: l).take 8).length) (encs ((i :: l).drop 8) [] []) _ out h1
      rw [h8] at e
      exact e
    · have e := unp_items n (8 - ((i :: l).take 8).length) (encs ((i :: l).drop 8) [] []) _ out h1
      rw [h8] at e
      rw [e]
      have hd : (i :: l).drop 8 ≠ [] := by
        intro hd
        rw [hd] at h2
        exact h2
      have : 8 - ((i :: l).take 8).length = 0 := by
        have : 8 < (i :: l).length := by
          rcases Nat.lt_or_ge 8 (i :: l).length with h | h
          · exact h
          · exact absurd (List.drop_of_length_le h) hd
        simp at this ⊢; omega
      rw [this]
      exact unp_encs_over n m _ _ (by simp at h ⊢; omega) h2

theorem itemAt_ok (data : List UInt8) (at_ : Nat) (h : at_ < data.length) (n : Nat) (hn : at_ + (itemAt data at_).2 ≤ n) : okItem n (data.take at_) (itemAt data at_).1 := by
  have hl : (data.take at_).length = at_ := by simp; omega
  unfold itemAt at hn ⊢
  by_cases hm : 3 ≤ (mtch data at_).1
  · rw [if_pos hm] at hn ⊢
    obtain ⟨h1, h2, h3, h4⟩ := mtch_is data at_ (by omega)
    have := alike_le data 66 (at_ - (mtch data at_).2) at_
    simp only [okItem, hl] at hn ⊢
    omega
  · rw [if_neg hm] at hn ⊢
    simp only [okItem, hl] at hn ⊢
    omega
theorem itemAt_long (data : List UInt8) (at_ : Nat) (h : at_ < data.length) (n : Nat) (hn : at_ ≤ n) (hn2 : n < at_ + (itemAt data at_).2) : longItem n (data.take at_) (itemAt data at_).1 := by
  have hl : (data.take at_).length = at_ := by simp; omega
  unfold itemAt at hn2 ⊢
  by_cases hm : 3 ≤ (mtch data at_).1
  · rw [if_pos hm] at hn2 ⊢
    obtain ⟨h1, h2, h3, h4⟩ := mtch_is data at_ (by omega)
    have := alike_le data 66 (at_ - (mtch data at_).2) at_
    simp only [longItem, hl] at hn2 ⊢
    omega
  · rw [if_neg hm] at hn2 ⊢
    simp only [longItem, hl] at hn2 ⊢
    omega
theorem items_fit (data : List UInt8) (n : Nat) (hn : data.length ≤ n) : ∀ (fuel at_ : Nat), at_ ≤ data.length → Fits n (data.take at_) (items data fuel at_)
  | 0, at_, _ => trivial
  | fuel + 1, at_, h => by
    by_cases hl : at_ < data.length
    · obtain ⟨e1, e2, e3⟩ := item_made data at_ hl
      rw [items, if_pos hl]
      refine ⟨itemAt_ok data at_ hl n (by omega), ?_⟩
      rw [e1]
      exact items_fit data n hn fuel _ e3
    · rw [items, if_neg hl]; trivial
theorem items_over (data : List UInt8) (n : Nat) (hn : n < data.length) : ∀ (fuel at_ : Nat), at_ ≤ n → data.length - at_ ≤ fuel → Over n (data.take at_) (items data fuel at_)
  | 0, at_, h, hf => by omega
  | fuel + 1, at_, h, hf => by
    have hl : at_ < data.length := by omega
    obtain ⟨e1, e2, e3⟩ := item_made data at_ hl
    rw [items, if_pos hl]
    by_cases hc : at_ + (itemAt data at_).2 ≤ n
    · refine .inr ⟨itemAt_ok data at_ hl n hc, ?_⟩
      rw [e1]
      exact items_over data n hn fuel _ hc (by omega)
    · exact .inl (itemAt_long data at_ hl n h (by omega))

/-- THERE AND BACK. -/
theorem unp_pack (data : List UInt8) (n : Nat) (hn : data.length ≤ n) : unp n 0 0 (pack data) [] = if data.length < n then ([], 41) else (data, 0) := by
  have h1 := items_fit data n hn data.length 0 (Nat.zero_le _)
  have h2 := items_made data data.length 0 (Nat.zero_le _) (by omega)
  simp only [List.take_zero] at h1 h2
  rw [pack, unp_encs n _ _ [] (Nat.le_refl _) h1, h2, unp_end]
theorem unp_pack_less (data : List UInt8) (n : Nat) (hn : n < data.length) : unp n 0 0 (pack data) [] = ([], 41) := by
  have h1 := items_over data n hn data.length 0 (Nat.zero_le _) (by omega)
  simp only [List.take_zero] at h1
  rw [pack, unp_encs_over n _ _ [] (Nat.le_refl _) h1]

theorem flat_le : ∀ (l : List Item) (n : Nat) (out : List UInt8), Fits n out l → (flat l).length + out.length ≤ (madeAll out l).length ∧ l.length + out.length ≤ (madeAll out l).length
  | [], n, out, _ => by simp [flat, madeAll]
  | .lit b :: l, n, out, ⟨h1, h2⟩ => by
    have := flat_le l n _ h2
    simp only [made, List.length_append, List.length_cons, List.length_nil] at this
    simp only [flat, bodyOf, List.length_append, List.length_cons, List.length_nil]
    show _ ≤ (madeAll (out ++ [b]) l).length ∧ _ ≤ (madeAll (out ++ [b]) l).length
    omega
  | .mat d m :: l, n, out, ⟨h1, h2⟩ => by
    have := flat_le l n _ h2
    have h3 : 3 ≤ m := h1.2.2.2.1
    simp only [made, copied_len] at this
    simp only [flat, bodyOf, List.length_append, List.length_cons, List.length_nil]
    show _ ≤ (madeAll (copied d m out) l).length ∧ _ ≤ (madeAll (copied d m out) l).length
    omega
theorem pack_len (data : List UInt8) : (pack data).length ≤ data.length + (data.length + 7) / 8 := by
  have h1 := items_fit data data.length (Nat.le_refl _) data.length 0 (Nat.zero_le _)
  have h2 := items_made data data.length 0 (Nat.zero_le _) (by omega)
  simp only [List.take_zero] at h1 h2
  have := flat_le _ _ _ h1
  rw [h2] at this
  rw [pack, encs_len _ _ _ (by simp)]
  simp at this ⊢
  omega

end Prs
end Go.Proofs.Ytdnbpklnkmgmkaa
