/-
  A table comes back from its bytes, and from no others: mathematics.
-/
import Derived.Test.YtdeneflgldagpabT8p
namespace Go.Proofs.Ytdeneflgldagpab
open Go.RowKit Go.Sort
set_option linter.unusedVariables false
set_option linter.unusedSimpArgs false

namespace Tb
theorem flat_drop (L : List Res) (i : Nat) : (L.flatMap encE).drop (65 * i) = (L.drop i).flatMap encE := by
  induction i generalizing L with
  | zero => simp
  | succ i ih =>
    cases L with
    | nil => simp
    | cons e r =>
      rw [List.flatMap_cons, List.drop_succ_cons, ← ih r, show 65 * (i + 1) = (encE e).length + 65 * i by rw [encE_len]; omega, List.drop_append]
      rw [show (encE e).length + 65 * i - (encE e).length = 65 * i by omega, List.drop_of_length_le (by omega), List.nil_append]
theorem encT_len (L : List Res) : (encT L).length = 1 + 65 * L.length := by
  unfold encT
  rw [List.length_cons, flat_len]
  omega
theorem encT_by {L : List Res} (h : L.length ≤ 32) : by' (encT L) 0 = L.length := by
  unfold by' encT
  simp only [List.getD, List.getElem?_cons_zero, Option.getD_some]
  rw [UInt8.toNat_ofNat', Nat.mod_eq_of_lt (by omega)]
theorem encT_drop (L : List Res) (i : Nat) : (encT L).drop (1 + 65 * i) = (L.drop i).flatMap encE := by
  unfold encT
  rw [Nat.add_comm, List.drop_succ_cons, flat_drop]
theorem resAt_enc {L : List Res} (hv : valid L = true) {i : Nat} (hi : i < L.length) : resAt (encT L) (1 + 65 * i) = L.getD i res0 := by
  have hd := encT_drop L i
  rw [show L.drop i = L.getD i res0 :: L.drop (i + 1) by rw [List.drop_eq_getElem_cons hi]; simp [List.getD, List.getElem?_eq_getElem hi]] at hd
  have hc := valid_code hv hi
  generalize L.getD i res0 = e at hd hc
  rw [List.flatMap_cons] at hd
  have ha := e.ha
  have hr := e.hr
  unfold resAt
  have h1 : ((encT L).drop (1 + 65 * i)).take 32 = e.action := by
    rw [hd]
    unfold encE
    rw [List.append_assoc, List.append_assoc, List.take_append_of_le_length (by omega), List.take_of_length_le (by omega)]
  have h2 : ((encT L).drop (1 + 65 * i + 32)).take 32 = e.root := by
    rw [← List.drop_drop, hd]
    unfold encE
    rw [List.append_assoc, List.append_assoc, List.drop_append_of_le_length (by omega), List.drop_of_length_le (by omega), List.nil_append, List.take_append_of_le_length (by omega), List.take_of_length_le (by omega)]
  have h3 : by' (encT L) (1 + 65 * i + 64) = e.code.toNat := by
    have h4 : (encT L)[1 + 65 * i + 64]? = some (UInt8.ofNat e.code.toNat) := by
      rw [← List.getElem?_drop, hd]
      unfold encE
      rw [List.append_assoc, List.append_assoc, List.getElem?_append_right (by omega), ha, List.getElem?_append_right (by omega), hr]
      rfl
    unfold by'
    rw [List.getD, h4]
    simp only [Option.getD_some]
    rw [UInt8.toNat_ofNat', Nat.mod_eq_of_lt (by omega)]
  apply Res.same
  · simp only [h1]; exact pad_eq ha
  · simp only [h2]; exact pad_eq hr
  · simp only [h3]; omega
theorem map_res (L : List Res) (f : Nat → Res) (h : ∀ i, i < L.length → f i = L.getD i res0) : (List.range L.length).map f = L := by
  apply List.ext_getElem
  · simp
  · intro i h1 h2
    simp only [List.getElem_map, List.getElem_range]
    rw [h i h2]
    simp [List.getD, List.getElem?_eq_getElem h2]
/-- P8.3 -/
theorem parse_enc {L : List Res} (hv : valid L = true) : parse (encT L) = some L := by
  have h32 := valid_len hv
  have hm : ((List.range (by' (encT L) 0)).map fun i => resAt (encT L) (1 + 65 * i)) = L := by
    rw [encT_by h32]
    exact map_res L _ (fun i hi => resAt_enc hv hi)
  unfold parse
  rw [hm, if_pos ⟨by rw [encT_len]; omega, by rw [encT_by h32]; exact h32, by rw [encT_len, encT_by h32], hv⟩]
theorem parse_valid {xs : List UInt8} {L : List Res} (h : parse xs = some L) : valid L = true := by
  unfold parse at h
  split at h
  · rename_i hc
    cases h
    exact hc.2.2.2
  · cases h
theorem encE_at {xs : List UInt8} {a : Nat} (h : a + 65 ≤ xs.length) : encE (resAt xs a) = (xs.drop a).take 65 := by
  unfold encE resAt
  simp only
  rw [pad_eq (by simp; omega), pad_eq (by simp; omega)]
  have h1 : ((by' xs (a + 64) : Nat) : Int).toNat = by' xs (a + 64) := Int.toNat_natCast _
  rw [h1]
  have h2 : UInt8.ofNat (by' xs (a + 64)) = xs.getD (a + 64) 0 := by unfold by'; exact UInt8.ofNat_toNat
  rw [h2, ← List.drop_drop]
  generalize hy : xs.drop a = ys
  have hl : 65 ≤ ys.length := by rw [← hy]; simp; omega
  have h3 : xs.getD (a + 64) 0 = ys.getD 64 0 := by rw [← hy]; simp [List.getD, List.getElem?_drop]
  rw [h3]
  have h4 : ys.take 65 = ys.take 64 ++ [ys.getD 64 0] := take_snoc' ys 0 64 (by omega)
  rw [h4, show (64 : Nat) = 32 + 32 from rfl, List.take_add]
theorem flat_chunks (n : Nat) : ∀ (ys : List UInt8), ys.length = 65 * n → (List.range n).flatMap (fun i => (ys.drop (65 * i)).take 65) = ys := by
  induction n with
  | zero => intro ys h; simp at h; simp [h]
  | succ n ih =>
    intro ys h
    rw [List.range_succ, List.flatMap_append]
    have h1 : (List.range n).flatMap (fun i => (ys.drop (65 * i)).take 65) = ys.take (65 * n) := by
      rw [← ih (ys.take (65 * n)) (by simp; omega)]
      rw [List.flatMap_def, List.flatMap_def]
      congr 1
      apply List.map_congr_left
      intro i hi
      have hi' : i < n := by simpa using hi
      rw [List.drop_take, List.take_take, Nat.min_eq_left (by omega)]
    rw [h1]
    simp only [List.flatMap_cons, List.flatMap_nil, List.append_nil]
    have h2 : (ys.drop (65 * n)).take 65 = ys.drop (65 * n) := List.take_of_length_le (by rw [List.length_drop]; omega)
    rw [h2, List.take_append_drop]
theorem enc_parse {xs : List UInt8} {L : List Res} (h : parse xs = some L) : encT L = xs := by
  unfold parse at h
  split at h
  · rename_i hc
    obtain ⟨h0, h32, hl, _⟩ := hc
    cases h
    obtain ⟨c, rest, e⟩ : ∃ c rest, xs = c :: rest := by
      cases xs with
      | nil => simp at h0
      | cons c rest => exact ⟨c, rest, rfl⟩
    have hn : by' xs 0 = c.toNat := by rw [e]; rfl
    unfold encT
    rw [List.length_map, List.length_range, List.flatMap_map]
    have h1 : UInt8.ofNat (by' xs 0) = c := by rw [hn]; exact UInt8.ofNat_toNat
    rw [h1]
    have h2 : (List.range (by' xs 0)).flatMap (fun i => encE (resAt xs (1 + 65 * i))) = rest := by
      have hr : rest.length = 65 * by' xs 0 := by rw [e, List.length_cons, ← e] at hl; omega
      rw [← flat_chunks (by' xs 0) rest hr]
      rw [List.flatMap_def, List.flatMap_def]
      congr 1
      apply List.map_congr_left
      intro i hi
      have hi' : i < by' xs 0 := by simpa using hi
      rw [encE_at (by rw [hl]; omega)]
      congr 1
      rw [Nat.add_comm 1]
      conv => lhs; rw [e]
      rw [List.drop_succ_cons]
    rw [h2, e]
  · cases h
theorem parse_more {L : List Res} (hv : valid L = true) (c : UInt8) : parse (encT L ++ [c]) = none := by
  have h32 := valid_len hv
  have hb : by' (encT L ++ [c]) 0 = L.length := by
    rw [← encT_by h32]
    unfold by'
    simp only [List.getD]
    rw [List.getElem?_append_left (by rw [encT_len]; omega)]
  unfold parse
  rw [if_neg]
  rintro ⟨_, _, hl, _⟩
  rw [hb, List.length_append, encT_len, List.length_singleton] at hl
  omega
theorem parse_less {L : List Res} (hv : valid L = true) {m : Nat} (hm : m + 1 = (encT L).length) : parse ((encT L).take m) = none := by
  have h32 := valid_len hv
  rw [encT_len] at hm
  unfold parse
  rw [if_neg]
  rintro ⟨h0, _, hl, _⟩
  have hlen : ((encT L).take m).length = m := by rw [List.length_take, encT_len]; omega
  rw [hlen] at hl h0
  have hb : by' ((encT L).take m) 0 = L.length := by
    rw [← encT_by h32]
    unfold by'
    simp only [List.getD]
    rw [List.getElem?_take, if_pos (by omega)]
  rw [hb] at hl
  omega
end Tb
end Go.Proofs.Ytdeneflgldagpab
