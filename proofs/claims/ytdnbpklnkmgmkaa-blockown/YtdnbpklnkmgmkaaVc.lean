/-
  Contracts: press.groups: literal, match.
-/
import Derived.Test.YtdnbpklnkmgmkaaVb
namespace Go.Proofs.Ytdnbpklnkmgmkaa
open Go.RowKit
set_option linter.unusedVariables false
set_option linter.unusedSimpArgs false

namespace Prs
/-- One item more. -/
def nxt (pre : List UInt8) (cur : List Item) (i : Item) : List UInt8 × List Item := if cur.length = 8 then (outOf pre cur, [i]) else (pre, cur ++ [i])
theorem encs_nxt (i : Item) (l : List Item) (pre : List UInt8) (cur : List Item) : encs (i :: l) pre cur = encs l (nxt pre cur i).1 (nxt pre cur i).2 := by
  unfold nxt
  simp only [encs]
  split <;> rfl
structure Sync (pre : List UInt8) (cur : List Item) (fl it : Nat) : Prop where
  le : cur.length ≤ 8
  it : it % 8 = cur.length % 8
  fl : cur ≠ [] → fl = pre.length
  nil : cur = [] → pre = []
theorem sync_start : Sync [] [] 0 0 := ⟨by simp, rfl, by simp, by simp⟩
theorem Sync.next {pre : List UInt8} {cur : List Item} {fl it : Nat} (h : Sync pre cur fl it) (i : Item) : Sync (nxt pre cur i).1 (nxt pre cur i).2 (nxt pre cur i).1.length (it + 1) := by
  have h1 := h.le
  have h2 := h.it
  unfold nxt
  split
  · exact ⟨by simp, by simp; omega, fun _ => rfl, by simp⟩
  · exact ⟨by simp; omega, by simp; omega, fun _ => rfl, by simp⟩

theorem set_mid (a : List UInt8) (x y : UInt8) (b : List UInt8) : (a ++ x :: b).set a.length y = a ++ y :: b := by
  rw [List.set_append_right _ _ (Nat.le_refl _)]; simp
theorem get_mid (a : List UInt8) (x : UInt8) (b : List UInt8) : (a ++ x :: b).getD a.length 0 = x := by simp

theorem begin_item {pre : List UInt8} {cur : List Item} {fl it : Nat} (h : Sync pre cur fl it) (i : Item) :
    ((begBs (outOf pre cur) it).set (begFl (outOf pre cur) fl it) (begOr ((begBs (outOf pre cur) it).getD (begFl (outOf pre cur) fl it) 0) (bitOf i) (it % 8))) ++ bodyOf i = outOf (nxt pre cur i).1 (nxt pre cur i).2 ∧
      begFl (outOf pre cur) fl it = (nxt pre cur i).1.length ∧ (it % 8 ≠ 0 → fl < (outOf pre cur).length) := by
  have h1 := h.le
  have h2 := h.it
  have hbit := bitOf_lt i
  by_cases h0 : it % 8 = 0
  · have hn : (nxt pre cur i).1 = outOf pre cur ∧ (nxt pre cur i).2 = [i] := by
      unfold nxt
      by_cases h8 : cur.length = 8
      · rw [if_pos h8]; exact ⟨rfl, rfl⟩
      · have : cur = [] := List.eq_nil_of_length_eq_zero (by omega)
        subst this
        rw [if_neg h8]
        exact ⟨by simp [outOf], rfl⟩
    rw [hn.1, hn.2]
    unfold begBs begFl
    rw [if_pos h0, if_pos h0, set_mid, get_mid, h0]
    refine ⟨?_, rfl, fun h => absurd rfl h⟩
    have : begOr 0 (bitOf i) 0 = UInt8.ofNat (flagOf [i]) := by
      unfold begOr
      simp [flagOf]
    rw [this]
    simp [outOf, flat]
  · have hc : cur ≠ [] := by rintro rfl; simp at h2; omega
    have h8 : cur.length ≠ 8 := by intro e; rw [e] at h2; omega
    have hf := h.fl hc
    subst hf
    have hlen : it % 8 = cur.length := by omega
    unfold nxt begBs begFl
    rw [if_neg h8, if_neg h0, if_neg h0]
    have eo : outOf pre cur = pre ++ UInt8.ofNat (flagOf cur) :: flat cur := by simp [outOf, hc]
    rw [eo, set_mid, get_mid]
    have hlt : flagOf cur < 2 ^ cur.length := flagOf_lt cur
    have hl7 : 2 ^ cur.length ≤ 2 ^ 7 := Nat.pow_le_pow_right (by decide) (by omega)
    have hflag : begOr (UInt8.ofNat (flagOf cur)) (bitOf i) (it % 8) = UInt8.ofNat (flagOf (cur ++ [i])) := by
      apply UInt8.toNat_inj.1
      have hb : bitOf i * 2 ^ cur.length ≤ 1 * 2 ^ cur.length := Nat.mul_le_mul_right _ (by omega)
      rw [hlen, begOr_nat _ _ _ (by omega), flagOf_append, UInt8.toNat_ofNat', UInt8.toNat_ofNat', Nat.mod_eq_of_lt (by omega), Nat.mod_eq_of_lt (by omega)]
      have := Nat.two_pow_add_eq_or_of_lt hlt (bitOf i)
      rw [Nat.mul_comm (2 ^ cur.length)] at this
      rw [Nat.or_comm, ← this]
      omega
    rw [hflag]
    refine ⟨?_, rfl, fun _ => by simp⟩
    simp [outOf, flat_append, flat]

theorem nxt_len {pre : List UInt8} {cur : List Item} {fl it : Nat} (h : Sync pre cur fl it) (i : Item) : (outOf (nxt pre cur i).1 (nxt pre cur i).2).length ≤ (outOf pre cur).length + 1 + (bodyOf i).length := by
  rw [← (begin_item h i).1]
  simp only [List.length_append, List.length_set]
  unfold begBs
  split <;> simp
end Prs

set_option maxHeartbeats 2000000 in
set_option maxRecDepth 100000 in
theorem glit_ok {w : World} {G B : Nat} {bo : Option Addr} {bc : Nat} {pre : List UInt8} {cur : List Prs.Item} {fl it : Nat} (x : UInt8) (h : Gr w G B bo bc (Prs.outOf pre cur) fl it) (hs : Prs.Sync pre cur fl it) (hbs : (Prs.outOf pre cur).length ≤ 8192) (hit : it ≤ 8192) :
    Calls Try.prog 46 #[.pointer (some ⟨G, 0, none⟩), .int .u8 x.toNat] w fun e w' => e = .returned (.tuple #[]) ∧ (∃ bo' bc', Gr w' G B bo' bc' (Prs.outOf (Prs.nxt pre cur (.lit x)).1 (Prs.nxt pre cur (.lit x)).2) (Prs.nxt pre cur (.lit x)).1.length (it + 1)) ∧ Ch 5 G w w' ∧ Below B w w' := by
  obtain ⟨m1, m2, m3⟩ := Prs.begin_item hs (.lit x)
  have m4 := Prs.nxt_len hs (.lit x)
  have hb0 := begin_ok 0 (by omega) h m3 hbs hit
  have e0 : Prs.bitOf (.lit x) = 0 := rfl
  have e1 : Prs.bodyOf (.lit x) = [x] := rfl
  rw [e0, e1] at m1
  rw [e1] at m4
  rw [← m1] at m4 ⊢
  rw [← m2]
  clear m1 m2 m3
  generalize ((begBs (Prs.outOf pre cur) it).set (begFl (Prs.outOf pre cur) fl it) (begOr ((begBs (Prs.outOf pre cur) it).getD (begFl (Prs.outOf pre cur) fl it) 0) 0 (it % 8))) = bs1 at hb0 m4 ⊢
  generalize begFl (Prs.outOf pre cur) fl it = f1 at hb0 ⊢
  have HB : Hid (Calls Try.prog 50 #[.pointer (some ⟨G, 0, none⟩), .int .u8 0] w fun e w' => e = .returned (.tuple #[]) ∧ (∃ bo' bc', Gr w' G B bo' bc' bs1 f1 (it + 1)) ∧ Ch 5 G w w' ∧ Below B w w') := hb0
  have hl1 : bs1.length ≤ 8200 := by simp at m4; omega
  clear hb0 h hs m4 e0 e1
  go_enter Try.func46, Try.ntmps46
  go_wp2_with (first
    | (go_at_call 50; refine HB.out.mono ?_; rintro e w1 ⟨rfl, ⟨bo1, bc1, hG1⟩, hC1, hB1⟩; have H1 : Hid (Gr w1 G B bo1 bc1 bs1 f1 (it + 1) ∧ Ch 5 G w w1 ∧ Below B w w1) := ⟨hG1, hC1, hB1⟩; have d0 := hG1.c0; clear hG1 hC1 hB1)
    | (at_builtin; refine wpList_appS (w1.alloc (.cells #[.int .u8 x.toNat] 5)) B rfl _ _ rfl rfl bo1 bc1 bs1 [x] w1.heap.size 1 rfl rfl (H1.out.1.own.alloc _) (sl_new1 w1 x) rfl (by decide) (by omega) (by have := H1.out.1.le; have := H1.out.1.lt; simp; omega) ?_; intro g c w2 hO2 hG2; have hfin := (H1.out.1.kept ((Kept.refl [] w1).alloc (.cells #[.int .u8 x.toNat] 5))).grown hG2 hO2; obtain ⟨hU4, hC4, hB4, c4, f4⟩ := hfin; have hfin2 : Hid (Gr (w2.setCell ⟨G, 0, none⟩ (.slice (some ⟨g, 0, none⟩) (bs1 ++ [x]).length c)) G B (some ⟨g, 0, none⟩) c (bs1 ++ [x]) f1 (it + 1) ∧ Ch 5 G w (w2.setCell ⟨G, 0, none⟩ (.slice (some ⟨g, 0, none⟩) (bs1 ++ [x]).length c)) ∧ Below B w (w2.setCell ⟨G, 0, none⟩ (.slice (some ⟨g, 0, none⟩) (bs1 ++ [x]).length c))) := ⟨hU4, (H1.out.2.1.trans (Ch.of ((Kept.refl [] w1).alloc _))).trans hC4, (H1.out.2.2.trans (((Kept.refl [] w1).alloc _).below (by have := H1.out.1.le; have := H1.out.1.lt; omega) (by simp))).trans hB4⟩; clear hU4 hC4 hB4 hG2 hO2)
    | go_in)
  first | refine bodyPost_end (results_none rfl _ _ _) rfl ?_ | refine bodyPost_ret (results_none rfl _ _ _) rfl ?_
  rw [show bs1.length + 1 = (bs1 ++ [x]).length by simp]
  exact ⟨rfl, ⟨_, _, hfin2.out.1⟩, hfin2.out.2⟩

set_option maxHeartbeats 2000000 in
set_option maxRecDepth 100000 in
theorem gmat_ok {w : World} {G B : Nat} {bo : Option Addr} {bc : Nat} {pre : List UInt8} {cur : List Prs.Item} {fl it : Nat} (d l : Nat) (hd1 : 1 ≤ d) (hd2 : d ≤ 1024) (hl3 : 3 ≤ l) (hl4 : l ≤ 66) (h : Gr w G B bo bc (Prs.outOf pre cur) fl it) (hs : Prs.Sync pre cur fl it) (hbs : (Prs.outOf pre cur).length ≤ 8192) (hit : it ≤ 8192) :
    Calls Try.prog 45 #[.pointer (some ⟨G, 0, none⟩), mv d l] w fun e w' => e = .returned (.tuple #[]) ∧ (∃ bo' bc', Gr w' G B bo' bc' (Prs.outOf (Prs.nxt pre cur (.mat d l)).1 (Prs.nxt pre cur (.mat d l)).2) (Prs.nxt pre cur (.mat d l)).1.length (it + 1)) ∧ Ch 5 G w w' ∧ Below B w w' := by
  obtain ⟨m1, m2, m3⟩ := Prs.begin_item hs (.mat d l)
  have m4 := Prs.nxt_len hs (.mat d l)
  have hb0 := fun W (hW : Gr W G B bo bc (Prs.outOf pre cur) fl it) => begin_ok (w := W) 1 (by omega) hW m3 hbs hit
  have e0 : Prs.bitOf (.mat d l) = 1 := rfl
  have e1 : Prs.bodyOf (.mat d l) = [UInt8.ofNat (Prs.code d l / 256), UInt8.ofNat (Prs.code d l % 256)] := rfl
  rw [e0, e1] at m1
  rw [e1] at m4
  rw [← m1] at m4 ⊢
  rw [← m2]
  clear m1 m2 m3
  generalize ((begBs (Prs.outOf pre cur) it).set (begFl (Prs.outOf pre cur) fl it) (begOr ((begBs (Prs.outOf pre cur) it).getD (begFl (Prs.outOf pre cur) fl it) 0) 1 (it % 8))) = bs1 at hb0 m4 ⊢
  generalize begFl (Prs.outOf pre cur) fl it = f1 at hb0 ⊢
  have HB : Hid (∀ W, Gr W G B bo bc (Prs.outOf pre cur) fl it → Calls Try.prog 50 #[.pointer (some ⟨G, 0, none⟩), .int .u8 1] W fun e w' => e = .returned (.tuple #[]) ∧ (∃ bo' bc', Gr w' G B bo' bc' bs1 f1 (it + 1)) ∧ Ch 5 G W w' ∧ Below B W w') := hb0
  have hl1 : bs1.length ≤ 8200 := by simp at m4; omega
  have HCD : Hid (∀ W, Calls Try.prog 51 #[mv d l] W fun e w' => e = .returned (.tuple #[.int .u8 ((UInt8.ofNat (Prs.code d l / 256)).toNat : Nat), .int .u8 ((UInt8.ofNat (Prs.code d l % 256)).toNat : Nat)]) ∧ Kept [] W w') := fun W => coded_ok d l W hd1 hd2 hl3 hl4
  generalize UInt8.ofNat (Prs.code d l / 256) = x at HCD m4 ⊢
  generalize UInt8.ofNat (Prs.code d l % 256) = y at HCD m4 ⊢
  clear hb0 hs m4 e0 e1
  have HG := hide h
  clear h
  unfold mv at HCD
  unfold mv
  go_enter Try.func45, Try.ntmps45
  have hT : (w.alloc (.cells #[.int .i64 d, .int .i64 l] 91)).heap[w.heap.size]? = some (.cells #[.int .i64 d, .int .i64 l] 91) := (MapKept.heap_alloc _ _).1
  have hk0 : Kept [] w (w.alloc (.cells #[.int .i64 d, .int .i64 l] 91)) := (Kept.refl [] w).alloc _
  have HX : Hid (Gr (w.alloc (.cells #[.int .i64 d, .int .i64 l] 91)) G B bo bc (Prs.outOf pre cur) fl it ∧ Ch 5 G w (w.alloc (.cells #[.int .i64 d, .int .i64 l] 91)) ∧ Below B w (w.alloc (.cells #[.int .i64 d, .int .i64 l] 91)) ∧ G ≠ w.heap.size ∧ (w.alloc (.cells #[.int .i64 d, .int .i64 l] 91)).heap[w.heap.size]? = some (.cells #[.int .i64 d, .int .i64 l] 91)) := ⟨HG.out.kept hk0, Ch.of hk0, hk0.below (by have := HG.out.le; have := HG.out.lt; omega) (by simp), by have := HG.out.lt; omega, hT⟩
  clear hT hk0
  go_wp2_with (first
    | (go_at_call 50; generalize hT0 : w.heap.size = T at HX ⊢; generalize hw0 : w.alloc (.cells #[.int .i64 d, .int .i64 l] 91) = w0 at HX ⊢; refine (HB.out _ HX.out.1).mono ?_; rintro e w1 ⟨rfl, ⟨bo1, bc1, hG1⟩, hC1, hB1⟩; have hTl : T < w0.heap.size := (Array.getElem?_eq_some_iff.1 HX.out.2.2.2.2).1; have hT1 : w1.heap[T]? = some (.cells #[.int .i64 d, .int .i64 l] 91) := (hC1.block T hTl (fun e => HX.out.2.2.2.1 e.symm) (fun cur h => by have := HX.out.2.2.2.2.symm.trans h; injection this with this; injection this with _ this _; cases this)).trans HX.out.2.2.2.2; have i0 : w1.cell? ⟨T, 0, none⟩ = some (.int .i64 d) := (by rw [cell_of_row w1 T 0 _ _ _ hT1]; rfl); have i1 : w1.cell? ⟨T, 1, none⟩ = some (.int .i64 l) := (by rw [cell_of_row w1 T 1 _ _ _ hT1]; rfl); have H1 : Hid (Gr w1 G B bo1 bc1 bs1 f1 (it + 1) ∧ Ch 5 G w w1 ∧ Below B w w1) := ⟨hG1, HX.out.2.1.trans hC1, HX.out.2.2.1.trans hB1⟩; clear hG1 hC1 hB1 hT1 HX hT0 hw0 hTl)
    | (go_at_call 51; refine (HCD.out _).mono ?_; rintro e w3 ⟨rfl, hk3⟩; have H3 : Hid (Gr w3 G B bo1 bc1 bs1 f1 (it + 1) ∧ Ch 5 G w w3 ∧ Below B w w3) := ⟨H1.out.1.kept hk3, H1.out.2.1.trans (Ch.of hk3), H1.out.2.2.trans (hk3.below (by have := H1.out.1.le; have := H1.out.1.lt; omega) (by simp))⟩; have d0 := H3.out.1.c0; clear hk3 i0 i1 H1)
    | (at_builtin; refine wpList_appS (w3.alloc (.cells #[.int .u8 x.toNat, .int .u8 y.toNat] 5)) B rfl _ _ rfl rfl bo1 bc1 bs1 [x, y] w3.heap.size 2 rfl rfl (H3.out.1.own.alloc _) (sl_new2 w3 x y) rfl (by decide) (by omega) (by have := H3.out.1.le; have := H3.out.1.lt; simp; omega) ?_; intro g c w2 hO2 hG2; have hfin := (H3.out.1.kept ((Kept.refl [] w3).alloc (.cells #[.int .u8 x.toNat, .int .u8 y.toNat] 5))).grown hG2 hO2; obtain ⟨hU4, hC4, hB4, c4, f4⟩ := hfin; have hfin2 : Hid (Gr (w2.setCell ⟨G, 0, none⟩ (.slice (some ⟨g, 0, none⟩) (bs1 ++ [x, y]).length c)) G B (some ⟨g, 0, none⟩) c (bs1 ++ [x, y]) f1 (it + 1) ∧ Ch 5 G w (w2.setCell ⟨G, 0, none⟩ (.slice (some ⟨g, 0, none⟩) (bs1 ++ [x, y]).length c)) ∧ Below B w (w2.setCell ⟨G, 0, none⟩ (.slice (some ⟨g, 0, none⟩) (bs1 ++ [x, y]).length c))) := ⟨hU4, (H3.out.2.1.trans (Ch.of ((Kept.refl [] w3).alloc _))).trans hC4, (H3.out.2.2.trans (((Kept.refl [] w3).alloc _).below (by have := H3.out.1.le; have := H3.out.1.lt; omega) (by simp))).trans hB4⟩; clear hU4 hC4 hB4 hG2 hO2)
    | go_in)
  first | refine bodyPost_end (results_none rfl _ _ _) rfl ?_ | refine bodyPost_ret (results_none rfl _ _ _) rfl ?_
  rw [show bs1.length + 1 + 1 = (bs1 ++ [x, y]).length by simp]
  exact ⟨rfl, ⟨_, _, hfin2.out.1⟩, hfin2.out.2⟩

end Go.Proofs.Ytdnbpklnkmgmkaa
