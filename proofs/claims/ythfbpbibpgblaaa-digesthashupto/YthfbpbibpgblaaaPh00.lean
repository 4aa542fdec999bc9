/-
  Contract: freightlaw2.roomyRow.
-/
import Derived.Test.YthfbpbibpgblaaaDa
import Derived.Test.YthfbpbibpgblaaaDr2
import Derived.OwnWalk
namespace Go.Proofs.Ythfbpbibpgblaaa
open Go.RowKit
set_option linter.unusedVariables false
set_option linter.unusedSimpArgs false

def marks (k : Nat) : List UInt8 := List.replicate k 99
theorem marks_succ (ds : List UInt8) (k : Nat) : ds ++ marks (k + 1) = (ds ++ marks k) ++ [99] := by
  rw [marks, List.replicate_succ', List.append_assoc]; rfl

/-- A full row is its block. -/
theorem own_full {w : World} {base g n : Nat} {xs : List UInt8} (h : w.ownsRow base 5 1 (.slice (some ⟨g, 0, none⟩) n n) n (bys xs)) :
    w.heap[g]? = some (.cells (bys xs).toArray 5 (0, 0)) := by
  rcases h.2 with ⟨hv, _⟩ | ⟨g', cap, cur, hv, hb, hg, hn, hx, hs, ht⟩
  · cases hv
  · cases hv
    rw [hg]
    have : cur.toList = bys xs := by rw [← ht]; rw [List.take_of_length_le]; simp; omega
    rw [← this]

/-- Bytes of a row, nil or not, go behind an own row where there is room. -/
theorem wpList_append_into (w : World) {ops : Array Oper} {rest : List Oper} {o : Oper} {a : Act} {Q : Exit → Act → World → Prop} (hgd : o.guard = none) (s x : Operand)
    (ho : o.op = .call { callee := .builtin .append, args := #[s, x], argTypes := #[31, 31] }) (base g k cap : Nat) (xs : List UInt8) (hs : a.eval s = .slice (some ⟨g, 0, none⟩) k cap)
    (hown : w.ownsRow base 5 1 (.slice (some ⟨g, 0, none⟩) k cap) k (bys xs)) (da : Option Addr) (m dc : Nat) (ds : List UInt8) (hx : a.eval x = .slice da m dc) (hsl : Sl w da ds) (hm : ds.length = m) (hnl : da = none → ds = [] ∧ dc = 0) (b1 : k + m ≤ cap)
    (hK : ∀ w', w'.ownsRow base 5 1 (.slice (some ⟨g, 0, none⟩) (k + m) cap) (k + m) (bys (xs ++ ds)) → w.grownBy w' (some g) → wpList Try.prog ops Q rest (a.put o.dst (.slice (some ⟨g, 0, none⟩) (k + m) cap)) w') :
    wpList Try.prog ops Q (o :: rest) a w := by
  obtain ⟨i0, hi, hz0, hz1, hz2⟩ := info_parts Try.infoByte
  cases da with
  | none =>
    obtain ⟨rfl, rfl⟩ := hnl rfl
    subst hm
    refine wpList_append_own_none hgd s x 31 ho base 5 i0 1 Try.underlying31 hi _ k _ hs hown hx ?_
    have := hK w (by simpa using hown) (World.grownBy.refl w _)
    simpa using this
  | some ad =>
    refine wpList_append_fits w hgd s x 31 ho base 5 i0 1 Try.underlying31 hi hz1 g k cap (bys xs) hs hown ad m dc (bys ds) hx (by rw [bys_length, hm, Nat.mul_one]) (src_of hsl) (bys_oneCell _) b1 fun w' h1 h2 => hK w' (by rw [bys_append]; exact h1) h2

set_option maxHeartbeats 800000 in
set_option maxRecDepth 100000 in
theorem roomyRow_ok (da : Option Addr) (dc : Nat) (ds : List UInt8) (w : World) (hs : Sl w da ds) (hnl : da = none → ds = [] ∧ dc = 0) (hm : ds.length ≤ 3000000) (n : Nat) (hn : ds.length = n) :
    Calls Try.prog 7 #[.slice da n dc] w fun e w' => ∃ g, e = .returned (.slice (some ⟨g, 0, none⟩) n (n + 160)) ∧ w.heap.size ≤ g ∧ w'.heap[g]? = some (.cells (bys (ds ++ marks 160)).toArray 5 (0, 0)) ∧ Below w.heap.size w w' := by
  obtain ⟨i0, hi, hz0, hz1, hz2⟩ := info_parts Try.infoByte
  have HN : Hid (ds.length = n) := hn
  have hm2 : n ≤ 3000000 := by omega
  have HS : Hid (Sl w da ds) := hs
  have HNL : Hid (da = none → ds = [] ∧ dc = 0) := hnl
  clear hs hnl hm hn
  go_enter Try.func7, Try.ntmps7
  go_wp2_with (refine wpList_make_own _ rfl _ _ 31 rfl w.heap.size 5 i0 (.int .u8 0) 1 Try.underlying31 hi hz0 hz1 .i64 .i64 _ (n + 160) rfl rfl ?mC ?m2 ?m3 (Nat.le_refl _) ?_)
  case mC => omega
  case m2 => rw [hz2]; omega
  case m3 => unfold maxLen; omega
  intro w1 hown hgrow
  have HK1 : Hid (Kept [] w w1) := (Kept.refl [] w).grown hgrow (by simp)
  have HS1 : Hid (Sl w1 da ds) := HS.out.kept HK1.out (by simp)
  go_wp2_with (at_builtin; refine wpList_append_into _ rfl _ _ rfl w.heap.size w.heap.size 0 (n + 160) [] rfl hown da n dc ds rfl HS1.out HN.out HNL.out (by omega) ?_)
  intro w2 hown2 hgrow2
  have HK2 : Hid (Kept [] w w2) := (Kept.grown HK1.out hgrow2 (by intro k hk hlt; cases hk; omega))
  have HO2 : Hid (w2.ownsRow w.heap.size 5 1 (.slice (some ⟨w.heap.size, 0, none⟩) (n + 0) (n + 160)) (n + 0) (bys (ds ++ marks 0))) := by
    rw [marks, List.replicate_zero, List.append_nil]; exact hown2
  clear hown hgrow hown2 hgrow2 HK1 HS1 HS HNL
  go_wp2
  go_loopw [3, 4] (fun v i wr => ∃ k : Nat, k ≤ 160 ∧ i = .int .i64 k ∧ v = .slice (some ⟨w.heap.size, 0, none⟩) (n + k) (n + 160) ∧ Hid (wr.ownsRow w.heap.size 5 1 (.slice (some ⟨w.heap.size, 0, none⟩) (n + k) (n + 160)) (n + k) (bys (ds ++ marks k))) ∧ Hid (Kept [] w wr)) (fun v i wr => 160 - (intOf i).toNat)
  case atStart => exact ⟨0, by omega, rfl, rfl, HO2, HK2⟩
  case round =>
    clear HO2 HK2
    obtain ⟨k, hk, rfl, rfl, HO, HK⟩ := hrel
    by_cases hlt : k < 160
    · have hk1 := HK.out.size
      have hO1 := HO.out.alloc (.cells #[.int .u8 99] 5)
      go_wp2_with (at_builtin; refine wpList_append_fits _ rfl _ _ 31 rfl w.heap.size 5 i0 1 Try.underlying31 hi hz1 w.heap.size (n + k) (n + 160) _ rfl hO1 ⟨wr.heap.size, 0, none⟩ 1 1 [.int .u8 99] rfl rfl (one_cells_at _ _ _ _ _ rfl) (by simp [Value.oneCell']) (by omega) ?_)
      intro w3 hown3 hgrow3
      have HO3 : Hid (w3.ownsRow w.heap.size 5 1 (.slice (some ⟨w.heap.size, 0, none⟩) (n + (k + 1)) (n + 160)) (n + (k + 1)) (bys (ds ++ marks (k + 1)))) := by
        rw [marks_succ, bys_append]; exact hown3
      have HK3 : Hid (Kept [] w w3) := (HK.out.alloc _).grown hgrow3 (by intro k hk hlt; cases hk; omega)
      clear hown3 hgrow3 HO HK hO1 hk1
      go_wp2
      go_roundw
      case rel => exact ⟨k + 1, by omega, by go_num, rfl, HO3, HK3⟩
      case measure => simp [intOf]; omega
    · obtain rfl : k = 160 := by omega
      go_wp2
      go_ret
      exact ⟨w.heap.size, rfl, Nat.le_refl _, own_full HO.out, HK.out.below (Nat.le_refl _) (by simp)⟩
end Go.Proofs.Ythfbpbibpgblaaa
