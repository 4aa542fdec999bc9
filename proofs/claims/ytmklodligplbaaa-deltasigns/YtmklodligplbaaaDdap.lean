/-
  A new row with the bytes of another one.
-/
import Derived.Test.YtmklodligplbaaaDh4p
import Derived.Laws.AppendOwnNone
import Derived.OwnWalk
namespace Go.Proofs.Ytmklodligplbaaa
open Go.RowKit
set_option linter.unusedVariables false
set_option linter.unusedSimpArgs false

theorem src_of {w : World} {ad : Addr} {m : List UInt8} (hs : Sl w (some ad) m) : ∀ j u, (bys m)[j]? = some u → w.cell? (ad.add j) = some u := by
  by_cases h0 : m = []
  · subst h0
    intro j u hu
    simp [bys] at hu
  · obtain ⟨b, off, e', hb, hc⟩ := hs.open h0
    cases e'
    exact Sl.cells hc

/-- A new row with the bytes of a row, nil or not. -/
theorem wpList_append_fresh (w : World) {ops : Array Oper} {rest : List Oper} {o : Oper} {a : Act} {Q : Exit → Act → World → Prop} (hgd : o.guard = none) (s x : Operand)
    (ho : o.op = .call { callee := .builtin .append, args := #[s, x], argTypes := #[22, 22] }) (base g : Nat) (hs : a.eval s = .slice (some ⟨g, 0, none⟩) 0 0)
    (hown : w.ownsRow base 5 1 (.slice (some ⟨g, 0, none⟩) 0 0) 0 []) (da : Option Addr) (m dc : Nat) (ds : List UInt8) (hx : a.eval x = .slice da m dc) (hsl : Sl w da ds) (hm : ds.length = m) (hnl : da = none → ds = [] ∧ dc = 0) (b1 : m ≤ 140737488351232) (hbase : base ≤ w.heap.size)
    (hK : ∀ g' c' w', w'.ownsRow base 5 1 (.slice (some ⟨g', 0, none⟩) m c') m (bys ds) → w.grownBy w' (some g) → wpList Try.prog ops Q rest (a.put o.dst (.slice (some ⟨g', 0, none⟩) m c')) w') :
    wpList Try.prog ops Q (o :: rest) a w := by
  obtain ⟨i0, hi, hz0, hz1, hz2⟩ := info_parts Try.infoByteD
  cases da with
  | none =>
    obtain ⟨rfl, rfl⟩ := hnl rfl
    subst hm
    exact wpList_append_own_none hgd s x 22 ho base 5 i0 1 Try.underlying22 hi _ 0 _ hs hown hx (hK g 0 w hown (World.grownBy.refl w _))
  | some ad =>
    refine wpList_append_own w hgd s x 22 ho base 5 i0 (.int .u8 0) 1 1 Try.underlying22 hi hz0 hz1 hz2 rfl (by decide) _ 0 [] hs hown ad m dc (bys ds) hx (by rw [bys_length, hm, Nat.mul_one]) (src_of hsl) (bys_oneCell _) (by unfold maxLen; omega) (by omega) hbase ?_
    intro v' w' h1 h2 h3
    rw [Nat.zero_add, List.nil_append] at h1
    obtain ⟨g', c', hv, _⟩ := own_sl h1 (fun e => by have := (h3.1 e).1; cases this)
    subst hv
    exact hK g' c' w' h1 h2

end Go.Proofs.Ytmklodligplbaaa
