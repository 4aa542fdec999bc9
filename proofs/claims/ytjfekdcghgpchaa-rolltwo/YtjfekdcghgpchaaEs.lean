/-
  Rows of bytes that a walk makes: append, cuts.
-/
import Derived.Test.YtjfekdcghgpchaaEk2
import Derived.Laws.AppendOwnNone
import Derived.OwnWalk
namespace Go.Proofs.Ytjfekdcghgpchaa
open Go.RowKit
set_option linter.unusedVariables false
set_option linter.unusedSimpArgs false

theorem src_of {w : World} {ad : Addr} {m : List UInt8} (hs : Sl w (some ad) m) : ∀ j u, (bys m)[j]? = some u → w.cell? (ad.add j) = some u := by
  by_cases h0 : m = []
  · subst h0
    intro j u hu
    simp [bys] at hu
  · obtain ⟨b, off, e', hb, hc⟩ := hs.open h0
    cases e'
    exact Sl.cells hc

/-- A row of the call's own, with the bytes of a row, nil or not, behind its own. -/
theorem wpList_append_row (w : World) {ops : Array Oper} {rest : List Oper} {o : Oper} {a : Act} {Q : Exit → Act → World → Prop} (hgd : o.guard = none) (s x : Operand)
    (ho : o.op = .call { callee := .builtin .append, args := #[s, x], argTypes := #[23, 23] }) (base g k cap : Nat) (xs : List UInt8) (hs : a.eval s = .slice (some ⟨g, 0, none⟩) k cap)
    (hown : w.ownsRow base 5 1 (.slice (some ⟨g, 0, none⟩) k cap) k (bys xs)) (da : Option Addr) (m dc : Nat) (ds : List UInt8) (hx : a.eval x = .slice da m dc) (hsl : Sl w da ds) (hm : ds.length = m) (hnl : da = none → ds = [] ∧ dc = 0) (b1 : k + m ≤ 140737488351232) (hbase : base ≤ w.heap.size)
    (hK : ∀ g' c' w', w'.ownsRow base 5 1 (.slice (some ⟨g', 0, none⟩) (k + m) c') (k + m) (bys (xs ++ ds)) → w.grownBy w' (some g) → wpList Try.prog ops Q rest (a.put o.dst (.slice (some ⟨g', 0, none⟩) (k + m) c')) w') :
    wpList Try.prog ops Q (o :: rest) a w := by
  obtain ⟨i0, hi, hz0, hz1, hz2⟩ := info_parts Try.infoByte
  cases da with
  | none =>
    obtain ⟨rfl, rfl⟩ := hnl rfl
    subst hm
    refine wpList_append_own_none hgd s x 23 ho base 5 i0 1 Try.underlying23 hi _ k _ hs hown hx ?_
    have := hK g cap w (by simpa using hown) (World.grownBy.refl w _)
    simpa using this
  | some ad =>
    refine wpList_append_own w hgd s x 23 ho base 5 i0 (.int .u8 0) 1 1 Try.underlying23 hi hz0 hz1 hz2 rfl (by decide) _ k (bys xs) hs hown ad m dc (bys ds) hx (by rw [bys_length, hm, Nat.mul_one]) (src_of hsl) (bys_oneCell _) (by unfold maxLen; omega) (by omega) hbase ?_
    intro v' w' h1 h2 h3
    rw [← bys_append] at h1
    obtain ⟨g', c', hv, _⟩ := own_sl h1 (fun e => by have := (h3.1 e).1; cases this)
    subst hv
    exact hK g' c' w' h1 h2

theorem Try.cutWin (W : World) (g off L cap lo n : Nat) (h2 : lo + n ≤ cap) (hn : 1 ≤ n) :
    (Instr.slice 23 (.slice (some ⟨g, off, none⟩) L cap) (some (.int .i64 lo)) (some (.int .i64 ((lo : Int) + (n : Int)))) none).run Try.prog W = .ok (.slice (some ⟨g, off + lo, none⟩) n (cap - lo)) W := by
  have hz : (sizeOf (Try.prog.elem 23)).run Try.prog W = .ok 1 W := by kernel_rfl
  have h := run_slice_lh (P := Try.prog) W 23 (some ⟨g, off, none⟩) L cap (by kernel_rfl) .i64 .i64 lo ((lo : Int) + n) (by omega) (by omega) (by omega)
  rw [h, hz]
  have hc : ¬ cap = lo := by omega
  have e : ((lo : Int) + (n : Int)).toNat = lo + n := by omega
  simp [sliced, Addr.add_mid, hc, e]

theorem Sl.wat {w : World} {g off : Nat} {xs : List UInt8} (h : Sl w (some ⟨g, off, none⟩) xs) (n lo : Nat) (hl : lo + n ≤ xs.length) : Sl w (some ⟨g, off + lo, none⟩) (wat xs n lo) := by
  refine Sl.of fun i hi => ?_
  have hi' : i < n := by rw [wat_length _ _ _ hl] at hi; exact hi
  obtain ⟨b', off', e', hcell⟩ := h (lo + i) (by omega)
  cases e'
  rw [show off + lo + i = off + (lo + i) by omega, hcell]
  have : (Go.Proofs.Ytjfekdcghgpchaa.wat xs n lo).getD i 0 = xs.getD (lo + i) 0 := by simp [Go.Proofs.Ytjfekdcghgpchaa.wat, hi']
  rw [this]

/-- The row of a call's own, as cells. -/
theorem own_sl' {w : World} {base g k cap : Nat} {xs : List UInt8} (h : w.ownsRow base 5 1 (.slice (some ⟨g, 0, none⟩) k cap) k (bys xs)) : base ≤ g ∧ g < w.heap.size ∧ k ≤ cap ∧ Sl w (some ⟨g, 0, none⟩) xs := by
  obtain ⟨g', c', e, h1, h2, h3, h4⟩ := own_sl h (by intro e; cases e)
  cases e
  exact ⟨h1, h2, h3, h4⟩

end Go.Proofs.Ytjfekdcghgpchaa
