import Derived.Test.YtmklodligplbaabGreatProg
import Derived.Test.YtmklodligplbaabGreatMeml
import Derived.ProofKit
import Derived.OpenShut
import Derived.Deep.Slices
import Derived.Lib.SmallJoins
import Derived.Deep.MidRow
import Derived.Test.YtmklodligplbaabGreatD9vl
namespace Go.Proofs.YtmklodligplbaabGreat
section
open Go.ChangeShapes Go.WideShapes Go.ChangeAt Go.RowKit Go.Deep Go.Joins
set_option linter.unusedVariables false
set_option linter.unusedSimpArgs false
structure InB (w : World) (ao : Option Addr) (n cap : Nat) (xs : List UInt8) : Prop where
 len : xs.length = n
 le : n ≤ cap
 max : cap ≤ 140737488351232
 sl : Sl w ao xs
 nil : ao = none → xs = [] ∧ cap = 0
 spot : n ≠ 0 → ∀ a, ao = some a → a.spot = none
theorem inb_of_ints {w : World} {a : Addr} {len cap : Nat} {zs : List Int} (hl : len ≤ cap) (hm : cap ≤ 140737488351232) (hz : zs.length = cap) (hcell : ∀ i, i < zs.length → w.cell? (a.add i) = some (.int .u8 (zs.getD i 0))) (hwz : ∀ n ∈ zs, (Lit.int .u8 n).wf = true) :
  ∃ xs, InB w (some a) len cap xs := by
 obtain ⟨b, off, spot⟩ := a
 have hsp : len ≠ 0 → spot = none := fun h => by simpa [Addr.add] using World.cell?_spot (hcell 0 (by omega))
 refine ⟨(zs.take len).map (fun z => UInt8.ofNat z.toNat), by simp; omega, hl, by omega, ?_, by simp, fun h a ha => by cases ha; exact hsp h⟩
 intro i hi
 have hi' : i < len := by simp at hi; omega
 have hc := hcell i (by omega)
 obtain rfl := hsp (by omega)
 refine ⟨b, off, rfl, ?_⟩
 rw [Addr.add_mid] at hc
 rw [hc]
 have hzi : i < zs.length := by omega
 have hb := bounds_u8 (hwz (zs.getD i 0) (by simp [List.getElem?_eq_getElem hzi]))
 have e : ((zs.take len).map (fun z => UInt8.ofNat z.toNat)).getD i 0 = UInt8.ofNat (zs.getD i 0).toNat := by
  simp [List.getElem?_eq_getElem hzi, hi']
 rw [e, UInt8.toNat_ofNat', Nat.mod_eq_of_lt (by omega)]
 congr 2
 omega
section
variable {H : Type} {enc : TypeId × Value → H} {w : World}
theorem open_bytes {fuel : Nat} {v : Value} {x : DataW H × List MemPlace} (h : DataW.trod enc Tryz.prog w 0 (fun _ => true) true fuel 27 [v] = some x) (hw : ∀ n ∈ x.1.weights Tryz.prog 27, n ≤ reachBytes) :
  ∃ ao n cap xs, v = .slice ao n cap ∧ InB w ao n cap xs := by
 rcases open_ints Tryz.underlying27 Tryz.underlying5 (by kernel_rfl) h with ⟨hcs, _⟩ | ⟨a, l, c, zs, hcs, _, hl, hm, hz, hx, hcell, hwz⟩
 ·cases hcs
  exact ⟨none, 0, 0, [], rfl, rfl, Nat.le_refl _, by omega, Sl.nil _ _, fun _ => ⟨rfl, rfl⟩, by simp⟩
 ·cases hcs
  have hb1 : Tryz.prog.bytesOf 5 = 1 := by kernel_rfl
  have hz' : zs.length = c := by simpa using hz
  have hsz : c ≤ 140737488351232 := by
   have := hw ((zs.take l).length + (zs.drop l).length) (by
    rw [hx]
    simp only [DataW.weights, Tryz.underlying27, hb1, Nat.mul_one, lits, List.length_map, List.mem_cons, true_or])
   have hr : reachBytes = 140737488351232 := rfl
   rw [hr] at this
   simp at this
   omega
  obtain ⟨xs, h⟩ := inb_of_ints hl hsz hz' hcell hwz
  exact ⟨some a, l, c, xs, rfl, h⟩
end
end

section
open Go.RowKit
open Dlt
set_option linter.unusedVariables false
set_option linter.unusedSimpArgs false
theorem InB.in8 {w : World} {ao : Option Addr} {n cap : Nat} {xs : List UInt8} (h : InB w ao n cap xs) : InB8 w ao n cap xs := ⟨h.len, h.le, by have := h.le; have := h.max; omega, h.sl, h.nil⟩
theorem TellS.open {w w' : World} {e : Ending} {c : Int} {s : Sig} (h : TellS w w' e c s) : ∃ so sc, e = .returned (.tuple #[.agg (s.cells (.slice so s.blocks.length sc)).toArray, .int .i64 c]) ∧ SigIn w' s so s.blocks.length sc ∧ (s.blocks ≠ [] → ∀ a, so = some a → w.heap.size ≤ a.block) := by
 obtain ⟨v, rfl, ho⟩ := h
 obtain ⟨so, sc, rfl, hsc, hwk, hb, hm⟩ := OwnW.wks ho
 refine ⟨so, sc, rfl, ⟨rfl, hsc, hm, hwk⟩, fun _ a ha => ?_⟩
 obtain ⟨g, rfl, hg, _⟩ := hb a ha
 exact hg
theorem SigIn.row {w : World} {s : Sig} {so : Option Addr} {n sc O : Nat} {cs : Array Value} (h : SigIn w s so n sc) (hO : s.blocks ≠ [] → ∀ a, so = some a → a.block ≠ O) : SigIn (w.setRow O cs) s so n sc := ⟨h.len, h.le, h.max, h.at_.kept (kept_row w O cs) (fun hn a ha => by simpa using hO hn a ha)⟩
end

end Go.Proofs.YtmklodligplbaabGreat
