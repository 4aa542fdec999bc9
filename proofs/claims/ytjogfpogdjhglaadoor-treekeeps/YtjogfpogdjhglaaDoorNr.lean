/-
  Contract: freightlaw7.known.
-/
import Derived.Test.YtjogfpogdjhglaaDoorNo
import Derived.Test.YtjogfpogdjhglaaDoorNp
namespace Go.Proofs.YtjogfpogdjhglaaDoor
open Go.RowKit
set_option linter.unusedVariables false
set_option linter.unusedSimpArgs false

def oneE : Ent := ⟨[97], 1, 7 :: List.replicate 31 0⟩
theorem oneE_ok : EntOk oneE := ⟨rfl, by decide, by decide⟩
theorem oneE_tree : Tn.isTree [oneE] = true := by kernel_rfl
theorem oneE_enc : Tn.encd [oneE] = [84, 1, 1, 1, 97, 7] ++ List.replicate 31 0 := by kernel_rfl
theorem parse0 : Tn.parse [84, 0] = some [] := by kernel_rfl
theorem valid1 : Tn.valid [46, 46, 97] = true := by kernel_rfl
theorem valid2 : Tn.valid [46, 46] = false := by kernel_rfl

set_option maxHeartbeats 3200000 in
set_option maxRecDepth 100000 in
theorem known_ok (w : World) (hT : Tabs w) :
    Calls Tryd.prog 4 #[] w fun r w' => r = .returned (.bool true) ∧ Below w.heap.size w w' := by
  have HT := hide hT
  clear hT
  go_enter Tryd.func4, Tryd.ntmps4
  go_wp2_with (fail)
  have hE : Ents (w.alloc (.cells oneE.cells.toArray 42)) (some ⟨w.heap.size, 0, none⟩) [oneE] := by
    intro i hi
    obtain rfl : i = 0 := by simp at hi; omega
    refine ⟨_, _, rfl, ?_, oneE_ok⟩
    simpa using ent_range (heap_new w _)
  have hb1 : Below w.heap.size w (w.alloc (.cells oneE.cells.toArray 42)) := (Below.refl _ w).alloc (Nat.le_refl _) _
  have he := encode_ok (some ⟨w.heap.size, 0, none⟩) 1 1 [oneE] _ rfl (Nat.le_refl _) (by omega) hE (HT.out.below hb1)
  rw [oneE_tree, oneE_enc] at he
  refine Calls.mono (R := fun r w' => Told (w.alloc (.cells oneE.cells.toArray 42)) w' r true ([84, 1, 1, 1, 97, 7] ++ List.replicate 31 0)) he ?_
  rintro r w2 ⟨⟨v, rfl, hv⟩, hb2⟩
  have hB2 : Below w.heap.size w w2 := hb1.trans (hb2.mono hb1.size)
  obtain ⟨ao2, cap2, rfl, hlc, hsl, hfar, hcm, hnil⟩ := OwnB.shape hv
  obtain ⟨g, o, rfl, hg, hcells⟩ := hsl.open (by simp)
  have c0 := hcells 0 (by simp)
  have c5 := hcells 5 (by simp)
  have H2 := hide (And.intro hB2 (And.intro c0 c5))
  have hl37 : ([84, 1, 1, 1, 97, 7] ++ List.replicate 31 (0 : UInt8)).length = 37 := by simp
  rw [hl37]
  clear he hE hb1 hv hb2 hB2 hlc hsl hfar hcm hnil hcells c0 c5 hl37
  go_wp2_with (fail)
  have hn2 := heap_new w2 (.cells (bys [84, 0]).toArray 5)
  have hs2 : Sl (w2.alloc (.cells (bys [84, 0]).toArray 5)) (some ⟨w2.heap.size, 0, none⟩) [84, 0] := Sl.of fun i hi => by
    rw [Nat.zero_add, cell_of_row _ _ _ _ _ _ hn2]
    simpa using bys_at hi
  have hb3 : Below w.heap.size w (w2.alloc (.cells (bys [84, 0]).toArray 5)) := H2.out.1.alloc H2.out.1.size _
  have hp := parse_ok (some ⟨w2.heap.size, 0, none⟩) 2 2 [84, 0] _ rfl (by omega) hs2 (by simp) (HT.out.below hb3)
  rw [parse0] at hp
  refine Calls.mono (R := fun r w' => ToldE (w2.alloc (.cells (bys [84, 0]).toArray 5)) w' r (some [])) hp ?_
  rintro r w3 ⟨⟨v, rfl, hv⟩, hb4⟩
  have hB3 : Below w.heap.size w w3 := hb3.trans (hb4.mono hb3.size)
  obtain ⟨ao3, cap3, rfl, _⟩ := hv.ents
  have k3 : Kept [] w2 w3 := ((Kept.refl [] w2).alloc _).trans (Kept.of_below hb4) (by simp)
  have c0 : w3.cell? ⟨g, o, none⟩ = some (.int .u8 84) := k3.cellOf H2.out.2.1 (by simp)
  have c5 : w3.cell? ⟨g, o + 5, none⟩ = some (.int .u8 7) := k3.cellOf H2.out.2.2 (by simp)
  have HB3 := hide hB3
  have hv1 := valid_ok [46, 46, 97] w3 (by simp) (HT.out.below hB3)
  rw [valid1] at hv1
  clear hn2 hs2 hb3 hp hv hb4 hB3 k3 H2
  go_wp2_with (first
    | (go_at_call_of 14 (Value.string ⟨#[46, 46, 97]⟩); refine hv1.mono ?_; rintro r w4 ⟨rfl, hb5⟩; have hB4 := HB3.out.trans (hb5.mono HB3.out.size); have hv2 := valid_ok [46, 46] w4 (by simp) (HT.out.below hB4); rw [valid2] at hv2; have HB4 := hide hB4; clear hv1 hb5 hB4)
    | (go_at_call_of 14 (Value.string ⟨#[46, 46]⟩); refine hv2.mono ?_; rintro r w5 ⟨rfl, hb6⟩; have HB5 := hide (HB4.out.trans (hb6.mono HB4.out.size)); clear hv2 hb6))
  go_ret
  exact ⟨rfl, HB5.out⟩
end Go.Proofs.YtjogfpogdjhglaaDoor
