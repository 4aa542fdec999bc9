import Derived.Test.YtodihkdmneihiaaGreatDoorFqap
namespace Go.Proofs.YtodihkdmneihiaaGreatDoor
open Go.RowKit Dsk
set_option linter.unusedVariables false
set_option linter.unusedSimpArgs false
def errB (v : Value) (b : Nat) : Prop := ∃ t o s, v = .iface t (.pointer (some ⟨b, o, s⟩))
theorem ErrV.at {w : World} {v : Value} {op name : By} {n : Int} (h : ErrV w v op name n) {b : Nat} (hb : errB v b) : ∃ cs, w.heap[b]? = some (.cells cs 104 (0, 0)) := by
 obtain ⟨t, o, s, hv⟩ := hb
 rcases h with ⟨_, rfl⟩ | ⟨_, eb, rfl, hf⟩
 ·cases hv
 ·cases hv
  exact ⟨_, hf⟩
theorem ErrV.ltB {w : World} {v : Value} {op name : By} {n : Int} (h : ErrV w v op name n) {b : Nat} (hb : errB v b) : b < w.heap.size := by
 obtain ⟨cs, hc⟩ := h.at hb
 exact (Array.getElem?_eq_some_iff.1 hc).1
theorem ErrV.keepE {F : Nat → Prop} {w w' : World} {v : Value} {op name : By} {n : Int} (h : ErrV w v op name n) (hk : Keep F w w') (hF : ∀ b, errB v b → ¬ F b) : ErrV w' v op name n := by
 rcases h with h | ⟨h0, eb, rfl, hf⟩
 ·exact .inl h
 ·exact .inr ⟨h0, eb, rfl, hk.heapOf hf (hF eb ⟨_, _, _, rfl⟩)⟩
theorem ErrV.shape {w : World} {v : Value} {op name : By} {n : Int} (h : ErrV w v op name n) : v = .nilIface ∨ ∃ eb : Nat, v = .iface 98 (.pointer (some ⟨eb, 0, none⟩)) := by
 rcases h with ⟨_, h⟩ | ⟨_, eb, h, _⟩
 ·exact .inl h
 ·exact .inr ⟨eb, h⟩
theorem ErrV.shape1 {w : World} {v : Value} {op name : By} {n : Int} (h : ErrV w v op name n) (h0 : (n != 0) = true) : ∃ eb : Nat, v = .iface 98 (.pointer (some ⟨eb, 0, none⟩)) := by
 rcases h with ⟨h, _⟩ | ⟨_, eb, h, _⟩
 ·rw [h] at h0; cases h0
 ·exact ⟨eb, h⟩
theorem newE_errB {w : World} {v : Value} (h : NewE w v) {b : Nat} (hb : errB v b) : w.heap.size ≤ b := by
 obtain ⟨t, o, s, rfl⟩ := hb
 exact h t _ rfl
section
variable {X : Nat → Prop} {wa w w' : World} {p : Nat} {S : Ds} {N : Nat} {fb : Nat} {name plus : By} {c : Bool}
end
end Go.Proofs.YtodihkdmneihiaaGreatDoor
