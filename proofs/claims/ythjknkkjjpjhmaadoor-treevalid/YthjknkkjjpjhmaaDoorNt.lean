/-
  TreeValid: the walk.
-/
import Derived.Test.YthjknkkjjpjhmaaDoorNr
namespace Go.Proofs.YthjknkkjjpjhmaaDoor
open Go.RowKit
set_option linter.unusedVariables false
set_option linter.unusedSimpArgs false

set_option maxHeartbeats 1600000 in
set_option maxRecDepth 100000 in
theorem valid_walk (L : List UInt8) (w : World) (hT : Tabs w) (hm : L.length ≤ 4611686018427387904) :
    Calls Tryd.prog 3 #[.string ⟨L.toArray⟩] w fun r w' => r = .returned (.bool true) ∧ Below w.heap.size w w' := by
  have hk := known_ok w hT
  have HT := hide hT
  have hr := fun W => refvalid_ok L W hm
  obtain ⟨V, hV⟩ : ∃ V, Tn.valid L = V := ⟨_, rfl⟩
  simp only [hV] at hr
  have HV := hide hV
  clear hT hV
  go_enter Tryd.func3, Tryd.ntmps3
  go_wp2_with (first
    | (go_at_call 9; refine hk.mono ?_; rintro r w1 ⟨rfl, hb1⟩; have hv := valid_ok L w1 hm (HT.out.below hb1); rw [HV.out] at hv; have HB1 := hide hb1; clear hk hb1)
    | (go_at_call 10; refine hv.mono ?_; rintro r w2 ⟨rfl, hb2⟩; have HB2 := hide (HB1.out.trans (hb2.mono HB1.out.size)); clear hv hb2)
    | (go_at_call 11; refine (hr _).mono ?_; rintro r w3 ⟨rfl, hw3⟩; obtain rfl := hw3.symm))
  go_ret
  exact ⟨by cases V <;> rfl, HB2.out⟩
end Go.Proofs.YthjknkkjjpjhmaaDoor
