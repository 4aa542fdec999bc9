/-
  DiskCreates, DiskWrites, DiskNames, DiskSyncs, DiskReads, DiskPlays.
-/
import Derived.Test.YtgimlnnaimjmgaaGreatRfmp
import Derived.Test.YtgimlnnaimjmgaaGreatRfsp
namespace Go.Proofs.YtgimlnnaimjmgaaGreat
open Go.RowKit Dsk
set_option linter.unusedVariables false
theorem standsOk : StandsOk := fun X w P p q D bo R S N h hN => stands_ok h hN
theorem creates_law (r : Int) (ao : Option Addr) (n cap : Nat) (L : List Stp) (w : World) (hl : L.length = n) (hs : Scr w ao L) (hn : n ≤ 9223372036854775807) (hrw : (Lit.int .i64 r).wf = true) :
    Calls Tryz.prog 3 #[.int .i64 r, .slice ao n cap] w fun e w' => e = .returned (.bool true) ∧ Below w.heap.size w w' := (creates_walk standsOk r ao n cap L w hl hs hn hrw).mono fun e w' h => ⟨h.1, h.2.below (Nat.le_refl _) (by simp)⟩
theorem writes_law (r : Int) (ao : Option Addr) (n cap : Nat) (L : List Stp) (w : World) (hl : L.length = n) (hs : Scr w ao L) (hn : n ≤ 9223372036854775807) (hrw : (Lit.int .i64 r).wf = true) :
    Calls Tryz.prog 4 #[.int .i64 r, .slice ao n cap] w fun e w' => e = .returned (.bool true) ∧ Below w.heap.size w w' := (writes_walk standsOk r ao n cap L w hl hs hn hrw).mono fun e w' h => ⟨h.1, h.2.below (Nat.le_refl _) (by simp)⟩
theorem names_law (r : Int) (ao : Option Addr) (n cap : Nat) (L : List Stp) (w : World) (hl : L.length = n) (hs : Scr w ao L) (hn : n ≤ 9223372036854775807) (hrw : (Lit.int .i64 r).wf = true) :
    Calls Tryz.prog 5 #[.int .i64 r, .slice ao n cap] w fun e w' => e = .returned (.bool true) ∧ Below w.heap.size w w' := (names_walk standsOk r ao n cap L w hl hs hn hrw).mono fun e w' h => ⟨h.1, h.2.below (Nat.le_refl _) (by simp)⟩
theorem syncs_law (r : Int) (ao : Option Addr) (n cap : Nat) (L : List Stp) (w : World) (hl : L.length = n) (hs : Scr w ao L) (hn : n ≤ 9223372036854775807) (hrw : (Lit.int .i64 r).wf = true) :
    Calls Tryz.prog 6 #[.int .i64 r, .slice ao n cap] w fun e w' => e = .returned (.bool true) ∧ Below w.heap.size w w' := (syncs_walk standsOk r ao n cap L w hl hs hn hrw).mono fun e w' h => ⟨h.1, h.2.below (Nat.le_refl _) (by simp)⟩
theorem reads_law (r : Int) (ao : Option Addr) (n cap : Nat) (L : List Stp) (w : World) (hl : L.length = n) (hs : Scr w ao L) (hn : n ≤ 9223372036854775807) (hrw : (Lit.int .i64 r).wf = true) :
    Calls Tryz.prog 7 #[.int .i64 r, .slice ao n cap] w fun e w' => e = .returned (.bool true) ∧ Below w.heap.size w w' := (reads_walk standsOk r ao n cap L w hl hs hn hrw).mono fun e w' h => ⟨h.1, h.2.below (Nat.le_refl _) (by simp)⟩
theorem plays_law (r : Int) (ao : Option Addr) (n cap : Nat) (L : List Stp) (w : World) (hl : L.length = n) (hs : Scr w ao L) (hn : n ≤ 9223372036854775807) (hrw : (Lit.int .i64 r).wf = true) :
    Calls Tryz.prog 8 #[.int .i64 r, .slice ao n cap] w fun e w' => e = .returned (.bool true) ∧ Below w.heap.size w w' := (plays_walk standsOk r ao n cap L w hl hs hn hrw).mono fun e w' h => ⟨h.1, h.2.below (Nat.le_refl _) (by simp)⟩
end Go.Proofs.YtgimlnnaimjmgaaGreat
