/-
  Contracts: refusedFiles and Load of no files, New.
-/
import Derived.Test.YtemlbmamcbmnjaaGreatDoorHap
import Derived.Carry
import Derived.Maps.OwnSet
namespace Go.Proofs.YtemlbmamcbmnjaaGreatDoor
open Go.RowKit Dsk
set_option linter.unusedVariables false
set_option linter.unusedSimpArgs false

def roomE (r : Int) : Int := if r < 1 ∨ 1048576 < r then 1 else 0

set_option maxHeartbeats 1600000 in
set_option maxRecDepth 100000 in
theorem refusedNil_ok (r : Int) (w : World) : Calls Tryz.prog 101 #[.int .i64 r, .slice none 0 0] w fun e w' => e = .returned (.int .i64 (roomE r)) ∧ Kept [] w w' := by
  have hmm := @run_makeMap Tryz.prog
  have hlen : (Builtin.len_ #[206] 3 #[.map (some w.heap.size)]).run Tryz.prog (w.alloc (.map #[] 0)) = .ok (.int .i64 0) (w.alloc (.map #[] 0)) := by
    have := World.ownsMap.len (World.ownsMap_made (H := Unit) w Tryz.prog 9 (fun _ => none)) Tryz.underlying206 3
    simpa [Maps.size_eq] using this
  have hK := hide ((Kept.refl [] w).alloc (.map #[] 0))
  go_enter Tryz.func101, Tryz.ntmps101
  by_cases h1 : r < 1
  · have HE : Hid (roomE r = 1) := hide (by unfold roomE; rw [if_pos (.inl h1)])
    go_wp2
    go_ret
    exact ⟨by rw [HE.out]; rfl, Kept.refl _ _⟩
  by_cases h2 : 1048576 < r
  · have HE : Hid (roomE r = 1) := hide (by unfold roomE; rw [if_pos (.inr h2)])
    go_wp2
    go_ret
    exact ⟨by rw [HE.out]; rfl, Kept.refl _ _⟩
  have HE : Hid (roomE r = 0) := hide (by unfold roomE; rw [if_neg (by omega)])
  go_wp2
  refine wp_loop_rounds 1 ?_
  rw [rounds_succ]
  go_wp2
  go_ret
  exact ⟨by rw [HE.out]; rfl, hK.out⟩

/-- A new disk. -/
def NewD (w w' : World) (r : Int) (v : Value) : Prop :=
  (roomE r = 0 → ∃ p A o, v = .pointer (some ⟨p, 0, none⟩) ∧ PD w' p (Ds.fresh r.toNat) A o ∧ (∀ b, o b ≠ 0 → w.heap.size ≤ b)) ∧ (roomE r ≠ 0 → v = .pointer none) ∧ Kept [] w w'

set_option maxHeartbeats 1600000 in
set_option maxRecDepth 100000 in
theorem loadNil_ok (r : Int) (w : World) (hr : (Lit.int .i64 r).wf = true) : Calls Tryz.prog 61 #[.int .i64 r, .slice none 0 0] w fun e w' => ∃ v, e = .returned (.tuple #[v, .int .i64 (roomE r)]) ∧ NewD w w' r v := by
  have hmm := @run_makeMap Tryz.prog
  have hrf := refusedNil_ok r w
  go_enter Tryz.func61, Tryz.ntmps61
  by_cases h0 : roomE r = 0
  · rw [h0] at hrf
    have hrn : 1 ≤ r ∧ r ≤ 1048576 := by unfold roomE at h0; split at h0 <;> omega
    have HE := hide h0
    clear h0
    go_upto_region 6 with (go_at_call 101; refine hrf.mono ?_; rintro e w1 ⟨rfl, hk1⟩; clear hrf)
    have hrc : (r.toNat : Int) = r := by omega
    have hQ : ((w1.alloc (.cells #[.int .i64 r, .bool true, .map none, .slice none 0 0, .map (some (w1.heap.size + 1)), .int .i64 0, .int .i64 0, .int .i64 0, .int .i64 0, .int .i64 0, .slice none 0 0] 98)).alloc (.map #[] 0)).heap[w1.heap.size]? = some (.cells #[.int .i64 r, .bool true, .map none, .slice none 0 0, .map (some (w1.heap.size + 1)), .int .i64 0, .int .i64 0, .int .i64 0, .int .i64 0, .int .i64 0, .slice none 0 0] 98 (0, 0)) := (Below.heap_alloc _ _ _ (by simp)).trans (MapKept.heap_alloc w1 _).1
    have hM : Mp ((w1.alloc (.cells #[.int .i64 r, .bool true, .map none, .slice none 0 0, .map (some (w1.heap.size + 1)), .int .i64 0, .int .i64 0, .int .i64 0, .int .i64 0, .int .i64 0, .slice none 0 0] 98)).alloc (.map #[] 0)) (w1.heap.size + 1) (fun _ => 0) [] := by
      have := World.ownsMap_made (H := Unit) (w1.alloc (.cells #[.int .i64 r, .bool true, .map none, .slice none 0 0, .map (some (w1.heap.size + 1)), .int .i64 0, .int .i64 0, .int .i64 0, .int .i64 0, .int .i64 0, .slice none 0 0] 98)) Tryz.prog 9 ptrElem
      have e : (w1.alloc (.cells #[.int .i64 r, .bool true, .map none, .slice none 0 0, .map (some (w1.heap.size + 1)), .int .i64 0, .int .i64 0, .int .i64 0, .int .i64 0, .int .i64 0, .slice none 0 0] 98)).heap.size = w1.heap.size + 1 := by simp
      rw [e] at this
      exact this
    have hkA : Keep (fun b => w.heap.size ≤ b) w ((w1.alloc (.cells #[.int .i64 r, .bool true, .map none, .slice none 0 0, .map (some (w1.heap.size + 1)), .int .i64 0, .int .i64 0, .int .i64 0, .int .i64 0, .int .i64 0, .slice none 0 0] 98)).alloc (.map #[] 0)) := ((Keep.ofNone hk1).alloc _).alloc _
    have hds := dirSync_ok w1.heap.size 2 (w1.heap.size + 1) 98 _ (fun _ => 0) [] _ hQ (by simp) rfl hM
    have hp1 := hk1.size
    have FIN : Hid (∀ w3, DirSynced ((w1.alloc (.cells #[.int .i64 r, .bool true, .map none, .slice none 0 0, .map (some (w1.heap.size + 1)), .int .i64 0, .int .i64 0, .int .i64 0, .int .i64 0, .int .i64 0, .slice none 0 0] 98)).alloc (.map #[] 0)) w3 w1.heap.size 2 (w1.heap.size + 1) 98 #[.int .i64 r, .bool true, .map none, .slice none 0 0, .map (some (w1.heap.size + 1)), .int .i64 0, .int .i64 0, .int .i64 0, .int .i64 0, .int .i64 0, .slice none 0 0] (fun _ => 0) [] → NewD w w3 r (.pointer (some ⟨w1.heap.size, 0, none⟩))) := fun w3 hs => by
      obtain ⟨nb, k1, k2, k3, k4, k5⟩ := hs
      have hsz : w1.heap.size + 1 < w3.heap.size := k3.lt
      have hK3 : Keep (fun b => w.heap.size ≤ b) w w3 := hkA.trans k4 (fun i e _ => by rw [e]; exact hp1)
      refine ⟨fun _ => ⟨w1.heap.size, fun _ => 0, fun b => if w.heap.size ≤ b ∧ b < w3.heap.size then 1 else 0, rfl, ⟨nb, w1.heap.size + 1, .slice none 0 0, .slice none 0 0, ?_⟩, fun b hb => ?_⟩, fun h => absurd HE.out h, hK3.os, hK3.tape, hK3.output, hK3.size, fun i hi _ => hK3.block i hi (by omega)⟩
      · have hl : ∀ b, w.heap.size ≤ b → b < w3.heap.size → (fun b => if w.heap.size ≤ b ∧ b < w3.heap.size then 1 else 0) b = 1 := fun b h1 h2 => if_pos ⟨h1, h2⟩
        have hnb := k2.lt
        have hnb2 : w1.heap.size + 1 < nb := by have := hM.lt; omega
        refine ⟨Ds.Wf.fresh (by omega), ?_, by omega, k2, k3, World.ownsRow_nil _ _ _ _, World.ownsRow_nil _ _ _ _, fun k hk => absurd hk (Nat.not_lt_zero _), hl _ hp1 (by omega), hl _ (by omega) hnb, hl _ (by omega) (by omega), by simp [Value.ownBlock], by simp [Value.ownBlock], fun b hb => ?_, (show (Lit.int .i64 0).wf = true ∧ (Lit.int .i64 0).wf = true ∧ (Lit.int .i64 0).wf = true from ⟨by decide, by decide, by decide⟩)⟩
        · rw [k1]
          simp [Ds.fresh, hrc]
        · by_cases hc : w.heap.size ≤ b ∧ b < w3.heap.size
          · exact hc.2
          · simp [hc] at hb
      · by_cases hc : w.heap.size ≤ b ∧ b < w3.heap.size
        · exact hc.1
        · simp [hc] at hb
    clear hM hkA hrc
    generalize ((w1.alloc (.cells #[.int .i64 r, .bool true, .map none, .slice none 0 0, .map (some (w1.heap.size + 1)), .int .i64 0, .int .i64 0, .int .i64 0, .int .i64 0, .int .i64 0, .slice none 0 0] 98)).alloc (.map #[] 0)) = w2 at hQ hds FIN ⊢
    go_wp2
    refine wp_loop_rounds 1 ?_
    rw [rounds_succ]
    go_wp2_with (go_at_call 98; refine hds.mono ?_; rintro e w3 ⟨rfl, hS3⟩; have H3 := hide (FIN.out w3 hS3); clear hS3)
    go_ret2
    exact ⟨_, by rw [HE.out]; rfl, H3.out⟩
  · have hv : Hid (∀ w', Kept [] w w' → NewD w w' r (.pointer none)) := fun w' hk => ⟨fun h => absurd h h0, fun _ => rfl, hk⟩
    have e0 : (roomE r != 0) = true := by simpa using h0
    generalize hE : roomE r = E at hrf e0
    have HE := hide hE
    clear h0 hE
    go_wp2_with (go_at_call 101; refine hrf.mono ?_; rintro e w1 ⟨rfl, hk1⟩; clear hrf)
    go_ret2
    exact ⟨_, rfl, hv.out _ hk1⟩

set_option maxHeartbeats 800000 in
set_option maxRecDepth 100000 in
theorem new_ok (r : Int) (w : World) (hr : (Lit.int .i64 r).wf = true) : Calls Tryz.prog 28 #[.int .i64 r] w fun e w' => ∃ v, e = .returned (.tuple #[v, .int .i64 (roomE r)]) ∧ NewD w w' r v := by
  have hl := loadNil_ok r w hr
  go_enter Tryz.func28, Tryz.ntmps28
  go_wp2_with (go_at_call 61; refine hl.mono ?_; rintro e w1 ⟨v, rfl, hn⟩)
  go_ret2
  exact ⟨v, rfl, hn⟩
end Go.Proofs.YtemlbmamcbmnjaaGreatDoor
