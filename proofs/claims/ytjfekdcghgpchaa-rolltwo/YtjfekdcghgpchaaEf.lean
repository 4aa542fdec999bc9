/-
  Contracts: roll.New, Roll.Sum, Roll.Push.
-/
import Derived.Test.YtjfekdcghgpchaaE2
import Derived.Test.YtjfekdcghgpchaaEc
namespace Go.Proofs.Ytjfekdcghgpchaa
open Go.RowKit
set_option linter.unusedVariables false
set_option linter.unusedSimpArgs false

/-- A window in a row gone round. -/
def wnd (ring : List UInt8) (f : Nat) : List UInt8 := ring.drop f ++ ring.take f

theorem wnd_zero (ring : List UInt8) : wnd ring 0 = ring := by simp [wnd]
theorem wnd_length (ring : List UInt8) (f : Nat) : (wnd ring f).length = ring.length := by simp [wnd]; omega
theorem wnd_head (ring : List UInt8) (f : Nat) (hf : f < ring.length) : wnd ring f = ring.getD f 0 :: (ring.drop (f + 1) ++ ring.take f) := by
  unfold wnd
  rw [List.drop_eq_getElem_cons hf]
  simp only [List.getD_eq_getElem?_getD, List.getElem?_eq_getElem hf, Option.getD_some, List.cons_append]
theorem wnd_push (ring : List UInt8) (f : Nat) (hf : f < ring.length) (c : UInt8) : wnd (ring.set f c) ((f + 1) % ring.length) = (ring.drop (f + 1) ++ ring.take f) ++ [c] := by
  by_cases h : f + 1 < ring.length
  · rw [Nat.mod_eq_of_lt h]
    unfold wnd
    rw [List.drop_set_of_lt (by omega), List.append_assoc]
    congr 1
    rw [List.take_succ_eq_append_getElem (by simpa using hf), List.getElem_set_self]
    congr 1
    apply List.ext_getElem
    · simp
    · intro i h1 h2
      simp at h1
      rw [List.getElem_take, List.getElem_take, List.getElem_set_ne (by omega)]
  · have : f + 1 = ring.length := by omega
    rw [this, Nat.mod_self, wnd_zero, List.drop_of_length_le (Nat.le_refl _), List.nil_append]
    apply List.ext_getElem
    · simp; omega
    · intro i h1 h2
      simp at h1
      by_cases hi : i = f
      · subst hi; rw [List.getElem_set_self, List.getElem_append_right (by simp; omega)]; simp
      · rw [List.getElem_set_ne (by omega), List.getElem_append_left (by simp; omega)]
        simp

/-- A Roll lies at block p, its bytes at block g: ring, gone round to f. -/
structure Rl (w : World) (p g cap f : Nat) (ring : List UInt8) : Prop where
  c0 : w.cell? ⟨p, 0, none⟩ = some (.slice (some ⟨g, 0, none⟩) ring.length cap)
  c1 : w.cell? ⟨p, 1, none⟩ = some (.int .i64 f)
  c2 : w.cell? ⟨p, 2, none⟩ = some (.int .u16 (Rol.pa (wnd ring f)))
  c3 : w.cell? ⟨p, 3, none⟩ = some (.int .u16 (Rol.pb (wnd ring f)))
  fp : ∀ i, w.frozen? ⟨p, i, none⟩ = false
  cg : ∀ i, i < ring.length → w.cell? ⟨g, i, none⟩ = some (.int .u8 (ring.getD i 0).toNat)
  fg : ∀ i, w.frozen? ⟨g, i, none⟩ = false
  ne : g ≠ p
  lt : f < ring.length
  small : ring.length ≤ 4096
  le : ring.length ≤ cap

/-- A Roll with this window. -/
def Ro (w : World) (p g : Nat) (win : List UInt8) : Prop := ∃ cap f ring, Rl w p g cap f ring ∧ wnd ring f = win

theorem Rl.kept {l : List Nat} {w w' : World} {p g cap f : Nat} {ring : List UInt8} (h : Rl w p g cap f ring) (hk : Kept l w w') (hp : p ∉ l) (hg : g ∉ l) : Rl w' p g cap f ring := by
  have hgl : g < w.heap.size := World.block_lt_of_cell? _ _ (h.cg 0 (by have := h.lt; omega))
  have hpl : p < w.heap.size := World.block_lt_of_cell? _ _ h.c0
  exact ⟨hk.cellOf h.c0 hp, hk.cellOf h.c1 hp, hk.cellOf h.c2 hp, hk.cellOf h.c3 hp, fun i => (hk.frozen (p := ⟨p, i, none⟩) hpl hp).trans (h.fp i), fun i hi => hk.cellOf (h.cg i hi) hg, fun i => (hk.frozen (p := ⟨g, i, none⟩) hgl hg).trans (h.fg i), h.ne, h.lt, h.small, h.le⟩

theorem Ro.kept {l : List Nat} {w w' : World} {p g : Nat} {win : List UInt8} (h : Ro w p g win) (hk : Kept l w w') (hp : p ∉ l) (hg : g ∉ l) : Ro w' p g win := by
  obtain ⟨cap, f, ring, h, e⟩ := h
  exact ⟨cap, f, ring, h.kept hk hp hg, e⟩
theorem Ro.ltp {w : World} {p g : Nat} {win : List UInt8} (h : Ro w p g win) : p < w.heap.size := by
  obtain ⟨cap, f, ring, h, e⟩ := h
  exact World.block_lt_of_cell? _ _ h.c0
theorem Ro.ltg {w : World} {p g : Nat} {win : List UInt8} (h : Ro w p g win) : g < w.heap.size := by
  obtain ⟨cap, f, ring, h, e⟩ := h
  exact World.block_lt_of_cell? _ _ (h.cg 0 (by have := h.lt; omega))
theorem Ro.small {w : World} {p g : Nat} {win : List UInt8} (h : Ro w p g win) : 1 ≤ win.length ∧ win.length ≤ 4096 := by
  obtain ⟨cap, f, ring, h, e⟩ := h
  rw [← e, wnd_length]
  exact ⟨by have := h.lt; omega, h.small⟩

set_option maxHeartbeats 1000000 in
set_option maxRecDepth 100000 in
/-- Roll.Sum. -/
theorem rollSum_ok {w : World} {p g : Nat} {win : List UInt8} (h : Ro w p g win) :
    Calls Try.prog 15 #[.pointer (some ⟨p, 0, none⟩)] w fun e w' => e = .returned (.int .i64 (Rol.sum win)) ∧ Kept [] w w' := by
  obtain ⟨cap, f, ring, h, e⟩ := h
  have c2 := h.c2
  have c3 := h.c3
  rw [e] at c2 c3
  have ha := Rol.pa_lt win
  have hb := Rol.pb_lt win
  clear h e
  go_enter Try.func15, Try.ntmps15
  go_wp2_with (go_at_call 22; refine (psum_any _ _ _ ha hb).mono ?_; rintro e w2 ⟨rfl, hk2⟩)
  go_ret
  exact ⟨rfl, hk2⟩

set_option maxHeartbeats 1000000 in
set_option maxRecDepth 100000 in
theorem rollSum_nil (w : World) :
    Calls Try.prog 15 #[.pointer none] w fun e w' => e = .returned (.int .i64 0) ∧ w' = w := by
  go_enter Try.func15, Try.ntmps15
  go_wp2
  go_ret
  exact ⟨rfl, rfl⟩

set_option maxHeartbeats 1000000 in
set_option maxRecDepth 100000 in
theorem rollPush_nil (c : Int) (w : World) :
    Calls Try.prog 16 #[.pointer none, .int .u8 c] w fun e w' => e = .returned (.int .u8 0) ∧ w' = w := by
  go_enter Try.func16, Try.ntmps16
  go_wp2
  go_ret
  exact ⟨rfl, rfl⟩

end Go.Proofs.Ytjfekdcghgpchaa
