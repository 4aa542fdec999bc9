/-
  A disk that is none, or zero; freightlaw6.known.
-/
import Derived.Test.YtoiogpcmndlpcaaGreatDoorFncp
import Derived.Test.YtoiogpcmndlpcaaGreatDoorHop
import Derived.Lib.SlBytesConst
namespace Go.Proofs.YtoiogpcmndlpcaaGreatDoor
open Go.RowKit Dsk
set_option linter.unusedVariables false
set_option linter.unusedSimpArgs false

/-- No disk, or one whose power is off. -/
def OffV (dv : Value) (w : World) : Prop := dv = .pointer none ∨ ∃ b, dv = .pointer (some ⟨b, 0, none⟩) ∧ w.cell? ⟨b, 1, none⟩ = some (.bool false)
theorem OffV.kept {dv : Value} {w w' : World} (h : OffV dv w) (hk : Kept [] w w') : OffV dv w' := by
  rcases h with h | ⟨b, h, h2⟩
  · exact .inl h
  · exact .inr ⟨b, h, hk.cellOf h2 (by simp)⟩
theorem off_v {dv : Value} {w : World} (h : OffV dv w) : Calls Tryz.prog 48 #[dv] w fun e w' => e = .returned (.bool true) ∧ w' = w := by
  rcases h with rfl | ⟨b, rfl, h2⟩
  · go_enter Tryz.func48, Tryz.ntmps48
    go_wp2
    go_ret
    exact ⟨rfl, rfl⟩
  · go_enter Tryz.func48, Tryz.ntmps48
    go_wp2
    go_ret
    exact ⟨rfl, rfl⟩
theorem find_v {dv : Value} {w : World} (h : OffV dv w) (name : By) : Calls Tryz.prog 78 #[dv, encStr name] w fun e w' => e = .returned (.tuple #[.pointer none, .int .i64 50]) ∧ w' = w := by
  have c := off_v h
  clear h
  go_enter Tryz.func78, Tryz.ntmps78
  go_wp2_with (go_at_call 48; refine c.mono ?_; rintro e w' ⟨rfl, hww⟩; obtain rfl := hww.symm; clear c)
  go_ret2
  exact ⟨rfl, rfl⟩
theorem size_v {dv : Value} {w : World} (h : OffV dv w) (name : By) : Calls Tryz.prog 69 #[dv, encStr name] w fun e w' => e = .returned (.tuple #[.int .i64 0, .int .i64 50]) ∧ w' = w := by
  have c := find_v h name
  clear h
  go_enter Tryz.func69, Tryz.ntmps69
  go_wp2_with (go_at_call 78; refine c.mono ?_; rintro e w' ⟨rfl, hww⟩; obtain rfl := hww.symm; clear c)
  go_ret2
  exact ⟨rfl, rfl⟩
theorem remove_v {dv : Value} {w : World} (h : OffV dv w) (name : By) : Calls Tryz.prog 40 #[dv, encStr name] w fun e w' => e = .returned (.int .i64 50) ∧ w' = w := by
  have c := find_v h name
  clear h
  go_enter Tryz.func40, Tryz.ntmps40
  go_wp2_with (go_at_call 78; refine c.mono ?_; rintro e w' ⟨rfl, hww⟩; obtain rfl := hww.symm; clear c)
  go_ret
  exact ⟨rfl, rfl⟩

theorem new_sl6 (W : World) (d : By) (fr : Nat × Nat) : Sl (W.alloc (.cells (bys d).toArray 5 fr)) (some ⟨W.heap.size, 0, none⟩) d := by
  intro i hi
  have hh : (W.alloc (.cells (bys d).toArray 5 fr)).heap[W.heap.size]? = some (.cells (bys d).toArray 5 fr) := (MapKept.heap_alloc W _).1
  refine ⟨W.heap.size, 0, rfl, ?_⟩
  rw [Nat.zero_add, cell_of_row _ _ i _ _ _ hh]
  have := bys_at hi
  simpa using this
def Q0 : Ds := Ds.fresh 50
def Q1 : Ds := (((((Q0.create [43, 97]).2.append [43, 97] [120, 121]).2.sync [43, 97]).2.rename [43, 97] [97]).2.syncNames).2
def Q2 : Ds := Q1.read [97] 0 (Q1.size [97])
theorem Tryz.sizeQ : Q1.readBytes [97] 0 (Q1.size [97]) = [120, 121] := by decide
theorem q2s : Q2.strokes = 5 := by decide
theorem q2f : (Q2.find [98]).1 = 53 := by decide

set_option maxHeartbeats 4000000 in
set_option maxRecDepth 100000 in
theorem known6_ok (w : World) (hg : Gl w) : Calls Tryz.prog 7 #[] w fun e w' => e = .returned (.bool true) ∧ Kept [] w w' := by
  have kc := fun (w : World) (C : Array Value) (n c : Nat) => Lib.run_convert_bytes_const (P := Tryz.prog) w 28 5 C n c Tryz.underlying28 Tryz.underlying5
  have A0 := new_at 50 w (by decide)
  have hr0 : roomE 50 = 0 := by decide
  rw [hr0] at A0
  have A1 : Hid (∀ v p, At w v p Q0 0 → Calls Tryz.prog 24 #[.pointer (some ⟨p, 0, none⟩), .string ⟨#[97]⟩, .slice (some ⟨v.heap.size, 0, none⟩) 2 2] (v.alloc (.cells #[.int .u8 120, .int .u8 121] 5 (2, 3))) fun e w' => e = .returned .nilIface ∧ At w w' p Q1 9) := fun v p h => by
    have hk : Kept [] v (v.alloc (.cells (bys [120, 121]).toArray 5 (2, 3))) := (Kept.refl [] v).alloc _
    have hx := h.ax.more hk
    have := put_fine hx [97] (ao := some ⟨v.heap.size, 0, none⟩) (n := 2) (cp := 2) (d := [120, 121]) (by omega) (by decide) rfl (new_sl6 v [120, 121] (2, 3)) (by simp) (fun _ a ha => by injection ha with ha; subst ha; exact .inr ⟨Nat.le_refl _, by simp⟩) (by decide) (by decide) (by decide) (by decide) (by decide) (by decide) (by decide) (by decide)
    refine this.mono ?_
    rintro e w' ⟨rfl, hx2⟩
    refine ⟨rfl, ?_⟩
    obtain ⟨A, o, g1, g2, g3, g4⟩ := hx2
    obtain ⟨A0, o0, f1, f2, f3, f4⟩ := h
    refine ⟨A, o, g1, fun b hb => ?_, ⟨g3.os.trans (f3.os), g3.tape.trans f3.tape, g3.output.trans f3.output, Nat.le_trans f3.size (Nat.le_trans hk.size g3.size), fun i hi _ => ?_⟩, g4⟩
    · apply Classical.byContradiction
      intro hn
      exact hb (g2 b (.inl (by omega))).1
    · rw [g3.block i (Nat.lt_of_lt_of_le hi (Nat.le_trans f3.size hk.size)) (fun hn => hn (.inl hi)), hk.block i (Nat.lt_of_lt_of_le hi f3.size) (by simp)]
      exact f3.block i hi (by simp)
  have A2 : Hid (∀ v p, At w v p Q1 9 → Calls Tryz.prog 25 #[.pointer (some ⟨p, 0, none⟩), .string ⟨#[97]⟩] v fun e w' => ∃ u, e = .returned (.tuple #[u, .nilIface]) ∧ At w w' p Q2 10 ∧ OwnB w' u 2 [120, 121]) := fun v p h => by
    have := get_fine h.ax [97] (by omega) (by decide) (by decide) (by decide)
    rw [Tryz.sizeQ] at this
    refine this.mono ?_
    rintro e w' ⟨u, rfl, hx, ho⟩
    refine ⟨u, rfl, ?_, ho⟩
    obtain ⟨A, o, g1, g2, g3, g4⟩ := hx
    refine ⟨A, o, g1, fun b hb => ?_, ⟨g3.os, g3.tape, g3.output, g3.size, fun i hi _ => g3.block i hi (fun hn => hn hi)⟩, g4⟩
    apply Classical.byContradiction
    intro hn
    exact hb (g2 b (by omega)).1
  have A3 : Hid (∀ v p, At w v p Q2 10 → Calls Tryz.prog 25 #[.pointer (some ⟨p, 0, none⟩), .string ⟨#[98]⟩] v fun e w' => ∃ u, e = .returned (.tuple #[.slice none 0 0, u]) ∧ ErrV w' u opGet [98] 53 ∧ Kept [] v w') := fun v p h => by
    have hs := size_at h [98] (by decide)
    rw [q2f] at hs
    exact get_bad _ [98] _ 53 v (by decide) (by decide) (by decide) hs
  have A4 : Hid (∀ v p, At w v p Q2 10 → Calls Tryz.prog 15 #[.pointer (some ⟨p, 0, none⟩)] v fun e w' => e = .returned (.int .i64 5) ∧ w' = v) := fun v p h => by have := strokes_at h; rw [q2s] at this; exact this
  have HG := hide hg
  clear hg
  go_enter Tryz.func7, Tryz.ntmps7
  go_wp2_with (first
    | (go_at_call 22; refine A0.mono ?_; rintro e w1 ⟨v, rfl, hk1, hn1, _⟩; obtain ⟨p, rfl, hat⟩ := hn1 rfl; have H1 := hide hat; clear hat hn1 A0)
    | (go_at_call 24; refine (A1.out w1 p H1.out).mono ?_; rintro e w2 ⟨rfl, hat⟩; have H2 := hide hat; clear hat H1)
    | (go_at_call 25; have Ha := H2; refine (A2.out w2 p H2.out).mono ?_; rintro e w3 ⟨u3, rfl, hat, hu3⟩; have H3 := hide hat; have O3 := hide hu3; clear hat H2 hu3 Ha)
    | (go_at_call 25; have Ha := H3; refine (A3.out w3 p H3.out).mono ?_; rintro e w4 ⟨u4, rfl, hv4, hk4⟩; have H4 := hide (H3.out.kept hk4); have V4 := hide hv4; have hcv := run_to_str w4 u3 2 [120, 121] (O3.out.kept hk4); clear hv4 hk4 H3 Ha O3)
    | (go_at_call 15; refine (A4.out _ _ H4.out).mono ?_; rintro e w' ⟨rfl, hww⟩; obtain rfl := hww.symm)
    | (go_at_call 26; refine (says_yes u4 [103, 101, 116] [98] 53 w4 (HG.out.kept H4.out.old (by simp)) (by decide) V4.out).mono ?_; rintro e w5 ⟨rfl, hk5⟩; have K5 := hide hk5; clear hk5))
  go_ret
  exact ⟨rfl, H4.out.old.trans K5.out (by simp)⟩
end Go.Proofs.YtoiogpcmndlpcaaGreatDoor
