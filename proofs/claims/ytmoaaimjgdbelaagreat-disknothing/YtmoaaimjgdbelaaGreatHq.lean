/-
  Contract: freightlaw5.known.
-/
import Derived.Test.YtmoaaimjgdbelaaGreatHp
import Derived.Lib.SlBytesConst
namespace Go.Proofs.YtmoaaimjgdbelaaGreat
open Go.RowKit Dsk
set_option linter.unusedVariables false
set_option linter.unusedSimpArgs false

theorem new_sl (W : World) (d : By) (fr : Nat × Nat) : Sl (W.alloc (.cells (bys d).toArray 5 fr)) (some ⟨W.heap.size, 0, none⟩) d := by
  intro i hi
  have hh : (W.alloc (.cells (bys d).toArray 5 fr)).heap[W.heap.size]? = some (.cells (bys d).toArray 5 fr) := (MapKept.heap_alloc W _).1
  refine ⟨W.heap.size, 0, rfl, ?_⟩
  rw [Nat.zero_add, cell_of_row _ _ i _ _ _ hh]
  have := bys_at hi
  simpa using this

def K0 : Ds := Ds.fresh 20

def K1 : Ds := (K0.create [97]).2

def K2 : Ds := (K1.append [97] [120, 121, 122]).2

def K3 : Ds := (K2.sync [97]).2

def K4 : Ds := K3.syncNames.2

def K5 : Ds := (K4.append [97] [49, 50]).2

def K6 : Ds := (K5.rename [97] [98]).2

def K7 : Ds := K6.read [98] 2 2

def K8 : Ds := K7.crash [1, 1]

def K9 : Ds := (K8.remove [97]).2

theorem k1 : (K0.create [97]).1 = 0 := by decide

theorem k2 : (K1.append [97] [120, 121, 122]).1 = 0 := by decide

theorem k3 : (K2.sync [97]).1 = 0 := by decide

theorem k4 : K3.syncNames.1 = 0 := by decide

theorem k5 : (K4.append [97] [49, 50]).1 = 0 := by decide

theorem k6 : (K5.rename [97] [98]).1 = 0 := by decide

theorem k7 : K6.readOk [98] 2 2 = 0 := by decide

theorem k7b : K6.readBytes [98] 2 2 = [122, 49] := by decide

theorem k7s : K7.strokes = 6 := by decide

theorem k7r : K7.reads.length = 1 := by decide

theorem k8 : K8.files = [([98], [120, 121, 122, 49])] := by decide

theorem k9 : (K8.remove [97]).1 = 53 := by decide

theorem k9u : K9.used = 4 := by decide

set_option maxHeartbeats 800000 in
set_option maxRecDepth 100000 in
theorem num_ok (E : Int) (w : World) : Calls Tryz.prog 11 #[.int .i64 E] w fun e w' => e = .returned (.int .i64 E) ∧ w' = w := by
  go_enter Tryz.func11, Tryz.ntmps11
  go_wp2
  go_ret
  exact ⟨rfl, rfl⟩

/-- Two picks in a new row. -/
theorem new_ints (W : World) : Ints (W.alloc (.cells #[.int .i64 1, .int .i64 1] 3)) (some ⟨W.heap.size, 0, none⟩) [1, 1] := by
  intro i hi
  have hh : (W.alloc (.cells #[.int .i64 1, .int .i64 1] 3)).heap[W.heap.size]? = some (.cells #[.int .i64 1, .int .i64 1] 3 (0, 0)) := (MapKept.heap_alloc W _).1
  refine ⟨W.heap.size, 0, rfl, ?_⟩
  rw [Nat.zero_add, cell_of_row _ _ i _ _ _ hh]
  match i, hi with
  | 0, _ => rfl
  | 1, _ => rfl

set_option maxHeartbeats 4000000 in
set_option maxRecDepth 100000 in
theorem known_ok (w : World) : Calls Tryz.prog 13 #[] w fun e w' => e = .returned (.bool true) ∧ Kept [] w w' := by
  have kc := fun (w : World) (C : Array Value) (n c : Nat) => Lib.run_convert_bytes_const (P := Tryz.prog) w 24 5 C n c Tryz.underlying24 Tryz.underlying5
  have A0 := new_at 20 w (by decide)
  have A1 : Hid (∀ v p, At w v p K0 0 → Calls Tryz.prog 17 #[.pointer (some ⟨p, 0, none⟩), .string ⟨#[97]⟩] v fun e w' => e = .returned (.int .i64 0) ∧ At w w' p K1 1) := fun v p h => by have := create_at h (by omega) [97] (by decide); rw [k1] at this; exact this
  have A2 : Hid (∀ v p, At w v p K1 1 → Calls Tryz.prog 19 #[.pointer (some ⟨p, 0, none⟩), .string ⟨#[97]⟩, .slice (some ⟨v.heap.size, 0, none⟩) 3 3] (v.alloc (.cells #[.int .u8 120, .int .u8 121, .int .u8 122] 5 (3, 4))) fun e w' => e = .returned (.int .i64 0) ∧ At w w' p K2 6) := fun v p h => by
    have := append_at h ((Kept.refl [] v).alloc (.cells (bys [120, 121, 122]).toArray 5 (3, 4))) (c := 3) (by omega) [97] (by decide) (n := 3) rfl (new_sl v [120, 121, 122] (3, 4)) (by simp) (fun _ a ha => by injection ha with ha; subst ha; exact .inl (Nat.le_refl _))
    rw [k2] at this
    exact this
  have A3 : Hid (∀ v p, At w v p K2 6 → Calls Tryz.prog 35 #[.pointer (some ⟨p, 0, none⟩), .string ⟨#[97]⟩] v fun e w' => e = .returned (.int .i64 0) ∧ At w w' p K3 7) := fun v p h => by have := sync_at h (by omega) [97] (by decide); rw [k3] at this; exact this
  have A4 : Hid (∀ v p, At w v p K3 7 → Calls Tryz.prog 36 #[.pointer (some ⟨p, 0, none⟩)] v fun e w' => e = .returned (.int .i64 0) ∧ At w w' p K4 8) := fun v p h => by have := syncNames_at h (by omega); rw [k4] at this; exact this
  have A5 : Hid (∀ v p, At w v p K4 8 → Calls Tryz.prog 19 #[.pointer (some ⟨p, 0, none⟩), .string ⟨#[97]⟩, .slice (some ⟨v.heap.size, 0, none⟩) 2 2] (v.alloc (.cells #[.int .u8 49, .int .u8 50] 5 (2, 3))) fun e w' => e = .returned (.int .i64 0) ∧ At w w' p K5 12) := fun v p h => by
    have := append_at h ((Kept.refl [] v).alloc (.cells (bys [49, 50]).toArray 5 (2, 3))) (c := 2) (by omega) [97] (by decide) (n := 2) rfl (new_sl v [49, 50] (2, 3)) (by simp) (fun _ a ha => by injection ha with ha; subst ha; exact .inl (Nat.le_refl _))
    rw [k5] at this
    exact this
  have A6 : Hid (∀ v p, At w v p K5 12 → Calls Tryz.prog 37 #[.pointer (some ⟨p, 0, none⟩), .string ⟨#[97]⟩, .string ⟨#[98]⟩] v fun e w' => e = .returned (.int .i64 0) ∧ At w w' p K6 14) := fun v p h => by have := rename_at h (by omega) [97] [98] (by decide) (by decide); rw [k6] at this; exact this
  have A7 : Hid (∀ v p, At w v p K6 14 → Calls Tryz.prog 38 #[.pointer (some ⟨p, 0, none⟩), .string ⟨#[98]⟩, .int .i64 2, .int .i64 2] v fun e w' => ∃ u, e = .returned (.tuple #[u, .int .i64 0]) ∧ At w w' p K7 15 ∧ OwnB w' u 2 [122, 49]) := fun v p h => by have := read_at h (by omega) [98] (by decide) 2 2; rw [k7, k7b] at this; exact this
  have A7s : Hid (∀ v p, At w v p K7 15 → Calls Tryz.prog 39 #[.pointer (some ⟨p, 0, none⟩)] v fun e w' => e = .returned (.int .i64 6) ∧ w' = v) := fun v p h => by have := strokes_at h; rw [k7s] at this; exact this
  have A7r : Hid (∀ v p, At w v p K7 15 → Calls Tryz.prog 40 #[.pointer (some ⟨p, 0, none⟩)] v fun e w' => ∃ so sc, e = .returned (.slice so 1 sc) ∧ At w w' p K7 15) := fun v p h => by
    have := reads_at h (by omega)
    refine this.mono ?_
    rintro e w' ⟨u, rfl, ho, hk⟩
    obtain ⟨so, sc, rfl, _⟩ := own_shape ho
    rw [k7r]
    exact ⟨so, sc, rfl, h.kept hk⟩
  have A8 : Hid (∀ v p, At w v p K7 15 → Calls Tryz.prog 41 #[.pointer (some ⟨p, 0, none⟩), .slice (some ⟨v.heap.size, 0, none⟩) 2 2] (v.alloc (.cells #[.int .i64 1, .int .i64 1] 3)) fun e w' => e = .returned (.tuple #[]) ∧ At w w' p K8 15) := fun v p h =>
    crash_at h ((Kept.refl [] v).alloc _) (by omega) (ps := [1, 1]) rfl (new_ints v) (fun i => by match i with | 0 => decide | 1 => decide | (n + 2) => show (Lit.int .i64 0).wf = true; decide) (by omega) (fun _ a ha => by injection ha with ha; subst ha; exact .inl (Nat.le_refl _))
  have A8f : Hid (∀ v p, At w v p K8 15 → Calls Tryz.prog 42 #[.pointer (some ⟨p, 0, none⟩)] v fun e w' => ∃ g c u, e = .returned (.slice (some ⟨g, 0, none⟩) 1 c) ∧ At w w' p K8 15 ∧ w'.cell? ⟨g, 0, none⟩ = some (.string ⟨#[98]⟩) ∧ w'.cell? ⟨g, 1, none⟩ = some u ∧ OwnB w' u 4 [120, 121, 122, 49]) := fun v p h => by
    refine (files_at h (by omega)).mono ?_
    rintro e w' ⟨x, vs, rfl, hF, hk⟩
    rw [k8] at hF
    obtain ⟨u, rfl⟩ : ∃ u, vs = [u] := by
      have := hF.len
      match vs, this with
      | [u], _ => exact ⟨u, rfl⟩
    rcases hF.row.2 with ⟨_, e2⟩ | ⟨g, c, cur, rfl, _⟩
    · simp at e2
    · have c0 := hF.row.cells (g := g) rfl 0 (encStr [98]) rfl
      have c1 := hF.row.cells (g := g) rfl 1 u rfl
      rw [add0] at c0 c1
      exact ⟨g, c, u, rfl, h.kept hk, c0, c1, hF.own 0 _ u rfl rfl⟩
  have A9 : Hid (∀ v p, At w v p K8 15 → Calls Tryz.prog 43 #[.pointer (some ⟨p, 0, none⟩), .string ⟨#[97]⟩] v fun e w' => e = .returned (.int .i64 53) ∧ At w w' p K9 17) := fun v p h => by have := remove_at h (by omega) [97] (by decide); rw [k9] at this; exact this
  have A9u : Hid (∀ v p, At w v p K9 17 → Calls Tryz.prog 44 #[.pointer (some ⟨p, 0, none⟩)] v fun e w' => e = .returned (.int .i64 4) ∧ At w w' p K9 17) := fun v p h => by
    have := used_at h (by omega)
    rw [k9u] at this
    refine this.mono ?_
    rintro e w' ⟨rfl, hk⟩
    exact ⟨rfl, h.kept hk⟩
  have hr0 : roomE 20 = 0 := by decide
  rw [hr0] at A0
  go_enter Tryz.func13, Tryz.ntmps13
  go_wp2_with (first
    | (go_at_call 34; refine A0.mono ?_; rintro e w1 ⟨v, rfl, hk1, hn1, _⟩; obtain ⟨p, rfl, hat⟩ := hn1 rfl; have H1 := hide hat; clear hat hn1 A0)
    | (go_at_call 11; refine (num_ok _ _).mono ?_; rintro e w' ⟨rfl, rfl⟩)
    | (go_at_call 17; refine (A1.out _ _ H1.out).mono ?_; rintro e w2 ⟨rfl, hat⟩; have H2 := hide hat; clear hat H1)
    | (go_at_call 19; have Ha := H2; refine (A2.out w2 p H2.out).mono ?_; rintro e w3 ⟨rfl, hat⟩; have H3 := hide hat; clear hat H2 Ha)
    | (go_at_call 35; refine (A3.out _ _ H3.out).mono ?_; rintro e w4 ⟨rfl, hat⟩; have H4 := hide hat; clear hat H3)
    | (go_at_call 36; refine (A4.out _ _ H4.out).mono ?_; rintro e w5 ⟨rfl, hat⟩; have H5 := hide hat; clear hat H4)
    | (go_at_call 19; have Ha := H5; refine (A5.out w5 p H5.out).mono ?_; rintro e w6 ⟨rfl, hat⟩; have H6 := hide hat; clear hat H5 Ha)
    | (go_at_call 37; refine (A6.out _ _ H6.out).mono ?_; rintro e w7 ⟨rfl, hat⟩; have H7 := hide hat; clear hat H6)
    | (go_at_call 38; refine (A7.out _ _ H7.out).mono ?_; rintro e w8 ⟨u8, rfl, hat, hu8⟩; have H8 := hide hat; have hcv8 := run_to_str w8 u8 2 [122, 49] hu8; clear hat H7 hu8)
    | (go_at_call 39; refine (A7s.out _ _ H8.out).mono ?_; rintro e w' ⟨rfl, rfl⟩)
    | (go_at_call 40; refine (A7r.out _ _ H8.out).mono ?_; rintro e w9 ⟨so9, sc9, rfl, hat⟩; have H9 := hide hat; clear hat H8)
    | (go_at_call 41; refine (A8.out w9 p H9.out).mono ?_; rintro e w10 ⟨rfl, hat⟩; have H10 := hide hat; clear hat H9)
    | (go_at_call 42; refine (A8f.out _ _ H10.out).mono ?_; rintro e w11 ⟨g11, c11, u11, rfl, hat, d0, d1, hu11⟩; have H11 := hide hat; have hcv11 := run_to_str w11 u11 4 [120, 121, 122, 49] hu11; clear hat H10 hu11)
    | (go_at_call 43; refine (A9.out _ _ H11.out).mono ?_; rintro e w12 ⟨rfl, hat⟩; have H12 := hide hat; clear hat H11)
    | (go_at_call 44; refine (A9u.out _ _ H12.out).mono ?_; rintro e w13 ⟨rfl, hat⟩; have H13 := hide hat; clear hat H12))
  go_ret
  exact ⟨rfl, H13.out.old⟩

end Go.Proofs.YtmoaaimjgdbelaaGreat
