import Derived.Test.YteckiednnaianaaGreatHgp
import Derived.Test.YteckiednnaianaaGreatHmp
import Derived.Lib.SlBytesConst
import Derived.Test.YteckiednnaianaaGreatProg
import Derived.Test.YteckiednnaianaaGreatMemp
import Derived.ProofKit
import Derived.OpenShut
import Derived.Deep.Slices
import Derived.Lib.SmallJoins
import Derived.Deep.MidRow
import Derived.Test.YteckiednnaianaaGreatGvp
namespace Go.Proofs.YteckiednnaianaaGreat
section
open Go.RowKit Dsk
set_option linter.unusedVariables false
set_option linter.unusedSimpArgs false
def At (w0 w : World) (p : Nat) (S : Ds) (N : Nat) : Prop := ∃ A o, PD w p S A o ∧ (∀ b, o b ≠ 0 → w0.heap.size ≤ b) ∧ Kept [] w0 w ∧ S.Bd N
theorem At.wf {w0 w : World} {p : Nat} {S : Ds} {N : Nat} (h : At w0 w p S N) : S.Wf := by
 obtain ⟨A, o, ⟨_, _, _, _, h⟩, _⟩ := h
 exact h.wf
theorem At.bd {w0 w : World} {p : Nat} {S : Ds} {N : Nat} (h : At w0 w p S N) : S.Bd N := h.choose_spec.choose_spec.2.2.2
theorem At.old {w0 w : World} {p : Nat} {S : Ds} {N : Nat} (h : At w0 w p S N) : Kept [] w0 w := h.choose_spec.choose_spec.2.2.1
theorem At.kept {w0 w w' : World} {p : Nat} {S : Ds} {N : Nat} (h : At w0 w p S N) (hk : Kept [] w w') : At w0 w' p S N := by
 obtain ⟨A, o, hP, ho, hw, hb⟩ := h
 exact ⟨A, o, hP.keep (Keep.ofNone (F := fun _ => False) hk) (fun _ _ h => h), ho, hw.trans hk (by simp), hb⟩
theorem At.mono {w0 w : World} {p : Nat} {S : Ds} {N M : Nat} (h : At w0 w p S N) (hm : N ≤ M) : At w0 w p S M := by
 obtain ⟨A, o, hP, ho, hw, hb⟩ := h
 exact ⟨A, o, hP, ho, hw, hb.mono hm⟩
theorem aft_at {w0 w w' : World} {p : Nat} {S S' : Ds} {M : Nat} {o : Lab} (ho : ∀ b, o b ≠ 0 → w0.heap.size ≤ b) (hw : Kept [] w0 w) (ha : Aft w w' p S' o) (hb : S'.Bd M) : At w0 w' p S' M := by
 obtain ⟨A', o', hP, he, hK⟩ := ha
 refine ⟨A', o', hP, fun b hb => ?_, ?_, hb⟩
 ·by_cases hlt : b < w.heap.size
  ·exact ho b (he b hlt hb)
  ·have := hw.size; omega
 ·exact ⟨hK.os.trans hw.os, hK.tape.trans hw.tape, hK.output.trans hw.output, Nat.le_trans hw.size hK.size, fun i hi _ => (hK.block i (Nat.lt_of_lt_of_le hi hw.size) (fun hm => by have := ho i hm; omega)).trans (hw.block i hi (by simp))⟩
section
variable {w0 w : World} {p : Nat} {S : Ds} {N : Nat}
theorem create_at (h : At w0 w p S N) (hN : N ≤ 268435456) (n : By) (hn : n.length ≤ 4611686018427387904) : Calls Tryz.prog 24 #[.pointer (some ⟨p, 0, none⟩), encStr n] w fun e w' => e = .returned (.int .i64 (S.create n).1) ∧ At w0 w' p (S.create n).2 (N + 1) := by
 obtain ⟨A, o, hP, ho, hw, hb⟩ := h
 refine (create_ok hP hb hN n hn).mono ?_
 rintro e w' ⟨rfl, ha⟩
 exact ⟨rfl, aft_at (S := S) ho hw ha (hb.create n)⟩
theorem given_of {A : Nat → Nat} {o : Lab} {w1 : World} (hP : PD w p S A o) (ho : ∀ b, o b ≠ 0 → w0.heap.size ≤ b) (hk : Kept [] w w1) {ao : Option Addr} {n : Nat} {d : By} (hl : d.length = n) (hs : Sl w1 ao d) (h0 : ao = none → n = 0) (hnew : d ≠ [] → ∀ a, ao = some a → w.heap.size ≤ a.block ∨ a.block < w0.heap.size) : Given w1 o ao n d := by
 obtain ⟨_, _, _, _, hx⟩ := hP
 refine ⟨hl, hs, h0, fun hd a ha => ?_⟩
 apply Classical.byContradiction
 intro hne
 rcases hnew hd a ha with h1 | h1
 ·have := hx.lim a.block hne; omega
 ·have := ho a.block hne; omega
theorem append_at (h : At w0 w p S N) {w1 : World} (hk : Kept [] w w1) {ao : Option Addr} {n c : Nat} {d : By} (hN : N + n ≤ 268435456) (nm : By) (hnl : nm.length ≤ 4611686018427387904) (hl : d.length = n) (hs : Sl w1 ao d) (h0 : ao = none → n = 0) (hnew : d ≠ [] → ∀ a, ao = some a → w.heap.size ≤ a.block ∨ a.block < w0.heap.size) :
  Calls Tryz.prog 25 #[.pointer (some ⟨p, 0, none⟩), encStr nm, .slice ao n c] w1 fun e w' => e = .returned (.int .i64 (S.append nm d).1) ∧ At w0 w' p (S.append nm d).2 (N + n + 2) := by
 obtain ⟨A, o, hP, ho, hw, hb⟩ := h
 have hP1 : PD w1 p S A o := hP.keep (Keep.ofNone (F := fun _ => False) hk) (fun _ _ h => h)
 refine (append_ok hP1 hb hN nm hnl (given_of hP ho hk hl hs h0 hnew)).mono ?_
 rintro e w' ⟨rfl, ha⟩
 exact ⟨rfl, aft_at (S := S) ho (hw.trans hk (by simp)) ha (by have := hb.append nm d; rw [hl] at this; exact this)⟩
theorem rename_at (h : At w0 w p S N) (hN : N ≤ 268435456) (f t : By) (hfl : f.length ≤ 4611686018427387904) (htl : t.length ≤ 4611686018427387904) : Calls Tryz.prog 28 #[.pointer (some ⟨p, 0, none⟩), encStr f, encStr t] w fun e w' => e = .returned (.int .i64 (S.rename f t).1) ∧ At w0 w' p (S.rename f t).2 (N + 2) := by
 obtain ⟨A, o, hP, ho, hw, hb⟩ := h
 refine (rename_ok hP hb hN f t hfl htl).mono ?_
 rintro e w' ⟨rfl, ha⟩
 exact ⟨rfl, aft_at (S := S) ho hw ha (hb.rename f t)⟩
theorem remove_at (h : At w0 w p S N) (hN : N ≤ 268435456) (nm : By) (hnl : nm.length ≤ 4611686018427387904) : Calls Tryz.prog 34 #[.pointer (some ⟨p, 0, none⟩), encStr nm] w fun e w' => e = .returned (.int .i64 (S.remove nm).1) ∧ At w0 w' p (S.remove nm).2 (N + 2) := by
 obtain ⟨A, o, hP, ho, hw, hb⟩ := h
 refine (remove_ok hP hb hN nm hnl).mono ?_
 rintro e w' ⟨rfl, ha⟩
 exact ⟨rfl, aft_at (S := S) ho hw ha (hb.remove nm)⟩
theorem sync_at (h : At w0 w p S N) (hN : N ≤ 268435456) (nm : By) (hnl : nm.length ≤ 4611686018427387904) : Calls Tryz.prog 26 #[.pointer (some ⟨p, 0, none⟩), encStr nm] w fun e w' => e = .returned (.int .i64 (S.sync nm).1) ∧ At w0 w' p (S.sync nm).2 (N + 1) := by
 have hwf := h.wf
 obtain ⟨A, o, hP, ho, hw, hb⟩ := h
 refine (sync_ok hP hb hN nm hnl).mono ?_
 rintro e w' ⟨rfl, ha⟩
 exact ⟨rfl, aft_at (S := S) ho hw ha (hb.sync hwf nm)⟩
theorem syncNames_at (h : At w0 w p S N) (hN : N ≤ 268435456) : Calls Tryz.prog 27 #[.pointer (some ⟨p, 0, none⟩)] w fun e w' => e = .returned (.int .i64 (S.syncNames).1) ∧ At w0 w' p (S.syncNames).2 (N + 1) := by
 have hwf := h.wf
 obtain ⟨A, o, hP, ho, hw, hb⟩ := h
 refine (syncNames_ok hP hb hN).mono ?_
 rintro e w' ⟨rfl, ha⟩
 exact ⟨rfl, aft_at (S := S) ho hw ha (hb.syncNames hwf)⟩
theorem read_at (h : At w0 w p S N) (hN : N ≤ 268435456) (nm : By) (hnl : nm.length ≤ 4611686018427387904) (a m : Int) : Calls Tryz.prog 29 #[.pointer (some ⟨p, 0, none⟩), encStr nm, .int .i64 a, .int .i64 m] w fun e w' => ∃ v, e = .returned (.tuple #[v, .int .i64 (S.readOk nm a m)]) ∧ At w0 w' p (S.read nm a m) (N + 1) ∧ OwnB w' v (S.readBytes nm a m).length (S.readBytes nm a m) := by
 obtain ⟨A, o, hP, ho, hw, hb⟩ := h
 refine (read_ok hP hb hN nm hnl a m).mono ?_
 rintro e w' ⟨v, rfl, A', o', h1, h2, h3, h4, h5⟩
 exact ⟨v, rfl, aft_at (S := S) ho hw ⟨A', o', h1, h2, h3⟩ (hb.read nm a m), h4⟩
theorem crash_at (h : At w0 w p S N) {w1 : World} (hk : Kept [] w w1) (hN : N ≤ 268435456) {ao : Option Addr} {n c : Nat} {ps : List Int} (hl : ps.length = n) (hr : Ints w1 ao ps) (hwf : ∀ i, (Lit.int .i64 (ps.getD i 0)).wf = true) (hn : n ≤ 17592186044416) (hnew : ps ≠ [] → ∀ a, ao = some a → w.heap.size ≤ a.block ∨ a.block < w0.heap.size) :
  Calls Tryz.prog 32 #[.pointer (some ⟨p, 0, none⟩), .slice ao n c] w1 fun e w' => e = .returned (.tuple #[]) ∧ At w0 w' p (S.crash ps) N := by
 have hwfS := h.wf
 obtain ⟨A, o, hP, ho, hw, hb⟩ := h
 have hP1 : PD w1 p S A o := hP.keep (Keep.ofNone (F := fun _ => False) hk) (fun _ _ h => h)
 refine (crash_ok hP1 hb hN (ps := ps) ⟨hl, hr, hwf, fun hd a ha => ?_⟩ hn).mono ?_
 ·obtain ⟨_, _, _, _, hx⟩ := hP
  apply Classical.byContradiction
  intro hne
  rcases hnew hd a ha with h1 | h1
  ·have := hx.lim a.block hne; omega
  ·have := ho a.block hne; omega
 rintro e w' ⟨rfl, ha⟩
 exact ⟨rfl, aft_at (S := S) ho (hw.trans hk (by simp)) ha (hb.crash hwfS ps)⟩
theorem strokes_at (h : At w0 w p S N) : Calls Tryz.prog 30 #[.pointer (some ⟨p, 0, none⟩)] w fun e w' => e = .returned (.int .i64 S.strokes) ∧ w' = w := by
 obtain ⟨A, o, hP, _⟩ := h
 exact strokes_ok hP
theorem used_at (h : At w0 w p S N) (hN : N ≤ 268435456) : Calls Tryz.prog 35 #[.pointer (some ⟨p, 0, none⟩)] w fun e w' => e = .returned (.int .i64 S.used) ∧ Kept [] w w' := by
 obtain ⟨A, o, hP, ho, hw, hb⟩ := h
 exact usedD_ok hP hb (by omega)
theorem files_at (h : At w0 w p S N) (hN : N ≤ 268435456) : Calls Tryz.prog 33 #[.pointer (some ⟨p, 0, none⟩)] w fun e w' => ∃ v vs, e = .returned v ∧ Fls w' w.heap.size v S.files vs ∧ Kept [] w w' := by
 obtain ⟨A, o, hP, ho, hw, hb⟩ := h
 exact files_ok hP hb hN
theorem reads_at (h : At w0 w p S N) (hN : N ≤ 268435456) : Calls Tryz.prog 31 #[.pointer (some ⟨p, 0, none⟩)] w fun e w' => ∃ v, e = .returned v ∧ w'.ownsRow w.heap.size 126 3 v S.reads.length (S.reads.flatMap encSp) ∧ Kept [] w w' := by
 obtain ⟨A, o, hP, ho, hw, hb⟩ := h
 exact reads_ok hP hb hN
end
theorem new_at (r : Int) (w : World) (hr : (Lit.int .i64 r).wf = true) : Calls Tryz.prog 23 #[.int .i64 r] w fun e w' => ∃ v, e = .returned (.tuple #[v, .int .i64 (roomE r)]) ∧ Kept [] w w' ∧ (roomE r = 0 → ∃ p, v = .pointer (some ⟨p, 0, none⟩) ∧ At w w' p (Ds.fresh r.toNat) 0) ∧ (roomE r ≠ 0 → v = .pointer none) := by
 refine (new_ok r w hr).mono ?_
 rintro e w' ⟨v, rfl, h1, h2, h3⟩
 refine ⟨v, rfl, h3, fun h => ?_, h2⟩
 obtain ⟨p, A, o, e, hP, ho⟩ := h1 h
 exact ⟨p, e, A, o, hP, ho, h3, Ds.Bd.fresh _⟩
end

section
open Go.RowKit Dsk
set_option linter.unusedVariables false
set_option linter.unusedSimpArgs false
theorem new_sl (W : World) (d : By) (fr : Nat × Nat) : Sl (W.alloc (.cells (bys d).toArray 5 fr)) (some ⟨W.heap.size, 0, none⟩) d := by
 intro i hi
 have hh : (W.alloc (.cells (bys d).toArray 5 fr)).heap[W.heap.size]? = some (.cells (bys d).toArray 5 fr) := (MapKept.heap_alloc W _).1
 refine ⟨W.heap.size, 0, rfl, ?_⟩
 rw [Nat.zero_add, cell_of_row _ _ i _ _ _ hh]
 have := bys_at hi
 simpa using this
def K0 : Ds := Ds.fresh 20
def K1 : Ds := (K0.create [97]).2
def K2 : Ds := (K1.append [97] [120, 121, 122]).2
def K3 : Ds := (K2.sync [97]).2
def K4 : Ds := K3.syncNames.2
def K5 : Ds := (K4.append [97] [49, 50]).2
def K6 : Ds := (K5.rename [97] [98]).2
def K7 : Ds := K6.read [98] 2 2
def K8 : Ds := K7.crash [1, 1]
def K9 : Ds := (K8.remove [97]).2
theorem k1 : (K0.create [97]).1 = 0 := by decide
theorem k2 : (K1.append [97] [120, 121, 122]).1 = 0 := by decide
theorem k3 : (K2.sync [97]).1 = 0 := by decide
theorem k4 : K3.syncNames.1 = 0 := by decide
theorem k5 : (K4.append [97] [49, 50]).1 = 0 := by decide
theorem k6 : (K5.rename [97] [98]).1 = 0 := by decide
theorem k7 : K6.readOk [98] 2 2 = 0 := by decide
theorem k7b : K6.readBytes [98] 2 2 = [122, 49] := by decide
theorem k7s : K7.strokes = 6 := by decide
theorem k7r : K7.reads.length = 1 := by decide
theorem k8 : K8.files = [([98], [120, 121, 122, 49])] := by decide
theorem k9 : (K8.remove [97]).1 = 53 := by decide
theorem k9u : K9.used = 4 := by decide
set_option maxHeartbeats 800000 in
set_option maxRecDepth 100000 in
theorem num_ok (E : Int) (w : World) : Calls Tryz.prog 8 #[.int .i64 E] w fun e w' => e = .returned (.int .i64 E) ∧ w' = w := by
 go_enter Tryz.func8, Tryz.ntmps8
 go_wp2
 go_ret
 exact ⟨rfl, rfl⟩
theorem new_ints (W : World) : Ints (W.alloc (.cells #[.int .i64 1, .int .i64 1] 3)) (some ⟨W.heap.size, 0, none⟩) [1, 1] := by
 intro i hi
 have hh : (W.alloc (.cells #[.int .i64 1, .int .i64 1] 3)).heap[W.heap.size]? = some (.cells #[.int .i64 1, .int .i64 1] 3 (0, 0)) := (MapKept.heap_alloc W _).1
 refine ⟨W.heap.size, 0, rfl, ?_⟩
 rw [Nat.zero_add, cell_of_row _ _ i _ _ _ hh]
 match i, hi with
 | 0, _ => rfl
 | 1, _ => rfl
set_option maxHeartbeats 4000000 in
set_option maxRecDepth 100000 in
theorem known_ok (w : World) : Calls Tryz.prog 10 #[] w fun e w' => e = .returned (.bool true) ∧ Kept [] w w' := by
 have kc := fun (w : World) (C : Array Value) (n c : Nat) => Lib.run_convert_bytes_const (P := Tryz.prog) w 24 5 C n c Tryz.underlying24 Tryz.underlying5
 have A0 := new_at 20 w (by decide)
 have A1 : Hid (∀ v p, At w v p K0 0 → Calls Tryz.prog 24 #[.pointer (some ⟨p, 0, none⟩), .string ⟨#[97]⟩] v fun e w' => e = .returned (.int .i64 0) ∧ At w w' p K1 1) := fun v p h => by have := create_at h (by omega) [97] (by decide); rw [k1] at this; exact this
 have A2 : Hid (∀ v p, At w v p K1 1 → Calls Tryz.prog 25 #[.pointer (some ⟨p, 0, none⟩), .string ⟨#[97]⟩, .slice (some ⟨v.heap.size, 0, none⟩) 3 3] (v.alloc (.cells #[.int .u8 120, .int .u8 121, .int .u8 122] 5 (3, 4))) fun e w' => e = .returned (.int .i64 0) ∧ At w w' p K2 6) := fun v p h => by
  have := append_at h ((Kept.refl [] v).alloc (.cells (bys [120, 121, 122]).toArray 5 (3, 4))) (c := 3) (by omega) [97] (by decide) (n := 3) rfl (new_sl v [120, 121, 122] (3, 4)) (by simp) (fun _ a ha => by injection ha with ha; subst ha; exact .inl (Nat.le_refl _))
  rw [k2] at this
  exact this
 have A3 : Hid (∀ v p, At w v p K2 6 → Calls Tryz.prog 26 #[.pointer (some ⟨p, 0, none⟩), .string ⟨#[97]⟩] v fun e w' => e = .returned (.int .i64 0) ∧ At w w' p K3 7) := fun v p h => by have := sync_at h (by omega) [97] (by decide); rw [k3] at this; exact this
 have A4 : Hid (∀ v p, At w v p K3 7 → Calls Tryz.prog 27 #[.pointer (some ⟨p, 0, none⟩)] v fun e w' => e = .returned (.int .i64 0) ∧ At w w' p K4 8) := fun v p h => by have := syncNames_at h (by omega); rw [k4] at this; exact this
 have A5 : Hid (∀ v p, At w v p K4 8 → Calls Tryz.prog 25 #[.pointer (some ⟨p, 0, none⟩), .string ⟨#[97]⟩, .slice (some ⟨v.heap.size, 0, none⟩) 2 2] (v.alloc (.cells #[.int .u8 49, .int .u8 50] 5 (2, 3))) fun e w' => e = .returned (.int .i64 0) ∧ At w w' p K5 12) := fun v p h => by
  have := append_at h ((Kept.refl [] v).alloc (.cells (bys [49, 50]).toArray 5 (2, 3))) (c := 2) (by omega) [97] (by decide) (n := 2) rfl (new_sl v [49, 50] (2, 3)) (by simp) (fun _ a ha => by injection ha with ha; subst ha; exact .inl (Nat.le_refl _))
  rw [k5] at this
  exact this
 have A6 : Hid (∀ v p, At w v p K5 12 → Calls Tryz.prog 28 #[.pointer (some ⟨p, 0, none⟩), .string ⟨#[97]⟩, .string ⟨#[98]⟩] v fun e w' => e = .returned (.int .i64 0) ∧ At w w' p K6 14) := fun v p h => by have := rename_at h (by omega) [97] [98] (by decide) (by decide); rw [k6] at this; exact this
 have A7 : Hid (∀ v p, At w v p K6 14 → Calls Tryz.prog 29 #[.pointer (some ⟨p, 0, none⟩), .string ⟨#[98]⟩, .int .i64 2, .int .i64 2] v fun e w' => ∃ u, e = .returned (.tuple #[u, .int .i64 0]) ∧ At w w' p K7 15 ∧ OwnB w' u 2 [122, 49]) := fun v p h => by have := read_at h (by omega) [98] (by decide) 2 2; rw [k7, k7b] at this; exact this
 have A7s : Hid (∀ v p, At w v p K7 15 → Calls Tryz.prog 30 #[.pointer (some ⟨p, 0, none⟩)] v fun e w' => e = .returned (.int .i64 6) ∧ w' = v) := fun v p h => by have := strokes_at h; rw [k7s] at this; exact this
 have A7r : Hid (∀ v p, At w v p K7 15 → Calls Tryz.prog 31 #[.pointer (some ⟨p, 0, none⟩)] v fun e w' => ∃ so sc, e = .returned (.slice so 1 sc) ∧ At w w' p K7 15) := fun v p h => by
  have := reads_at h (by omega)
  refine this.mono ?_
  rintro e w' ⟨u, rfl, ho, hk⟩
  obtain ⟨so, sc, rfl, _⟩ := own_shape ho
  rw [k7r]
  exact ⟨so, sc, rfl, h.kept hk⟩
 have A8 : Hid (∀ v p, At w v p K7 15 → Calls Tryz.prog 32 #[.pointer (some ⟨p, 0, none⟩), .slice (some ⟨v.heap.size, 0, none⟩) 2 2] (v.alloc (.cells #[.int .i64 1, .int .i64 1] 3)) fun e w' => e = .returned (.tuple #[]) ∧ At w w' p K8 15) := fun v p h =>
  crash_at h ((Kept.refl [] v).alloc _) (by omega) (ps := [1, 1]) rfl (new_ints v) (fun i => by match i with | 0 => decide | 1 => decide | (n + 2) => show (Lit.int .i64 0).wf = true; decide) (by omega) (fun _ a ha => by injection ha with ha; subst ha; exact .inl (Nat.le_refl _))
 have A8f : Hid (∀ v p, At w v p K8 15 → Calls Tryz.prog 33 #[.pointer (some ⟨p, 0, none⟩)] v fun e w' => ∃ g c u, e = .returned (.slice (some ⟨g, 0, none⟩) 1 c) ∧ At w w' p K8 15 ∧ w'.cell? ⟨g, 0, none⟩ = some (.string ⟨#[98]⟩) ∧ w'.cell? ⟨g, 1, none⟩ = some u ∧ OwnB w' u 4 [120, 121, 122, 49]) := fun v p h => by
  refine (files_at h (by omega)).mono ?_
  rintro e w' ⟨x, vs, rfl, hF, hk⟩
  rw [k8] at hF
  obtain ⟨u, rfl⟩ : ∃ u, vs = [u] := by
   have := hF.len
   match vs, this with
   | [u], _ => exact ⟨u, rfl⟩
  rcases hF.row.2 with ⟨_, e2⟩ | ⟨g, c, cur, rfl, _⟩
  ·simp at e2
  ·have c0 := hF.row.cells (g := g) rfl 0 (encStr [98]) rfl
   have c1 := hF.row.cells (g := g) rfl 1 u rfl
   rw [add0] at c0 c1
   exact ⟨g, c, u, rfl, h.kept hk, c0, c1, hF.own 0 _ u rfl rfl⟩
 have A9 : Hid (∀ v p, At w v p K8 15 → Calls Tryz.prog 34 #[.pointer (some ⟨p, 0, none⟩), .string ⟨#[97]⟩] v fun e w' => e = .returned (.int .i64 53) ∧ At w w' p K9 17) := fun v p h => by have := remove_at h (by omega) [97] (by decide); rw [k9] at this; exact this
 have A9u : Hid (∀ v p, At w v p K9 17 → Calls Tryz.prog 35 #[.pointer (some ⟨p, 0, none⟩)] v fun e w' => e = .returned (.int .i64 4) ∧ At w w' p K9 17) := fun v p h => by
  have := used_at h (by omega)
  rw [k9u] at this
  refine this.mono ?_
  rintro e w' ⟨rfl, hk⟩
  exact ⟨rfl, h.kept hk⟩
 have hr0 : roomE 20 = 0 := by decide
 rw [hr0] at A0
 go_enter Tryz.func10, Tryz.ntmps10
 go_wp2_with (first
  | (go_at_call 23; refine A0.mono ?_; rintro e w1 ⟨v, rfl, hk1, hn1, _⟩; obtain ⟨p, rfl, hat⟩ := hn1 rfl; have H1 := hide hat; clear hat hn1 A0)
  | (go_at_call 8; refine (num_ok _ _).mono ?_; rintro e w' ⟨rfl, rfl⟩)
  | (go_at_call 24; refine (A1.out _ _ H1.out).mono ?_; rintro e w2 ⟨rfl, hat⟩; have H2 := hide hat; clear hat H1)
  | (go_at_call 25; have Ha := H2; refine (A2.out w2 p H2.out).mono ?_; rintro e w3 ⟨rfl, hat⟩; have H3 := hide hat; clear hat H2 Ha)
  | (go_at_call 26; refine (A3.out _ _ H3.out).mono ?_; rintro e w4 ⟨rfl, hat⟩; have H4 := hide hat; clear hat H3)
  | (go_at_call 27; refine (A4.out _ _ H4.out).mono ?_; rintro e w5 ⟨rfl, hat⟩; have H5 := hide hat; clear hat H4)
  | (go_at_call 25; have Ha := H5; refine (A5.out w5 p H5.out).mono ?_; rintro e w6 ⟨rfl, hat⟩; have H6 := hide hat; clear hat H5 Ha)
  | (go_at_call 28; refine (A6.out _ _ H6.out).mono ?_; rintro e w7 ⟨rfl, hat⟩; have H7 := hide hat; clear hat H6)
  | (go_at_call 29; refine (A7.out _ _ H7.out).mono ?_; rintro e w8 ⟨u8, rfl, hat, hu8⟩; have H8 := hide hat; have hcv8 := run_to_str w8 u8 2 [122, 49] hu8; clear hat H7 hu8)
  | (go_at_call 30; refine (A7s.out _ _ H8.out).mono ?_; rintro e w' ⟨rfl, rfl⟩)
  | (go_at_call 31; refine (A7r.out _ _ H8.out).mono ?_; rintro e w9 ⟨so9, sc9, rfl, hat⟩; have H9 := hide hat; clear hat H8)
  | (go_at_call 32; refine (A8.out w9 p H9.out).mono ?_; rintro e w10 ⟨rfl, hat⟩; have H10 := hide hat; clear hat H9)
  | (go_at_call 33; refine (A8f.out _ _ H10.out).mono ?_; rintro e w11 ⟨g11, c11, u11, rfl, hat, d0, d1, hu11⟩; have H11 := hide hat; have hcv11 := run_to_str w11 u11 4 [120, 121, 122, 49] hu11; clear hat H10 hu11)
  | (go_at_call 34; refine (A9.out _ _ H11.out).mono ?_; rintro e w12 ⟨rfl, hat⟩; have H12 := hide hat; clear hat H11)
  | (go_at_call 35; refine (A9u.out _ _ H12.out).mono ?_; rintro e w13 ⟨rfl, hat⟩; have H13 := hide hat; clear hat H12))
 go_ret
 exact ⟨rfl, H13.out.old⟩
end

section
open Go.ChangeShapes Go.WideShapes Go.ChangeAt Go.RowKit Go.Deep Go.Joins
set_option linter.unusedVariables false
set_option linter.unusedSimpArgs false
structure InB (w : World) (ao : Option Addr) (n cap : Nat) (xs : List UInt8) : Prop where
 len : xs.length = n
 le : n ≤ cap
 max : cap ≤ 140737488351232
 sl : Sl w ao xs
 nil : ao = none → xs = [] ∧ cap = 0
 spot : n ≠ 0 → ∀ a, ao = some a → a.spot = none
theorem inb_of_ints {w : World} {a : Addr} {len cap : Nat} {zs : List Int} (hl : len ≤ cap) (hm : cap ≤ 140737488351232) (hz : zs.length = cap) (hcell : ∀ i, i < zs.length → w.cell? (a.add i) = some (.int .u8 (zs.getD i 0))) (hwz : ∀ n ∈ zs, (Lit.int .u8 n).wf = true) :
  ∃ xs, InB w (some a) len cap xs := by
 obtain ⟨b, off, spot⟩ := a
 have hsp : len ≠ 0 → spot = none := fun h => by simpa [Addr.add] using World.cell?_spot (hcell 0 (by omega))
 refine ⟨(zs.take len).map (fun z => UInt8.ofNat z.toNat), by simp; omega, hl, by omega, ?_, by simp, fun h a ha => by cases ha; exact hsp h⟩
 intro i hi
 have hi' : i < len := by simp at hi; omega
 have hc := hcell i (by omega)
 obtain rfl := hsp (by omega)
 refine ⟨b, off, rfl, ?_⟩
 rw [Addr.add_mid] at hc
 rw [hc]
 have hzi : i < zs.length := by omega
 have hb := bounds_u8 (hwz (zs.getD i 0) (by simp [List.getElem?_eq_getElem hzi]))
 have e : ((zs.take len).map (fun z => UInt8.ofNat z.toNat)).getD i 0 = UInt8.ofNat (zs.getD i 0).toNat := by
  simp [List.getElem?_eq_getElem hzi, hi']
 rw [e, UInt8.toNat_ofNat', Nat.mod_eq_of_lt (by omega)]
 congr 2
 omega
section
variable {H : Type} {enc : TypeId × Value → H} {w : World}
theorem open_bytes {fuel : Nat} {v : Value} {x : DataW H × List MemPlace} (h : DataW.trod enc Tryz.prog w 0 (fun _ => true) true fuel 24 [v] = some x) (hw : ∀ n ∈ x.1.weights Tryz.prog 24, n ≤ reachBytes) :
  ∃ ao n cap xs, v = .slice ao n cap ∧ InB w ao n cap xs := by
 rcases open_ints Tryz.underlying24 Tryz.underlying5 (by kernel_rfl) h with ⟨hcs, _⟩ | ⟨a, l, c, zs, hcs, _, hl, hm, hz, hx, hcell, hwz⟩
 ·cases hcs
  exact ⟨none, 0, 0, [], rfl, rfl, Nat.le_refl _, by omega, Sl.nil _ _, fun _ => ⟨rfl, rfl⟩, by simp⟩
 ·cases hcs
  have hb1 : Tryz.prog.bytesOf 5 = 1 := by kernel_rfl
  have hz' : zs.length = c := by simpa using hz
  have hsz : c ≤ 140737488351232 := by
   have := hw ((zs.take l).length + (zs.drop l).length) (by
    rw [hx]
    simp only [DataW.weights, Tryz.underlying24, hb1, Nat.mul_one, lits, List.length_map, List.mem_cons, true_or])
   have hr : reachBytes = 140737488351232 := rfl
   rw [hr] at this
   simp at this
   omega
  obtain ⟨xs, h⟩ := inb_of_ints hl hsz hz' hcell hwz
  exact ⟨some a, l, c, xs, rfl, h⟩
end
end

section
open Go.ChangeShapes Go.WideShapes Go.ChangeAt Go.RowKit Go.Deep Go.Joins Dsk
set_option linter.unusedVariables false
set_option linter.unusedSimpArgs false
structure Stp where
 kind : Int
 name : By
 to : By
 at_ : Int
 n : Int
 da : Option Addr
 dn : Nat
 dc : Nat
 ds : By
 po : Int
 pf : Int
 pt : Int
 pa : Option Addr
 pn : Nat
 pc : Nat
 ps : List Int
def stp0 : Stp := ⟨0, [], [], 0, 0, none, 0, 0, [], 0, 0, 0, none, 0, 0, []⟩
instance : Inhabited Stp := ⟨stp0⟩
def Stp.cells (s : Stp) : List Value := [.int .i64 s.kind, encStr s.name, encStr s.to, .int .i64 s.at_, .int .i64 s.n, .slice s.da s.dn s.dc, .int .i64 s.po, .int .i64 s.pf, .int .i64 s.pt, .slice s.pa s.pn s.pc]
structure StpIn (w : World) (s : Stp) : Prop where
 inb : InB w s.da s.dn s.dc s.ds
 nm : s.name.length ≤ 4611686018427387904
 tm : s.to.length ≤ 4611686018427387904
 wk : (Lit.int .i64 s.kind).wf = true
 wa : (Lit.int .i64 s.at_).wf = true
 wn : (Lit.int .i64 s.n).wf = true
 wo : (Lit.int .i64 s.po).wf = true
 wf : (Lit.int .i64 s.pf).wf = true
 wt : (Lit.int .i64 s.pt).wf = true
 pl : s.ps.length = s.pn
 pc : s.pn ≤ s.pc
 pm : s.pn ≤ 17592186044416
 pr : Ints w s.pa s.ps
 pw : ∀ i, (Lit.int .i64 (s.ps.getD i 0)).wf = true
 pz : s.pa = none → s.pn = 0 ∧ s.pc = 0
def Scr (w : World) (ao : Option Addr) (L : List Stp) : Prop :=
 ∀ i, i < L.length → ∃ b off, ao = some ⟨b, off, none⟩ ∧ (∀ j v, (L.getD i stp0).cells[j]? = some v → w.cell? ⟨b, off + 10 * i + j, none⟩ = some v) ∧ StpIn w (L.getD i stp0)
section
variable {H : Type} {enc : TypeId × Value → H} {w : World}
theorem weights_all {P : Program} {e : TypeId} {l : List (DataW H)} {d : DataW H} (h : d ∈ l) {n : Nat} (hn : n ∈ d.weights P e) : n ∈ DataW.weightsAll P e l := by
 induction l with
 | nil => simp at h
 | cons x l ih =>
  simp only [DataW.weightsAll, List.mem_append]
  simp only [List.mem_cons] at h
  rcases h with rfl | h
  ·exact .inl hn
  ·exact .inr (ih h)
theorem str_small {y : DataW H × List MemPlace} {L : List UInt8} {P : Program} {t : TypeId} {q : List MemPlace} (hy : y = (.lit (.string (ByteArray.mk L.toArray).data.toList), q)) (h : ∀ k ∈ y.1.weights P t, k ≤ reachBytes) : L.length ≤ 4611686018427387904 := by
 subst hy
 have := h _ (by simp only [DataW.weights]; exact List.mem_singleton.2 rfl)
 have hr : reachBytes = 140737488351232 := rfl
 rw [hr] at this
 have h2 : L.length ≤ 140737488351232 := this
 omega
set_option maxRecDepth 100000 in
theorem open_picks {fuel : Nat} {v : Value} {x : DataW H × List MemPlace} (h : DataW.trod enc Tryz.prog w 0 (fun _ => true) true fuel 43 [v] = some x) (hw : ∀ n ∈ x.1.weights Tryz.prog 43, n ≤ reachBytes) :
  ∃ ao n cap ps, v = .slice ao n cap ∧ ps.length = n ∧ n ≤ cap ∧ n ≤ 17592186044416 ∧ Ints w ao ps ∧ (∀ i, (Lit.int .i64 (ps.getD i 0)).wf = true) ∧ (ao = none → n = 0 ∧ cap = 0) := by
 rcases open_ints Tryz.underlying43 Tryz.underlying3 (by kernel_rfl) h with ⟨hcs, _⟩ | ⟨a, l, c, zs, hcs, _, hl, hm, hz, hx, hcell, hwz⟩
 ·cases hcs
  exact ⟨none, 0, 0, [], rfl, rfl, Nat.le_refl _, by omega, fun i hi => by simp at hi, fun i => by simp; decide, fun _ => ⟨rfl, rfl⟩⟩
 ·cases hcs
  have hb1 : Tryz.prog.bytesOf 3 = 8 := by kernel_rfl
  have hz' : zs.length = c := by simpa using hz
  have hsz : c * 8 ≤ 140737488351232 := by
   have := hw (((zs.take l).length + (zs.drop l).length) * 8) (by
    rw [hx]
    simp only [DataW.weights, Tryz.underlying43, hb1, lits, List.length_map, List.mem_cons, true_or])
   have hr : reachBytes = 140737488351232 := rfl
   rw [hr] at this
   simp at this
   omega
  obtain ⟨b, off, spot⟩ := a
  have hlen : (zs.take l).length = l := by simp; omega
  refine ⟨_, l, c, zs.take l, rfl, hlen, hl, by omega, fun i hi => ?_, fun i => ?_, by simp⟩
  ·have hi' : i < l := by omega
   have hsp : spot = none := by simpa [Addr.add] using World.cell?_spot (hcell 0 (by omega))
   subst hsp
   refine ⟨b, off, rfl, ?_⟩
   have hc := hcell i (by omega)
   rw [Addr.add_mid] at hc
   rw [hc]
   simp [List.getElem?_take, hi']
  ·by_cases hi : i < l
   ·have hzi : i < zs.length := by omega
    have e : (zs.take l).getD i 0 = zs[i] := by simp [List.getElem?_take, hi, List.getElem?_eq_getElem hzi]
    rw [e]
    exact hwz _ (List.getElem_mem _)
   ·have e : (zs.take l).getD i 0 = 0 := by simp [List.getElem?_take, hi]
    rw [e]
    decide
set_option maxRecDepth 100000 in
theorem open_step {n : Nat} {cs : List Value} {x : DataW H × List MemPlace} (h : DataW.trod enc Tryz.prog w 0 (fun _ => true) true n 52 cs = some x) (hw : ∀ n ∈ x.1.weights Tryz.prog 52, n ≤ reachBytes) :
  ∃ s : Stp, cs = s.cells ∧ StpIn w s := by
 obtain ⟨xs, m, rfl, hx, hl, hlen, hf⟩ := DataW.trod_struct Tryz.underlying52 h
 have hcl : Tryz.prog.cellsOf 52 = 10 := by kernel_rfl
 have hci : Tryz.prog.cellsOf 3 = 1 := by kernel_rfl
 have hcs : Tryz.prog.cellsOf 9 = 1 := by kernel_rfl
 have hcb : Tryz.prog.cellsOf 24 = 1 := by kernel_rfl
 have hcp : Tryz.prog.cellsOf 50 = 3 := by kernel_rfl
 have hck : Tryz.prog.cellsOf 43 = 1 := by kernel_rfl
 rw [hcl] at hl
 match cs, hl with
 | [a0, a1, a2, a3, a4, a5, a6, a7, a8, a9], _ =>
 match xs, hlen with
 | [y0, y1, y2, y3, y4, y5, y6, y7], _ =>
  have h0 := hf 0 _ rfl
  have h1 := hf 1 _ rfl
  have h2 := hf 2 _ rfl
  have h3 := hf 3 _ rfl
  have h4 := hf 4 _ rfl
  have h5 := hf 5 _ rfl
  have h6 := hf 6 _ rfl
  have h7 := hf 7 _ rfl
  simp only [hci, hcs, hcb, hcp, hck, List.drop_zero, List.drop_succ_cons, List.take_succ_cons, List.take_zero, List.getElem?_cons_zero, List.getElem?_cons_succ] at h0 h1 h2 h3 h4 h5 h6 h7
  have hwy : ∀ (t : TypeId) (y : DataW H × List MemPlace), (∀ k ∈ y.1.weights Tryz.prog t, k ∈ x.1.weights Tryz.prog 52) → ∀ k ∈ y.1.weights Tryz.prog t, k ≤ reachBytes := fun t y hy k hk => hw k (hy k hk)
  obtain ⟨k, e0, _, w0⟩ := DataW.trod_int Tryz.underlying3 h0
  obtain ⟨s1, e1, hy1, _⟩ := DataW.trod_string Tryz.underlying9 h1
  obtain ⟨s2, e2, hy2, _⟩ := DataW.trod_string Tryz.underlying9 h2
  have wt1 := hwy 9 y1 (fun j hj => by
   rw [hx]
   simp only [DataW.weights, Tryz.underlying52, DataW.weightsEach, List.mem_append, List.map_cons, List.map_nil]
   simp [DataW.weightsEach, hj])
  have wt2 := hwy 9 y2 (fun j hj => by
   rw [hx]
   simp only [DataW.weights, Tryz.underlying52, DataW.weightsEach, List.mem_append, List.map_cons, List.map_nil]
   simp [DataW.weightsEach, hj])
  obtain ⟨at_, e3, _, w3⟩ := DataW.trod_int Tryz.underlying3 h3
  obtain ⟨nn, e4, _, w4⟩ := DataW.trod_int Tryz.underlying3 h4
  obtain ⟨ao, mm, cap, xs5, e5, hin⟩ := open_bytes h5 (hwy _ y5 (fun j hj => by
   rw [hx]
   simp only [DataW.weights, Tryz.underlying52, DataW.weightsEach, List.mem_append, List.map_cons, List.map_nil]
   simp [DataW.weightsEach, hj]))
  obtain ⟨pa, pn, pc, ps, e7, q1, q2, q3, q4, q5, q6⟩ := open_picks h7 (hwy _ y7 (fun j hj => by
   rw [hx]
   simp only [DataW.weights, Tryz.underlying52, DataW.weightsEach, List.mem_append, List.map_cons, List.map_nil]
   simp [DataW.weightsEach, hj]))
  obtain ⟨zs, m', rfl, _, _, hlz, hg⟩ := DataW.trod_struct Tryz.underlying50 h6
  match zs, hlz with
  | [z0, z1, z2], _ =>
   have g0 := hg 0 _ rfl
   have g1 := hg 1 _ rfl
   have g2 := hg 2 _ rfl
   simp only [hci, List.drop_zero, List.drop_succ_cons, List.take_succ_cons, List.take_zero, List.getElem?_cons_zero, List.getElem?_cons_succ] at g0 g1 g2
   obtain ⟨p0, f0, _, v0⟩ := DataW.trod_int Tryz.underlying3 g0
   obtain ⟨p1, f1, _, v1⟩ := DataW.trod_int Tryz.underlying3 g1
   obtain ⟨p2, f2, _, v2⟩ := DataW.trod_int Tryz.underlying3 g2
   cases e0; cases e1; cases e2; cases e3; cases e4; cases e5; cases e7; cases f0; cases f1; cases f2
   obtain ⟨⟨L1⟩⟩ := s1
   obtain ⟨⟨L2⟩⟩ := s2
   exact ⟨⟨k, L1, L2, at_, nn, ao, mm, cap, xs5, p0, p1, p2, pa, pn, pc, ps⟩, rfl, ⟨hin, str_small hy1 wt1, str_small hy2 wt2, w0, w3, w4, v0, v1, v2, q1, q2, q3, q4, q5, q6⟩⟩
set_option maxRecDepth 100000 in
theorem open_script {fuel : Nat} {v : Value} {x : DataW H × List MemPlace} (h : DataW.trod enc Tryz.prog w 0 (fun _ => true) true fuel 23 [v] = some x) (hw : ∀ n ∈ x.1.weights Tryz.prog 23, n ≤ reachBytes) :
  ∃ ao n cap L, v = .slice ao n cap ∧ L.length = n ∧ Scr w ao L ∧ n ≤ 9223372036854775807 := by
 rcases open_slice Tryz.underlying23 h with ⟨hcs, _⟩ | ⟨a, len, cap, m, n, D, Pl, hcs, _, hl, hm, hmm, hxx, hx⟩
 ·cases hcs
  exact ⟨none, 0, 0, [], rfl, rfl, fun i hi => by simp at hi, by omega⟩
 ·cases hcs
  have hcl : Tryz.prog.cellsOf 52 = 10 := by kernel_rfl
  simp only [if_true] at hmm
  subst hmm
  rw [hcl] at hx
  unfold maxLen at hm
  obtain ⟨b, off, spot⟩ := a
  have hwD : ∀ i, i < len → ∀ n ∈ (D i).weights Tryz.prog 52, n ≤ reachBytes := by
   intro i hi n hn
   refine hw n ?_
   rw [hxx]
   simp only [DataW.weights, Tryz.underlying23, List.mem_cons, List.mem_append]
   exact .inr (.inl (weights_all (List.mem_map_of_mem (List.mem_range.2 hi)) hn))
  have hel : ∀ i, i < len → ∃ c : Stp, spot = none ∧ (∀ j v, c.cells[j]? = some v → w.cell? ⟨b, off + 10 * i + j, none⟩ = some v) ∧ StpIn w c := by
   intro i hi
   obtain ⟨cs', h1, h2⟩ := hx i (by omega)
   obtain ⟨s, rfl, hin⟩ := open_step h2 (hwD i hi)
   obtain ⟨_, _, h3⟩ := World.cells?_some h1
   have hsp : spot = none := by
    obtain ⟨cs0, g1, g2⟩ := hx 0 (by omega)
    obtain ⟨s0, rfl, _⟩ := open_step g2 (hwD 0 (by omega))
    obtain ⟨_, _, g3⟩ := World.cells?_some g1
    have h5 := g3 0 (by omega)
    rw [show (((⟨b, off, spot⟩ : Addr).add (0 * 10)).add 0) = ⟨b, off, spot⟩ by simp [Addr.add]] at h5
    exact World.cell?_spot (a := ⟨b, off, spot⟩) h5
   subst hsp
   refine ⟨s, rfl, fun j v hv => ?_, hin⟩
   have hj : j < 10 := by have := (List.getElem?_eq_some_iff.1 hv).1; simpa [Stp.cells] using this
   have g := h3 j hj
   rw [Addr.add_mid, Addr.add_mid, Nat.mul_comm i 10] at g
   rw [g]
   exact hv
  obtain ⟨f, hf⟩ := choose_lt (α := Stp) hel
  refine ⟨_, len, _, (List.range len).map f, rfl, by simp, fun i hi => ?_, by omega⟩
  have hi' : i < len := by simpa using hi
  obtain ⟨hsp, hc, hin⟩ := hf i hi'
  subst hsp
  have e : ((List.range len).map f).getD i stp0 = f i := by simp [hi']
  rw [e]
  exact ⟨b, off, rfl, hc, hin⟩
end
end

end Go.Proofs.YteckiednnaianaaGreat
