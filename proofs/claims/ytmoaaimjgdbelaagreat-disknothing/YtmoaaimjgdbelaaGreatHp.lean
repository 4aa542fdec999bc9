/-
  A disk that is new since some world: each call once more, as a state.
-/
import Derived.Test.YtmoaaimjgdbelaaGreatHk
import Derived.Test.YtmoaaimjgdbelaaGreatHn
import Derived.Test.YtmoaaimjgdbelaaGreatHo
namespace Go.Proofs.YtmoaaimjgdbelaaGreat
open Go.RowKit Dsk
set_option linter.unusedVariables false
set_option linter.unusedSimpArgs false

/-- At p lies the disk S, all of it made since w0; of what was there nothing has turned. N: how much there is of it. -/
def At (w0 w : World) (p : Nat) (S : Ds) (N : Nat) : Prop := ∃ A o, PD w p S A o ∧ (∀ b, o b ≠ 0 → w0.heap.size ≤ b) ∧ Kept [] w0 w ∧ S.Bd N

theorem At.wf {w0 w : World} {p : Nat} {S : Ds} {N : Nat} (h : At w0 w p S N) : S.Wf := by
  obtain ⟨A, o, ⟨_, _, _, _, h⟩, _⟩ := h
  exact h.wf

theorem At.bd {w0 w : World} {p : Nat} {S : Ds} {N : Nat} (h : At w0 w p S N) : S.Bd N := h.choose_spec.choose_spec.2.2.2

theorem At.old {w0 w : World} {p : Nat} {S : Ds} {N : Nat} (h : At w0 w p S N) : Kept [] w0 w := h.choose_spec.choose_spec.2.2.1

theorem At.kept {w0 w w' : World} {p : Nat} {S : Ds} {N : Nat} (h : At w0 w p S N) (hk : Kept [] w w') : At w0 w' p S N := by
  obtain ⟨A, o, hP, ho, hw, hb⟩ := h
  exact ⟨A, o, hP.keep (Keep.ofNone (F := fun _ => False) hk) (fun _ _ h => h), ho, hw.trans hk (by simp), hb⟩

theorem At.mono {w0 w : World} {p : Nat} {S : Ds} {N M : Nat} (h : At w0 w p S N) (hm : N ≤ M) : At w0 w p S M := by
  obtain ⟨A, o, hP, ho, hw, hb⟩ := h
  exact ⟨A, o, hP, ho, hw, hb.mono hm⟩

theorem aft_at {w0 w w' : World} {p : Nat} {S S' : Ds} {M : Nat} {o : Lab} (ho : ∀ b, o b ≠ 0 → w0.heap.size ≤ b) (hw : Kept [] w0 w) (ha : Aft w w' p S' o) (hb : S'.Bd M) : At w0 w' p S' M := by
  obtain ⟨A', o', hP, he, hK⟩ := ha
  refine ⟨A', o', hP, fun b hb => ?_, ?_, hb⟩
  · by_cases hlt : b < w.heap.size
    · exact ho b (he b hlt hb)
    · have := hw.size; omega
  · exact ⟨hK.os.trans hw.os, hK.tape.trans hw.tape, hK.output.trans hw.output, Nat.le_trans hw.size hK.size, fun i hi _ => (hK.block i (Nat.lt_of_lt_of_le hi hw.size) (fun hm => by have := ho i hm; omega)).trans (hw.block i hi (by simp))⟩

section

variable {w0 w : World} {p : Nat} {S : Ds} {N : Nat}

theorem create_at (h : At w0 w p S N) (hN : N ≤ 268435456) (n : By) (hn : n.length ≤ 4611686018427387904) : Calls Tryz.prog 17 #[.pointer (some ⟨p, 0, none⟩), encStr n] w fun e w' => e = .returned (.int .i64 (S.create n).1) ∧ At w0 w' p (S.create n).2 (N + 1) := by
  obtain ⟨A, o, hP, ho, hw, hb⟩ := h
  refine (create_ok hP hb hN n hn).mono ?_
  rintro e w' ⟨rfl, ha⟩
  exact ⟨rfl, aft_at (S := S) ho hw ha (hb.create n)⟩

/-- Bytes in a block that came behind the disk, or that was there ahead of it. -/
theorem given_of {A : Nat → Nat} {o : Lab} {w1 : World} (hP : PD w p S A o) (ho : ∀ b, o b ≠ 0 → w0.heap.size ≤ b) (hk : Kept [] w w1) {ao : Option Addr} {n : Nat} {d : By} (hl : d.length = n) (hs : Sl w1 ao d) (h0 : ao = none → n = 0) (hnew : d ≠ [] → ∀ a, ao = some a → w.heap.size ≤ a.block ∨ a.block < w0.heap.size) : Given w1 o ao n d := by
  obtain ⟨_, _, _, _, hx⟩ := hP
  refine ⟨hl, hs, h0, fun hd a ha => ?_⟩
  apply Classical.byContradiction
  intro hne
  rcases hnew hd a ha with h1 | h1
  · have := hx.lim a.block hne; omega
  · have := ho a.block hne; omega

theorem append_at (h : At w0 w p S N) {w1 : World} (hk : Kept [] w w1) {ao : Option Addr} {n c : Nat} {d : By} (hN : N + n ≤ 268435456) (nm : By) (hnl : nm.length ≤ 4611686018427387904) (hl : d.length = n) (hs : Sl w1 ao d) (h0 : ao = none → n = 0) (hnew : d ≠ [] → ∀ a, ao = some a → w.heap.size ≤ a.block ∨ a.block < w0.heap.size) :
    Calls Tryz.prog 19 #[.pointer (some ⟨p, 0, none⟩), encStr nm, .slice ao n c] w1 fun e w' => e = .returned (.int .i64 (S.append nm d).1) ∧ At w0 w' p (S.append nm d).2 (N + n + 2) := by
  obtain ⟨A, o, hP, ho, hw, hb⟩ := h
  have hP1 : PD w1 p S A o := hP.keep (Keep.ofNone (F := fun _ => False) hk) (fun _ _ h => h)
  refine (append_ok hP1 hb hN nm hnl (given_of hP ho hk hl hs h0 hnew)).mono ?_
  rintro e w' ⟨rfl, ha⟩
  exact ⟨rfl, aft_at (S := S) ho (hw.trans hk (by simp)) ha (by have := hb.append nm d; rw [hl] at this; exact this)⟩

theorem writeAt_at (h : At w0 w p S N) {w1 : World} (hk : Kept [] w w1) {ao : Option Addr} {n c : Nat} {d : By} (hN : N + n ≤ 268435456) (nm : By) (hnl : nm.length ≤ 4611686018427387904) (a : Int) (hl : d.length = n) (hs : Sl w1 ao d) (h0 : ao = none → n = 0) (hnew : d ≠ [] → ∀ a, ao = some a → w.heap.size ≤ a.block ∨ a.block < w0.heap.size) :
    Calls Tryz.prog 59 #[.pointer (some ⟨p, 0, none⟩), encStr nm, .int .i64 a, .slice ao n c] w1 fun e w' => e = .returned (.int .i64 (S.writeAt nm a d).1) ∧ At w0 w' p (S.writeAt nm a d).2 (N + n + 2) := by
  obtain ⟨A, o, hP, ho, hw, hb⟩ := h
  have hP1 : PD w1 p S A o := hP.keep (Keep.ofNone (F := fun _ => False) hk) (fun _ _ h => h)
  refine (writeAt_ok hP1 hb hN nm hnl a (given_of hP ho hk hl hs h0 hnew)).mono ?_
  rintro e w' ⟨rfl, ha⟩
  exact ⟨rfl, aft_at (S := S) ho (hw.trans hk (by simp)) ha (by have := hb.writeAt nm a d; rw [hl] at this; exact this)⟩

theorem truncate_at (h : At w0 w p S N) (hN : N ≤ 268435456) (nm : By) (hnl : nm.length ≤ 4611686018427387904) (a : Int) : Calls Tryz.prog 64 #[.pointer (some ⟨p, 0, none⟩), encStr nm, .int .i64 a] w fun e w' => e = .returned (.int .i64 (S.truncate nm a).1) ∧ At w0 w' p (S.truncate nm a).2 (N + 3) := by
  obtain ⟨A, o, hP, ho, hw, hb⟩ := h
  refine (truncate_ok hP hb hN nm hnl a).mono ?_
  rintro e w' ⟨rfl, ha⟩
  exact ⟨rfl, aft_at (S := S) ho hw ha (hb.truncate nm a)⟩

theorem rename_at (h : At w0 w p S N) (hN : N ≤ 268435456) (f t : By) (hfl : f.length ≤ 4611686018427387904) (htl : t.length ≤ 4611686018427387904) : Calls Tryz.prog 37 #[.pointer (some ⟨p, 0, none⟩), encStr f, encStr t] w fun e w' => e = .returned (.int .i64 (S.rename f t).1) ∧ At w0 w' p (S.rename f t).2 (N + 2) := by
  obtain ⟨A, o, hP, ho, hw, hb⟩ := h
  refine (rename_ok hP hb hN f t hfl htl).mono ?_
  rintro e w' ⟨rfl, ha⟩
  exact ⟨rfl, aft_at (S := S) ho hw ha (hb.rename f t)⟩

theorem remove_at (h : At w0 w p S N) (hN : N ≤ 268435456) (nm : By) (hnl : nm.length ≤ 4611686018427387904) : Calls Tryz.prog 43 #[.pointer (some ⟨p, 0, none⟩), encStr nm] w fun e w' => e = .returned (.int .i64 (S.remove nm).1) ∧ At w0 w' p (S.remove nm).2 (N + 2) := by
  obtain ⟨A, o, hP, ho, hw, hb⟩ := h
  refine (remove_ok hP hb hN nm hnl).mono ?_
  rintro e w' ⟨rfl, ha⟩
  exact ⟨rfl, aft_at (S := S) ho hw ha (hb.remove nm)⟩

theorem sync_at (h : At w0 w p S N) (hN : N ≤ 268435456) (nm : By) (hnl : nm.length ≤ 4611686018427387904) : Calls Tryz.prog 35 #[.pointer (some ⟨p, 0, none⟩), encStr nm] w fun e w' => e = .returned (.int .i64 (S.sync nm).1) ∧ At w0 w' p (S.sync nm).2 (N + 1) := by
  have hwf := h.wf
  obtain ⟨A, o, hP, ho, hw, hb⟩ := h
  refine (sync_ok hP hb hN nm hnl).mono ?_
  rintro e w' ⟨rfl, ha⟩
  exact ⟨rfl, aft_at (S := S) ho hw ha (hb.sync hwf nm)⟩

theorem syncNames_at (h : At w0 w p S N) (hN : N ≤ 268435456) : Calls Tryz.prog 36 #[.pointer (some ⟨p, 0, none⟩)] w fun e w' => e = .returned (.int .i64 (S.syncNames).1) ∧ At w0 w' p (S.syncNames).2 (N + 1) := by
  have hwf := h.wf
  obtain ⟨A, o, hP, ho, hw, hb⟩ := h
  refine (syncNames_ok hP hb hN).mono ?_
  rintro e w' ⟨rfl, ha⟩
  exact ⟨rfl, aft_at (S := S) ho hw ha (hb.syncNames hwf)⟩

theorem read_at (h : At w0 w p S N) (hN : N ≤ 268435456) (nm : By) (hnl : nm.length ≤ 4611686018427387904) (a m : Int) : Calls Tryz.prog 38 #[.pointer (some ⟨p, 0, none⟩), encStr nm, .int .i64 a, .int .i64 m] w fun e w' => ∃ v, e = .returned (.tuple #[v, .int .i64 (S.readOk nm a m)]) ∧ At w0 w' p (S.read nm a m) (N + 1) ∧ OwnB w' v (S.readBytes nm a m).length (S.readBytes nm a m) := by
  obtain ⟨A, o, hP, ho, hw, hb⟩ := h
  refine (read_ok hP hb hN nm hnl a m).mono ?_
  rintro e w' ⟨v, rfl, A', o', h1, h2, h3, h4, h5⟩
  exact ⟨v, rfl, aft_at (S := S) ho hw ⟨A', o', h1, h2, h3⟩ (hb.read nm a m), h4⟩

theorem size_at (h : At w0 w p S N) (nm : By) (hnl : nm.length ≤ 4611686018427387904) : Calls Tryz.prog 97 #[.pointer (some ⟨p, 0, none⟩), encStr nm] w fun e w' => e = .returned (.tuple #[.int .i64 (S.size nm), .int .i64 (S.find nm).1]) ∧ w' = w := by
  obtain ⟨A, o, hP, _⟩ := h
  exact size_ok hP nm hnl

theorem plan_at (h : At w0 w p S N) (a b c : Int) (hp : (Lit.int .i64 a).wf = true ∧ (Lit.int .i64 b).wf = true ∧ (Lit.int .i64 c).wf = true) : Calls Tryz.prog 18 #[.pointer (some ⟨p, 0, none⟩), .agg #[.int .i64 a, .int .i64 b, .int .i64 c]] w fun e w' => e = .returned (.tuple #[]) ∧ At w0 w' p (S.setPlan a b c) N := by
  obtain ⟨A, o, hP, ho, hw, hb⟩ := h
  refine (plan_ok hP a b c hp).mono ?_
  rintro e w' ⟨rfl, ha⟩
  exact ⟨rfl, aft_at (S := S) ho hw ha (hb.setPlan a b c)⟩

theorem look_at (h : At w0 w p S N) : Calls Tryz.prog 103 #[.pointer (some ⟨p, 0, none⟩)] w fun e w' => e = .returned (.tuple #[]) ∧ At w0 w' p S.look N := by
  obtain ⟨A, o, hP, ho, hw, hb⟩ := h
  refine (look_ok hP).mono ?_
  rintro e w' ⟨rfl, ha⟩
  exact ⟨rfl, aft_at (S := S) ho hw ha hb.look⟩

theorem crash_at (h : At w0 w p S N) {w1 : World} (hk : Kept [] w w1) (hN : N ≤ 268435456) {ao : Option Addr} {n c : Nat} {ps : List Int} (hl : ps.length = n) (hr : Ints w1 ao ps) (hwf : ∀ i, (Lit.int .i64 (ps.getD i 0)).wf = true) (hn : n ≤ 17592186044416) (hnew : ps ≠ [] → ∀ a, ao = some a → w.heap.size ≤ a.block ∨ a.block < w0.heap.size) :
    Calls Tryz.prog 41 #[.pointer (some ⟨p, 0, none⟩), .slice ao n c] w1 fun e w' => e = .returned (.tuple #[]) ∧ At w0 w' p (S.crash ps) N := by
  have hwfS := h.wf
  obtain ⟨A, o, hP, ho, hw, hb⟩ := h
  have hP1 : PD w1 p S A o := hP.keep (Keep.ofNone (F := fun _ => False) hk) (fun _ _ h => h)
  refine (crash_ok hP1 hb hN (ps := ps) ⟨hl, hr, hwf, fun hd a ha => ?_⟩ hn).mono ?_
  · obtain ⟨_, _, _, _, hx⟩ := hP
    apply Classical.byContradiction
    intro hne
    rcases hnew hd a ha with h1 | h1
    · have := hx.lim a.block hne; omega
    · have := ho a.block hne; omega
  rintro e w' ⟨rfl, ha⟩
  exact ⟨rfl, aft_at (S := S) ho (hw.trans hk (by simp)) ha (hb.crash hwfS ps)⟩

theorem strokes_at (h : At w0 w p S N) : Calls Tryz.prog 39 #[.pointer (some ⟨p, 0, none⟩)] w fun e w' => e = .returned (.int .i64 S.strokes) ∧ w' = w := by
  obtain ⟨A, o, hP, _⟩ := h
  exact strokes_ok hP

theorem off_at (h : At w0 w p S N) : Calls Tryz.prog 22 #[.pointer (some ⟨p, 0, none⟩)] w fun e w' => e = .returned (.bool (!S.on)) ∧ w' = w := by
  obtain ⟨A, o, hP, _⟩ := h
  exact offD_ok hP

theorem used_at (h : At w0 w p S N) (hN : N ≤ 268435456) : Calls Tryz.prog 44 #[.pointer (some ⟨p, 0, none⟩)] w fun e w' => e = .returned (.int .i64 S.used) ∧ Kept [] w w' := by
  obtain ⟨A, o, hP, ho, hw, hb⟩ := h
  exact usedD_ok hP hb (by omega)

theorem files_at (h : At w0 w p S N) (hN : N ≤ 268435456) : Calls Tryz.prog 42 #[.pointer (some ⟨p, 0, none⟩)] w fun e w' => ∃ v vs, e = .returned v ∧ Fls w' w.heap.size v S.files vs ∧ Kept [] w w' := by
  obtain ⟨A, o, hP, ho, hw, hb⟩ := h
  exact files_ok hP hb hN

theorem reads_at (h : At w0 w p S N) (hN : N ≤ 268435456) : Calls Tryz.prog 40 #[.pointer (some ⟨p, 0, none⟩)] w fun e w' => ∃ v, e = .returned v ∧ w'.ownsRow w.heap.size 127 3 v S.reads.length (S.reads.flatMap encSp) ∧ Kept [] w w' := by
  obtain ⟨A, o, hP, ho, hw, hb⟩ := h
  exact reads_ok hP hb hN

end

theorem new_at (r : Int) (w : World) (hr : (Lit.int .i64 r).wf = true) : Calls Tryz.prog 34 #[.int .i64 r] w fun e w' => ∃ v, e = .returned (.tuple #[v, .int .i64 (roomE r)]) ∧ Kept [] w w' ∧ (roomE r = 0 → ∃ p, v = .pointer (some ⟨p, 0, none⟩) ∧ At w w' p (Ds.fresh r.toNat) 0) ∧ (roomE r ≠ 0 → v = .pointer none) := by
  refine (new_ok r w hr).mono ?_
  rintro e w' ⟨v, rfl, h1, h2, h3⟩
  refine ⟨v, rfl, h3, fun h => ?_, h2⟩
  obtain ⟨p, A, o, e, hP, ho⟩ := h1 h
  exact ⟨p, e, A, o, hP, ho, h3, Ds.Bd.fresh _⟩

end Go.Proofs.YtmoaaimjgdbelaaGreat
