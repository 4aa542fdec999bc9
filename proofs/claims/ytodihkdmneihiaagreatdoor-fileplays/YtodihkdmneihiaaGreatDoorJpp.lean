import Derived.Test.YtodihkdmneihiaaGreatDoorHop
import Derived.Test.YtodihkdmneihiaaGreatDoorRepp
namespace Go.Proofs.YtodihkdmneihiaaGreatDoor
open Go.RowKit Dsk
set_option linter.unusedVariables false
set_option linter.unusedSimpArgs false
def Ax (X : Nat → Prop) (wa w : World) (p : Nat) (S : Ds) (N : Nat) : Prop := ∃ A o, PD w p S A o ∧ (∀ b, X b → o b = 0 ∧ b < wa.heap.size) ∧ Keep (fun b => ¬ X b) wa w ∧ S.Bd N
section
variable {X : Nat → Prop} {wa w w' : World} {p : Nat} {S : Ds} {N : Nat}
theorem Ax.wf (h : Ax X wa w p S N) : S.Wf := by
 obtain ⟨A, o, ⟨_, _, _, _, h⟩, _⟩ := h
 exact h.wf
theorem Ax.bd (h : Ax X wa w p S N) : S.Bd N := h.choose_spec.choose_spec.2.2.2
theorem Ax.old (h : Ax X wa w p S N) : Keep (fun b => ¬ X b) wa w := h.choose_spec.choose_spec.2.2.1
theorem Ax.kept (h : Ax X wa w p S N) (hk : Kept [] w w') : Ax X wa w' p S N := by
 obtain ⟨A, o, hP, ho, hw, hb⟩ := h
 exact ⟨A, o, hP.keep (Keep.ofNone (F := fun _ => False) hk) (fun _ _ h => h), ho, hw.kept hk, hb⟩
theorem Ax.mono {M : Nat} (h : Ax X wa w p S N) (hm : N ≤ M) : Ax X wa w p S M := by
 obtain ⟨A, o, hP, ho, hw, hb⟩ := h
 exact ⟨A, o, hP, ho, hw, hb.mono hm⟩
theorem Ax.here (h : Ax X wa w p S N) : Ax X w w p S N := by
 obtain ⟨A, o, hP, ho, hw, hb⟩ := h
 exact ⟨A, o, hP, fun b hx => ⟨(ho b hx).1, Nat.lt_of_lt_of_le (ho b hx).2 hw.size⟩, Keep.refl _ _, hb⟩
def More (X : Nat → Prop) (w w' : World) : Nat → Prop := fun b => X b ∨ (w.heap.size ≤ b ∧ b < w'.heap.size)
theorem Ax.more (h : Ax X wa w p S N) (hk : Kept [] w w') : Ax (More X w w') w' w' p S N := by
 obtain ⟨A, o, hP, ho, hw, hb⟩ := h
 refine ⟨A, o, hP.keep (Keep.ofNone (F := fun _ => False) hk) (fun _ _ h => h), fun b hx => ?_, Keep.refl _ _, hb⟩
 have hs := hk.size
 have hs2 := hw.size
 rcases hx with hx | hx
 ·exact ⟨(ho b hx).1, by have := (ho b hx).2; omega⟩
 ·refine ⟨Classical.byContradiction fun hn => ?_, hx.2⟩
  obtain ⟨_, _, _, _, hz⟩ := hP
  have := hz.lim b hn
  omega
theorem At.ax {w0 : World} (h : At w0 w p S N) : Ax (fun b => b < w0.heap.size) w0 w p S N := by
 obtain ⟨A, o, hP, ho, hw, hb⟩ := h
 refine ⟨A, o, hP, fun b hx => ⟨Classical.byContradiction fun hn => ?_, hx⟩, Keep.ofNone hw, hb⟩
 have := ho b hn
 omega
theorem aft_ax {S' : Ds} {M : Nat} {o : Lab} (ho : ∀ b, X b → o b = 0 ∧ b < wa.heap.size) (hw : Keep (fun b => ¬ X b) wa w) (ha : Aft w w' p S' o) (hb : S'.Bd M) : Ax X wa w' p S' M := by
 obtain ⟨A', o', hP, he, hK⟩ := ha
 refine ⟨A', o', hP, fun b hx => ⟨Classical.byContradiction fun hn => ?_, (ho b hx).2⟩, hw.trans hK ?_, hb⟩
 ·exact he b (Nat.lt_of_lt_of_le (ho b hx).2 hw.size) hn (ho b hx).1
 ·intro b hm _ hx
  exact hm (ho b hx).1
end
section
variable {X : Nat → Prop} {wa w : World} {p : Nat} {S : Ds} {N : Nat}
theorem create_ax (h : Ax X wa w p S N) (hN : N ≤ 268435456) (n : By) (hn : n.length ≤ 4611686018427387904) : Calls Tryz.prog 23 #[.pointer (some ⟨p, 0, none⟩), encStr n] w fun e w' => e = .returned (.int .i64 (S.create n).1) ∧ Ax X wa w' p (S.create n).2 (N + 1) := by
 obtain ⟨A, o, hP, ho, hw, hb⟩ := h
 refine (create_ok hP hb hN n hn).mono ?_
 rintro e w' ⟨rfl, ha⟩
 exact ⟨rfl, aft_ax ho hw ha (hb.create n)⟩
theorem given_ax {A : Nat → Nat} {o : Lab} {w1 : World} (hP : PD w p S A o) (ho : ∀ b, X b → o b = 0 ∧ b < wa.heap.size) (hk : Kept [] w w1) {ao : Option Addr} {n : Nat} {d : By} (hl : d.length = n) (hs : Sl w1 ao d) (h0 : ao = none → n = 0) (hnew : d ≠ [] → ∀ a, ao = some a → w.heap.size ≤ a.block ∨ X a.block) : Given w1 o ao n d := by
 obtain ⟨_, _, _, _, hx⟩ := hP
 refine ⟨hl, hs, h0, fun hd a ha => ?_⟩
 apply Classical.byContradiction
 intro hne
 rcases hnew hd a ha with h1 | h1
 ·have := hx.lim a.block hne; omega
 ·exact hne (ho a.block h1).1
theorem append_ax (h : Ax X wa w p S N) {w1 : World} (hk : Kept [] w w1) {ao : Option Addr} {n c : Nat} {d : By} (hN : N + n ≤ 268435456) (nm : By) (hnl : nm.length ≤ 4611686018427387904) (hl : d.length = n) (hs : Sl w1 ao d) (h0 : ao = none → n = 0) (hnew : d ≠ [] → ∀ a, ao = some a → w.heap.size ≤ a.block ∨ X a.block) :
  Calls Tryz.prog 25 #[.pointer (some ⟨p, 0, none⟩), encStr nm, .slice ao n c] w1 fun e w' => e = .returned (.int .i64 (S.append nm d).1) ∧ Ax X wa w' p (S.append nm d).2 (N + n + 2) := by
 obtain ⟨A, o, hP, ho, hw, hb⟩ := h
 have hP1 : PD w1 p S A o := hP.keep (Keep.ofNone (F := fun _ => False) hk) (fun _ _ h => h)
 refine (append_ok hP1 hb hN nm hnl (given_ax hP ho hk hl hs h0 hnew)).mono ?_
 rintro e w' ⟨rfl, ha⟩
 exact ⟨rfl, aft_ax ho (hw.kept hk) ha (by have := hb.append nm d; rw [hl] at this; exact this)⟩
theorem truncate_ax (h : Ax X wa w p S N) (hN : N ≤ 268435456) (nm : By) (hnl : nm.length ≤ 4611686018427387904) (a : Int) : Calls Tryz.prog 27 #[.pointer (some ⟨p, 0, none⟩), encStr nm, .int .i64 a] w fun e w' => e = .returned (.int .i64 (S.truncate nm a).1) ∧ Ax X wa w' p (S.truncate nm a).2 (N + 3) := by
 obtain ⟨A, o, hP, ho, hw, hb⟩ := h
 refine (truncate_ok hP hb hN nm hnl a).mono ?_
 rintro e w' ⟨rfl, ha⟩
 exact ⟨rfl, aft_ax ho hw ha (hb.truncate nm a)⟩
theorem rename_ax (h : Ax X wa w p S N) (hN : N ≤ 268435456) (f t : By) (hfl : f.length ≤ 4611686018427387904) (htl : t.length ≤ 4611686018427387904) : Calls Tryz.prog 29 #[.pointer (some ⟨p, 0, none⟩), encStr f, encStr t] w fun e w' => e = .returned (.int .i64 (S.rename f t).1) ∧ Ax X wa w' p (S.rename f t).2 (N + 2) := by
 obtain ⟨A, o, hP, ho, hw, hb⟩ := h
 refine (rename_ok hP hb hN f t hfl htl).mono ?_
 rintro e w' ⟨rfl, ha⟩
 exact ⟨rfl, aft_ax ho hw ha (hb.rename f t)⟩
theorem remove_ax (h : Ax X wa w p S N) (hN : N ≤ 268435456) (nm : By) (hnl : nm.length ≤ 4611686018427387904) : Calls Tryz.prog 31 #[.pointer (some ⟨p, 0, none⟩), encStr nm] w fun e w' => e = .returned (.int .i64 (S.remove nm).1) ∧ Ax X wa w' p (S.remove nm).2 (N + 2) := by
 obtain ⟨A, o, hP, ho, hw, hb⟩ := h
 refine (remove_ok hP hb hN nm hnl).mono ?_
 rintro e w' ⟨rfl, ha⟩
 exact ⟨rfl, aft_ax ho hw ha (hb.remove nm)⟩
theorem sync_ax (h : Ax X wa w p S N) (hN : N ≤ 268435456) (nm : By) (hnl : nm.length ≤ 4611686018427387904) : Calls Tryz.prog 33 #[.pointer (some ⟨p, 0, none⟩), encStr nm] w fun e w' => e = .returned (.int .i64 (S.sync nm).1) ∧ Ax X wa w' p (S.sync nm).2 (N + 1) := by
 have hwf := h.wf
 obtain ⟨A, o, hP, ho, hw, hb⟩ := h
 refine (sync_ok hP hb hN nm hnl).mono ?_
 rintro e w' ⟨rfl, ha⟩
 exact ⟨rfl, aft_ax ho hw ha (hb.sync hwf nm)⟩
theorem syncNames_ax (h : Ax X wa w p S N) (hN : N ≤ 268435456) : Calls Tryz.prog 35 #[.pointer (some ⟨p, 0, none⟩)] w fun e w' => e = .returned (.int .i64 (S.syncNames).1) ∧ Ax X wa w' p (S.syncNames).2 (N + 1) := by
 have hwf := h.wf
 obtain ⟨A, o, hP, ho, hw, hb⟩ := h
 refine (syncNames_ok hP hb hN).mono ?_
 rintro e w' ⟨rfl, ha⟩
 exact ⟨rfl, aft_ax ho hw ha (hb.syncNames hwf)⟩
theorem read_ax (h : Ax X wa w p S N) (hN : N ≤ 268435456) (nm : By) (hnl : nm.length ≤ 4611686018427387904) (a m : Int) : Calls Tryz.prog 55 #[.pointer (some ⟨p, 0, none⟩), encStr nm, .int .i64 a, .int .i64 m] w fun e w' => ∃ v, e = .returned (.tuple #[v, .int .i64 (S.readOk nm a m)]) ∧ Ax X wa w' p (S.read nm a m) (N + 1) ∧ OwnB w' v (S.readBytes nm a m).length (S.readBytes nm a m) := by
 obtain ⟨A, o, hP, ho, hw, hb⟩ := h
 refine (read_ok hP hb hN nm hnl a m).mono ?_
 rintro e w' ⟨v, rfl, A', o', h1, h2, h3, h4, h5⟩
 exact ⟨v, rfl, aft_ax ho hw ⟨A', o', h1, h2, h3⟩ (hb.read nm a m), h4⟩
theorem size_ax (h : Ax X wa w p S N) (nm : By) (hnl : nm.length ≤ 4611686018427387904) : Calls Tryz.prog 54 #[.pointer (some ⟨p, 0, none⟩), encStr nm] w fun e w' => e = .returned (.tuple #[.int .i64 (S.size nm), .int .i64 (S.find nm).1]) ∧ w' = w := by
 obtain ⟨A, o, hP, _⟩ := h
 exact size_ok hP nm hnl
theorem plan_ax (h : Ax X wa w p S N) (a b c : Int) (hp : (Lit.int .i64 a).wf = true ∧ (Lit.int .i64 b).wf = true ∧ (Lit.int .i64 c).wf = true) : Calls Tryz.prog 37 #[.pointer (some ⟨p, 0, none⟩), .agg #[.int .i64 a, .int .i64 b, .int .i64 c]] w fun e w' => e = .returned (.tuple #[]) ∧ Ax X wa w' p (S.setPlan a b c) N := by
 obtain ⟨A, o, hP, ho, hw, hb⟩ := h
 refine (plan_ok hP a b c hp).mono ?_
 rintro e w' ⟨rfl, ha⟩
 exact ⟨rfl, aft_ax ho hw ha (hb.setPlan a b c)⟩
theorem crash_ax (h : Ax X wa w p S N) {w1 : World} (hk : Kept [] w w1) (hN : N ≤ 268435456) {ao : Option Addr} {n c : Nat} {ps : List Int} (hl : ps.length = n) (hr : Ints w1 ao ps) (hwf : ∀ i, (Lit.int .i64 (ps.getD i 0)).wf = true) (hn : n ≤ 17592186044416) (hnew : ps ≠ [] → ∀ a, ao = some a → w.heap.size ≤ a.block ∨ X a.block) :
  Calls Tryz.prog 39 #[.pointer (some ⟨p, 0, none⟩), .slice ao n c] w1 fun e w' => e = .returned (.tuple #[]) ∧ Ax X wa w' p (S.crash ps) N := by
 have hwfS := h.wf
 obtain ⟨A, o, hP, ho, hw, hb⟩ := h
 have hP1 : PD w1 p S A o := hP.keep (Keep.ofNone (F := fun _ => False) hk) (fun _ _ h => h)
 refine (crash_ok hP1 hb hN (ps := ps) ⟨hl, hr, hwf, fun hd a ha => ?_⟩ hn).mono ?_
 ·obtain ⟨_, _, _, _, hx⟩ := hP
  apply Classical.byContradiction
  intro hne
  rcases hnew hd a ha with h1 | h1
  ·have := hx.lim a.block hne; omega
  ·exact hne (ho a.block h1).1
 rintro e w' ⟨rfl, ha⟩
 exact ⟨rfl, aft_ax ho (hw.kept hk) ha (hb.crash hwfS ps)⟩
theorem strokes_ax (h : Ax X wa w p S N) : Calls Tryz.prog 14 #[.pointer (some ⟨p, 0, none⟩)] w fun e w' => e = .returned (.int .i64 S.strokes) ∧ w' = w := by
 obtain ⟨A, o, hP, _⟩ := h
 exact strokes_ok hP
theorem off_ax (h : Ax X wa w p S N) : Calls Tryz.prog 41 #[.pointer (some ⟨p, 0, none⟩)] w fun e w' => e = .returned (.bool (!S.on)) ∧ w' = w := by
 obtain ⟨A, o, hP, _⟩ := h
 exact offD_ok hP
theorem files_ax (h : Ax X wa w p S N) (hN : N ≤ 268435456) : Calls Tryz.prog 45 #[.pointer (some ⟨p, 0, none⟩)] w fun e w' => ∃ v vs, e = .returned v ∧ Fls w' w.heap.size v S.files vs ∧ Kept [] w w' := by
 obtain ⟨A, o, hP, ho, hw, hb⟩ := h
 exact files_ok hP hb hN
theorem safe_ax (h : Ax X wa w p S N) (hN : N ≤ 268435456) : Calls Tryz.prog 47 #[.pointer (some ⟨p, 0, none⟩)] w fun e w' => ∃ v vs, e = .returned v ∧ Fls w' w.heap.size v S.safeFiles vs ∧ Kept [] w w' := by
 obtain ⟨A, o, hP, ho, hw, hb⟩ := h
 exact safe_ok hP hb hN
end
end Go.Proofs.YtodihkdmneihiaaGreatDoor
