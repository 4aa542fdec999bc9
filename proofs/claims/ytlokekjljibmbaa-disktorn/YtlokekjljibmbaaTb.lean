/-
  DiskTorn: rows of Writes opened; away.
-/
import Derived.Test.YtlokekjljibmbaaIa
import Derived.Test.YtlokekjljibmbaaTa
import Derived.Test.YtlokekjljibmbaaJp
import Derived.Test.YtlokekjljibmbaaIb
import Derived.Test.YtlokekjljibmbaaHq
import Derived.Lib.SlBytesConst
import Derived.ProofKit
import Derived.OpenShut
import Derived.Deep.Slices
import Derived.Lib.SmallJoins
import Derived.Deep.MidRow
namespace Go.Proofs.Ytlokekjljibmbaa
open Go.ChangeShapes Go.WideShapes Go.ChangeAt Go.RowKit Go.Deep Go.Joins Dsk
set_option linter.unusedVariables false
set_option linter.unusedSimpArgs false
/-- A Write as it lies in memory. -/
structure Wm where
  x : Wt
  da : Option Addr
  dn : Nat
  dc : Nat
def wm0 : Wm := ⟨⟨false, 0, []⟩, none, 0, 0⟩
instance : Inhabited Wm := ⟨wm0⟩
def Wm.cells (s : Wm) : List Value := [.bool s.x.cut, .int .i64 s.x.at_, .slice s.da s.dn s.dc]
structure WmIn (w : World) (s : Wm) : Prop where
  inb : InB w s.da s.dn s.dc s.x.data
  wa : (Lit.int .i64 s.x.at_).wf = true
def Wrs (w : World) (ao : Option Addr) (L : List Wm) : Prop :=
  ∀ i, i < L.length → ∃ b off, ao = some ⟨b, off, none⟩ ∧ (∀ j v, (L.getD i wm0).cells[j]? = some v → w.cell? ⟨b, off + i * 3 + j, none⟩ = some v) ∧ WmIn w (L.getD i wm0)
section
variable {H : Type} {enc : TypeId × Value → H} {w : World}
set_option maxRecDepth 100000 in
theorem open_write {n : Nat} {cs : List Value} {x : DataW H × List MemPlace} (h : DataW.trod enc Try.prog w 0 (fun _ => true) true n 25 cs = some x) (hw : ∀ n ∈ x.1.weights Try.prog 25, n ≤ reachBytes) :
    ∃ s : Wm, cs = s.cells ∧ WmIn w s := by
  obtain ⟨xs, m, rfl, hx, hl, hlen, hf⟩ := DataW.trod_struct Try.underlying25 h
  have hcl : Try.prog.cellsOf 25 = 3 := by kernel_rfl
  have hcb : Try.prog.cellsOf 4 = 1 := by kernel_rfl
  have hci : Try.prog.cellsOf 3 = 1 := by kernel_rfl
  have hcd : Try.prog.cellsOf 22 = 1 := by kernel_rfl
  rw [hcl] at hl
  match cs, hl with
  | [a0, a1, a2], _ =>
  match xs, hlen with
  | [y0, y1, y2], _ =>
    have h0 := hf 0 _ rfl
    have h1 := hf 1 _ rfl
    have h2 := hf 2 _ rfl
    simp only [hcb, hci, hcd, List.drop_zero, List.drop_succ_cons, List.take_succ_cons, List.take_zero, List.getElem?_cons_zero, List.getElem?_cons_succ] at h0 h1 h2
    obtain ⟨bb, e0, _⟩ := DataW.trod_bool Try.underlying4 h0
    obtain ⟨at_, e1, _, w1⟩ := DataW.trod_int Try.underlying3 h1
    obtain ⟨ao, mm, cap, xs5, e2, hin⟩ := open_bytes h2 (fun j hj => hw j (by
      rw [hx]
      simp only [DataW.weights, Try.underlying25, DataW.weightsEach, List.mem_append, List.map_cons, List.map_nil]
      simp [DataW.weightsEach, hj]))
    cases e0; cases e1; cases e2
    exact ⟨⟨⟨bb, at_, xs5⟩, ao, mm, cap⟩, rfl, ⟨hin, w1⟩⟩
set_option maxRecDepth 100000 in
theorem open_writes {fuel : Nat} {v : Value} {x : DataW H × List MemPlace} (h : DataW.trod enc Try.prog w 0 (fun _ => true) true fuel 23 [v] = some x) (hw : ∀ n ∈ x.1.weights Try.prog 23, n ≤ reachBytes) :
    ∃ ao n cap L, v = .slice ao n cap ∧ L.length = n ∧ Wrs w ao L ∧ n ≤ 9223372036854775807 := by
  rcases open_slice Try.underlying23 h with ⟨hcs, _⟩ | ⟨a, len, cap, m, n, D, Pl, hcs, _, hl, hm, hmm, hxx, hx⟩
  · cases hcs
    exact ⟨none, 0, 0, [], rfl, rfl, fun i hi => by simp at hi, by omega⟩
  · cases hcs
    have hcl : Try.prog.cellsOf 25 = 3 := by kernel_rfl
    simp only [if_true] at hmm
    subst hmm
    rw [hcl] at hx
    unfold maxLen at hm
    obtain ⟨b, off, spot⟩ := a
    have hwD : ∀ i, i < len → ∀ n ∈ (D i).weights Try.prog 25, n ≤ reachBytes := by
      intro i hi n hn
      refine hw n ?_
      rw [hxx]
      simp only [DataW.weights, Try.underlying23, List.mem_cons, List.mem_append]
      exact .inr (.inl (weights_all (List.mem_map_of_mem (List.mem_range.2 hi)) hn))
    have hel : ∀ i, i < len → ∃ c : Wm, spot = none ∧ (∀ j v, c.cells[j]? = some v → w.cell? ⟨b, off + i * 3 + j, none⟩ = some v) ∧ WmIn w c := by
      intro i hi
      obtain ⟨cs', h1, h2⟩ := hx i (by omega)
      obtain ⟨s, rfl, hin⟩ := open_write h2 (hwD i hi)
      obtain ⟨_, _, h3⟩ := World.cells?_some h1
      have hsp : spot = none := by
        obtain ⟨cs0, g1, g2⟩ := hx 0 (by omega)
        obtain ⟨s0, rfl, _⟩ := open_write g2 (hwD 0 (by omega))
        obtain ⟨_, _, g3⟩ := World.cells?_some g1
        have h5 := g3 0 (by omega)
        rw [show (((⟨b, off, spot⟩ : Addr).add (0 * 3)).add 0) = ⟨b, off, spot⟩ by simp [Addr.add]] at h5
        exact World.cell?_spot (a := ⟨b, off, spot⟩) h5
      subst hsp
      refine ⟨s, rfl, fun j v hv => ?_, hin⟩
      have hj : j < 3 := by have := (List.getElem?_eq_some_iff.1 hv).1; simpa [Wm.cells] using this
      have g := h3 j hj
      rw [Addr.add_mid, Addr.add_mid] at g
      rw [g]
      exact hv
    obtain ⟨f, hf⟩ := choose_lt (α := Wm) hel
    refine ⟨_, len, _, (List.range len).map f, rfl, by simp, fun i hi => ?_, by omega⟩
    have hi' : i < len := by simpa using hi
    obtain ⟨hsp, hc, hin⟩ := hf i hi'
    subst hsp
    have e : ((List.range len).map f).getD i wm0 = f i := by simp [hi']
    rw [e]
    exact ⟨b, off, rfl, hc, hin⟩
end
theorem new_row (w : World) : Kept [] w (w.alloc (.cells #[.int .u8 110, .int .u8 101, .int .u8 119] 5 (3, 4))) ∧ Sl (w.alloc (.cells #[.int .u8 110, .int .u8 101, .int .u8 119] 5 (3, 4))) (some ⟨w.heap.size, 0, none⟩) [110, 101, 119] := ⟨(Kept.refl [] w).alloc _, new_sl w [110, 101, 119] (3, 4)⟩

set_option maxHeartbeats 2000000 in
set_option maxRecDepth 100000 in
theorem away_ok {X : Nat → Prop} {wa w : World} {p : Nat} {S : Ds} {N : Nat} {base : By} {D : List Ch} (h : Ax X wa w p S N) (hN : N + 20 ≤ 268435456) (hT : To S base D) (hc : Dsk.Calm S) (hb : (runs base D).length ≤ 1000000) (how : Int) :
    Calls Try.prog 14 #[.pointer (some ⟨p, 0, none⟩), .int .i64 how] w fun e w' => e = .returned (.bool true) ∧ ∃ S', Tz S' base D ∧ Ax X wa w' p S' (N + 20) := by
  by_cases h1 : how = 1
  · subst h1
    obtain ⟨a1, a2⟩ := away1 hT hc
    have hr := remove_ax h (by omega) [102] (by decide)
    rw [a1] at hr
    have HZ := hide a2
    clear h hT hc a1 a2
    go_enter Try.func14, Try.ntmps14
    go_wp2_with (go_at_call 28; refine hr.mono ?_; rintro e w1 ⟨rfl, hx⟩; have HX := hide hx; clear hr hx)
    go_ret
    exact ⟨rfl, _, HZ.out, HX.out.mono (by omega)⟩
  by_cases h2 : how = 2
  · subst h2
    obtain ⟨a1, a2, a3, a4, a5⟩ := away2 hT hc hb
    have hr := create_ax h (by omega) [103] (by decide)
    rw [a1] at hr
    have HZ := hide a5
    have HE := hide (And.intro a2 (And.intro a3 a4))
    have kc := fun (w : World) (C : Array Value) (n c : Nat) => Lib.run_convert_bytes_const (P := Try.prog) w 22 5 C n c Try.underlying22 Try.underlying5
    clear h hT hc a1 a2 a3 a4 a5
    go_enter Try.func14, Try.ntmps14
    go_wp2_with (first
      | (go_at_call 5; refine hr.mono ?_; rintro e w1 ⟨rfl, hx⟩; have ha := append_ax hx (new_row w1).1 (n := 3) (c := 3) (d := [110, 101, 119]) (by omega) [103] (by decide) rfl (new_row w1).2 (by simp) (fun _ a ha => by cases ha; exact .inl (Nat.le_refl _)); rw [HE.out.1] at ha; clear hr hx)
      | (go_at_call 6; refine ha.mono ?_; rintro e w2 ⟨rfl, hx⟩; have hsy := sync_ax hx (by omega) [103] (by decide); rw [HE.out.2.1] at hsy; clear ha hx)
      | (go_at_call 7; refine hsy.mono ?_; rintro e w3 ⟨rfl, hx⟩; have hrn := rename_ax hx (by omega) [103] [102] (by decide) (by decide); rw [HE.out.2.2] at hrn; clear hsy hx)
      | (go_at_call 29; refine hrn.mono ?_; rintro e w4 ⟨rfl, hx⟩; have HX := hide hx; clear hrn hx))
    go_ret
    exact ⟨rfl, _, HZ.out, HX.out.mono (by omega)⟩
  by_cases h3 : how = 3
  · subst h3
    obtain ⟨a1, a2, a3⟩ := away3 hT hc
    have hr := rename_ax h (by omega) [102] [104] (by decide) (by decide)
    rw [a1] at hr
    have HZ := hide a3
    have HE := hide a2
    clear h hT hc a1 a2 a3
    go_enter Try.func14, Try.ntmps14
    go_wp2_with (first
      | (go_at_call 29; refine hr.mono ?_; rintro e w1 ⟨rfl, hx⟩; have hcr := create_ax hx (by omega) [102] (by decide); rw [HE.out] at hcr; clear hr hx)
      | (go_at_call 5; refine hcr.mono ?_; rintro e w2 ⟨rfl, hx⟩; have HX := hide hx; clear hcr hx))
    go_ret
    exact ⟨rfl, _, HZ.out, HX.out.mono (by omega)⟩
  · have HZ := hide (And.intro hT.tz (h.mono (M := N + 20) (by omega)))
    clear h hT hc
    go_enter Try.func14, Try.ntmps14
    go_wp2
    go_ret
    exact ⟨rfl, _, HZ.out.1, HZ.out.2⟩
end Go.Proofs.Ytlokekjljibmbaa
