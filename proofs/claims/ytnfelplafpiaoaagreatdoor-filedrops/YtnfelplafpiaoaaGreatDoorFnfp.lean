import Derived.Test.YtnfelplafpiaoaaGreatDoorFncp
import Derived.Test.YtnfelplafpiaoaaGreatDoorHo
import Derived.Lib.SlBytesConst
import Derived.Test.YtnfelplafpiaoaaGreatDoorFoap
import Derived.Test.YtnfelplafpiaoaaGreatDoorId1
import Derived.Test.YtnfelplafpiaoaaGreatDoorIa
import Derived.ProofKit
import Derived.OpenShut
import Derived.Deep.Slices
import Derived.Lib.SmallJoins
import Derived.Deep.MidRow
namespace Go.Proofs.YtnfelplafpiaoaaGreatDoor
section
open Go.RowKit Dsk
set_option linter.unusedVariables false
set_option linter.unusedSimpArgs false

/-- No disk, or one whose power is off. -/
def OffV (dv : Value) (w : World) : Prop := dv = .pointer none ∨ ∃ b, dv = .pointer (some ⟨b, 0, none⟩) ∧ w.cell? ⟨b, 1, none⟩ = some (.bool false)
theorem OffV.kept {dv : Value} {w w' : World} (h : OffV dv w) (hk : Kept [] w w') : OffV dv w' := by
  rcases h with h | ⟨b, h, h2⟩
  · exact .inl h
  · exact .inr ⟨b, h, hk.cellOf h2 (by simp)⟩
theorem off_v {dv : Value} {w : World} (h : OffV dv w) : Calls Tryz.prog 27 #[dv] w fun e w' => e = .returned (.bool true) ∧ w' = w := by
  rcases h with rfl | ⟨b, rfl, h2⟩
  · go_enter Tryz.func27, Tryz.ntmps27
    go_wp2
    go_ret
    exact ⟨rfl, rfl⟩
  · go_enter Tryz.func27, Tryz.ntmps27
    go_wp2
    go_ret
    exact ⟨rfl, rfl⟩
theorem find_v {dv : Value} {w : World} (h : OffV dv w) (name : By) : Calls Tryz.prog 84 #[dv, encStr name] w fun e w' => e = .returned (.tuple #[.pointer none, .int .i64 50]) ∧ w' = w := by
  have c := off_v h
  clear h
  go_enter Tryz.func84, Tryz.ntmps84
  go_wp2_with (go_at_call 27; refine c.mono ?_; rintro e w' ⟨rfl, hww⟩; obtain rfl := hww.symm; clear c)
  go_ret2
  exact ⟨rfl, rfl⟩
theorem size_v {dv : Value} {w : World} (h : OffV dv w) (name : By) : Calls Tryz.prog 76 #[dv, encStr name] w fun e w' => e = .returned (.tuple #[.int .i64 0, .int .i64 50]) ∧ w' = w := by
  have c := find_v h name
  clear h
  go_enter Tryz.func76, Tryz.ntmps76
  go_wp2_with (go_at_call 84; refine c.mono ?_; rintro e w' ⟨rfl, hww⟩; obtain rfl := hww.symm; clear c)
  go_ret2
  exact ⟨rfl, rfl⟩
theorem remove_v {dv : Value} {w : World} (h : OffV dv w) (name : By) : Calls Tryz.prog 49 #[dv, encStr name] w fun e w' => e = .returned (.int .i64 50) ∧ w' = w := by
  have c := find_v h name
  clear h
  go_enter Tryz.func49, Tryz.ntmps49
  go_wp2_with (go_at_call 84; refine c.mono ?_; rintro e w' ⟨rfl, hww⟩; obtain rfl := hww.symm; clear c)
  go_ret
  exact ⟨rfl, rfl⟩

theorem new_sl6 (W : World) (d : By) (fr : Nat × Nat) : Sl (W.alloc (.cells (bys d).toArray 5 fr)) (some ⟨W.heap.size, 0, none⟩) d := by
  intro i hi
  have hh : (W.alloc (.cells (bys d).toArray 5 fr)).heap[W.heap.size]? = some (.cells (bys d).toArray 5 fr) := (MapKept.heap_alloc W _).1
  refine ⟨W.heap.size, 0, rfl, ?_⟩
  rw [Nat.zero_add, cell_of_row _ _ i _ _ _ hh]
  have := bys_at hi
  simpa using this
def Q0 : Ds := Ds.fresh 50
def Q1 : Ds := (((((Q0.create [43, 97]).2.append [43, 97] [120, 121]).2.sync [43, 97]).2.rename [43, 97] [97]).2.syncNames).2
def Q2 : Ds := Q1.read [97] 0 (Q1.size [97])
theorem Tryz.sizeQ : Q1.readBytes [97] 0 (Q1.size [97]) = [120, 121] := by decide
theorem q2s : Q2.strokes = 5 := by decide
theorem q2f : (Q2.find [98]).1 = 53 := by decide

set_option maxHeartbeats 4000000 in
set_option maxRecDepth 100000 in
theorem known6_ok (w : World) (hg : Gl w) : Calls Tryz.prog 11 #[] w fun e w' => e = .returned (.bool true) ∧ Kept [] w w' := by
  have kc := fun (w : World) (C : Array Value) (n c : Nat) => Lib.run_convert_bytes_const (P := Tryz.prog) w 28 5 C n c Tryz.underlying28 Tryz.underlying5
  have A0 := new_at 50 w (by decide)
  have hr0 : roomE 50 = 0 := by decide
  rw [hr0] at A0
  have A1 : Hid (∀ v p, At w v p Q0 0 → Calls Tryz.prog 18 #[.pointer (some ⟨p, 0, none⟩), .string ⟨#[97]⟩, .slice (some ⟨v.heap.size, 0, none⟩) 2 2] (v.alloc (.cells #[.int .u8 120, .int .u8 121] 5 (2, 3))) fun e w' => e = .returned .nilIface ∧ At w w' p Q1 9) := fun v p h => by
    have hk : Kept [] v (v.alloc (.cells (bys [120, 121]).toArray 5 (2, 3))) := (Kept.refl [] v).alloc _
    have hx := h.ax.more hk
    have := put_fine hx [97] (ao := some ⟨v.heap.size, 0, none⟩) (n := 2) (cp := 2) (d := [120, 121]) (by omega) (by decide) rfl (new_sl6 v [120, 121] (2, 3)) (by simp) (fun _ a ha => by injection ha with ha; subst ha; exact .inr ⟨Nat.le_refl _, by simp⟩) (by decide) (by decide) (by decide) (by decide) (by decide) (by decide) (by decide) (by decide)
    refine this.mono ?_
    rintro e w' ⟨rfl, hx2⟩
    refine ⟨rfl, ?_⟩
    obtain ⟨A, o, g1, g2, g3, g4⟩ := hx2
    obtain ⟨A0, o0, f1, f2, f3, f4⟩ := h
    refine ⟨A, o, g1, fun b hb => ?_, ⟨g3.os.trans (f3.os), g3.tape.trans f3.tape, g3.output.trans f3.output, Nat.le_trans f3.size (Nat.le_trans hk.size g3.size), fun i hi _ => ?_⟩, g4⟩
    · apply Classical.byContradiction
      intro hn
      exact hb (g2 b (.inl (by omega))).1
    · rw [g3.block i (Nat.lt_of_lt_of_le hi (Nat.le_trans f3.size hk.size)) (fun hn => hn (.inl hi)), hk.block i (Nat.lt_of_lt_of_le hi f3.size) (by simp)]
      exact f3.block i hi (by simp)
  have A2 : Hid (∀ v p, At w v p Q1 9 → Calls Tryz.prog 33 #[.pointer (some ⟨p, 0, none⟩), .string ⟨#[97]⟩] v fun e w' => ∃ u, e = .returned (.tuple #[u, .nilIface]) ∧ At w w' p Q2 10 ∧ OwnB w' u 2 [120, 121]) := fun v p h => by
    have := get_fine h.ax [97] (by omega) (by decide) (by decide) (by decide)
    rw [Tryz.sizeQ] at this
    refine this.mono ?_
    rintro e w' ⟨u, rfl, hx, ho⟩
    refine ⟨u, rfl, ?_, ho⟩
    obtain ⟨A, o, g1, g2, g3, g4⟩ := hx
    refine ⟨A, o, g1, fun b hb => ?_, ⟨g3.os, g3.tape, g3.output, g3.size, fun i hi _ => g3.block i hi (fun hn => hn hi)⟩, g4⟩
    apply Classical.byContradiction
    intro hn
    exact hb (g2 b (by omega)).1
  have A3 : Hid (∀ v p, At w v p Q2 10 → Calls Tryz.prog 33 #[.pointer (some ⟨p, 0, none⟩), .string ⟨#[98]⟩] v fun e w' => ∃ u, e = .returned (.tuple #[.slice none 0 0, u]) ∧ ErrV w' u opGet [98] 53 ∧ Kept [] v w') := fun v p h => by
    have hs := size_at h [98] (by decide)
    rw [q2f] at hs
    exact get_bad _ [98] _ 53 v (by decide) (by decide) (by decide) hs
  have A4 : Hid (∀ v p, At w v p Q2 10 → Calls Tryz.prog 20 #[.pointer (some ⟨p, 0, none⟩)] v fun e w' => e = .returned (.int .i64 5) ∧ w' = v) := fun v p h => by have := strokes_at h; rw [q2s] at this; exact this
  have HG := hide hg
  clear hg
  go_enter Tryz.func11, Tryz.ntmps11
  go_wp2_with (first
    | (go_at_call 35; refine A0.mono ?_; rintro e w1 ⟨v, rfl, hk1, hn1, _⟩; obtain ⟨p, rfl, hat⟩ := hn1 rfl; have H1 := hide hat; clear hat hn1 A0)
    | (go_at_call 18; refine (A1.out w1 p H1.out).mono ?_; rintro e w2 ⟨rfl, hat⟩; have H2 := hide hat; clear hat H1)
    | (go_at_call 33; have Ha := H2; refine (A2.out w2 p H2.out).mono ?_; rintro e w3 ⟨u3, rfl, hat, hu3⟩; have H3 := hide hat; have O3 := hide hu3; clear hat H2 hu3 Ha)
    | (go_at_call 33; have Ha := H3; refine (A3.out w3 p H3.out).mono ?_; rintro e w4 ⟨u4, rfl, hv4, hk4⟩; have H4 := hide (H3.out.kept hk4); have V4 := hide hv4; have hcv := run_to_str w4 u3 2 [120, 121] (O3.out.kept hk4); clear hv4 hk4 H3 Ha O3)
    | (go_at_call 20; refine (A4.out _ _ H4.out).mono ?_; rintro e w' ⟨rfl, hww⟩; obtain rfl := hww.symm)
    | (go_at_call 34; refine (says_yes u4 [103, 101, 116] [98] 53 w4 (HG.out.kept H4.out.old (by simp)) (by decide) V4.out).mono ?_; rintro e w5 ⟨rfl, hk5⟩; have K5 := hide hk5; clear hk5))
  go_ret
  exact ⟨rfl, H4.out.old.trans K5.out (by simp)⟩
end

section
open Go.RowKit Dsk
set_option linter.unusedVariables false
set_option linter.unusedSimpArgs false

def NewE (w : World) (v : Value) : Prop := ∀ t a, v = .iface t (.pointer (some a)) → w.heap.size ≤ a.block
set_option maxRecDepth 100000 in
theorem fault_new (op name : By) (n : Int) (w : World) : Calls Tryz.prog 65 #[encStr op, encStr name, .int .i64 n] w fun e w' => ∃ v, e = .returned v ∧ ErrV w' v op name n ∧ Kept [] w w' ∧ NewE w v := by
  by_cases h0 : n = 0
  · subst h0
    go_enter Tryz.func65, Tryz.ntmps65
    go_wp2
    go_ret
    exact ⟨_, rfl, .inl ⟨rfl, rfl⟩, Kept.refl [] w, fun t a h => by cases h⟩
  · have hb : (n == 0) = false := by simpa using h0
    have H0 := hide h0
    clear h0
    go_enter Tryz.func65, Tryz.ntmps65
    go_wp2
    go_ret
    exact ⟨_, rfl, .inr ⟨H0.out, w.heap.size, rfl, (MapKept.heap_alloc w _).1⟩, (Kept.refl [] w).alloc _, fun t a h => by cases h; exact Nat.le_refl _⟩

theorem drop_new {X : Nat → Prop} {wa w : World} {p : Nat} {S : Ds} {N : Nat} (h : Ax X wa w p S N) (hN : N + 2 ≤ 268435456) (name : By) (hm : name.length ≤ 4611686018427387900) :
    Calls Tryz.prog 30 #[.pointer (some ⟨p, 0, none⟩), encStr name] w fun e w' => ∃ v w3, e = .returned v ∧ ErrV w' v opDrop name (S.drop name).1 ∧ Ax X wa w3 p (S.drop name).2 (N + 3) ∧ Kept [] w3 w' ∧ NewE w3 v := by
  have c1 := fisName_ok name w (by omega)
  by_cases hn : isNm name = true
  · rw [hn] at c1
    have hrm := remove_ax h (by omega) name (by omega)
    have eD : S.drop name = if (S.remove name).1 = 0 then (S.remove name).2.syncNames else S.remove name := by rw [Ds.drop, if_pos hn]
    by_cases h0 : (S.remove name).1 = 0
    · rw [if_pos h0] at eD
      rw [eD]
      rw [h0] at hrm
      clear eD h0 h
      generalize (S.remove name).2 = S1 at hrm ⊢
      go_enter Tryz.func30, Tryz.ntmps30
      go_wp2_with (first
        | (go_at_call 75; refine c1.mono ?_; rintro e w' ⟨rfl, hww⟩; obtain rfl := hww.symm; clear c1)
        | (go_at_call 49; refine hrm.mono ?_; rintro e w1 ⟨rfl, hA1⟩; have HA1 := hide hA1; clear hrm hA1)
        | (go_at_call 53; refine (syncNames_ax HA1.out hN).mono ?_; rintro e w2 ⟨rfl, hA2⟩; have HA2 := hide hA2; clear hA2)
        | (go_at_call 65; refine (fault_new opDrop name _ _).mono ?_; rintro e w3 ⟨v, rfl, hv⟩; have HV := hide hv; clear hv))
      go_ret
      exact ⟨_, _, rfl, HV.out.1, HA2.out, HV.out.2⟩
    · rw [if_neg h0] at eD
      rw [eD]
      have hb : ((S.remove name).1 != 0) = true := by simpa using h0
      clear eD h0 h
      generalize (S.remove name).2 = S1 at hrm ⊢
      generalize (S.remove name).1 = E at hrm hb ⊢
      go_enter Tryz.func30, Tryz.ntmps30
      go_wp2_with (first
        | (go_at_call 75; refine c1.mono ?_; rintro e w' ⟨rfl, hww⟩; obtain rfl := hww.symm; clear c1)
        | (go_at_call 49; refine hrm.mono ?_; rintro e w1 ⟨rfl, hA1⟩; have HA1 := hide hA1; clear hrm hA1)
        | (go_at_call 65; refine (fault_new opDrop name _ _).mono ?_; rintro e w3 ⟨v, rfl, hv⟩; have HV := hide hv; clear hv))
      go_ret
      exact ⟨_, _, rfl, HV.out.1, HA1.out.mono (by omega), HV.out.2⟩
  · have hf : isNm name = false := by simpa using hn
    have eD : S.drop name = (51, S) := by rw [Ds.drop, if_neg hn]
    rw [eD]
    rw [hf] at c1
    have HA := hide (h.mono (M := N + 3) (by omega))
    clear eD h hn hf
    go_enter Tryz.func30, Tryz.ntmps30
    go_wp2_with (first
      | (go_at_call 75; refine c1.mono ?_; rintro e w' ⟨rfl, hww⟩; obtain rfl := hww.symm; clear c1)
      | (go_at_call 65; refine (fault_new opDrop name _ _).mono ?_; rintro e w3 ⟨v, rfl, hv⟩; have HV := hide hv; clear hv))
    go_ret
    exact ⟨_, _, rfl, HV.out.1, HA.out, HV.out.2⟩

theorem code_nil (w : World) : Calls Tryz.prog 23 #[.nilIface] w fun e w' => e = .returned (.int .i64 0) ∧ Kept [] w w' := by
  go_enter Tryz.func23, Tryz.ntmps23
  go_wp2
  go_ret
  exact ⟨rfl, by first | exact Kept.refl [] w | exact (Kept.refl [] w).alloc _⟩
theorem code_any (v : Value) (op name : By) (n : Int) (w : World) (hg : Gl w) (h : ErrV w v op name n) : Calls Tryz.prog 23 #[v] w fun e w' => e = .returned (.int .i64 n) ∧ Kept [] w w' := by
  rcases h with ⟨rfl, rfl⟩ | ⟨_, eb, rfl, h⟩
  · exact code_nil w
  · exact code_fault eb op name n w hg h

namespace Dsk
theorem away_flt (l : List (By × By)) (n : By) : flt n n (away l n) = flt n n l := by
  unfold flt away
  rw [List.filter_filter]
  apply List.filter_congr
  intro p _
  cases p.1 == n <;> rfl
theorem away_find (l : List (By × By)) (n : By) : (away l n).find? (fun f => f.1 == n) = none := by
  rw [List.find?_eq_none]
  intro p hp
  have := (List.mem_filter.1 hp).2
  simpa using this
/-- What FileDrops asks of the files that were, of what Drop answered, of the strokes, the power and the files that are there behind a crash. -/
structure Asks (was now : List (By × By)) (n : By) (E : Int) (strokes : Nat) (on : Bool) : Prop where
  done : E = 0 → (∃ f, was.find? (fun f => f.1 == n) = some f) ∧ now.find? (fun f => f.1 == n) = none ∧ strokes = 2 ∧ on = true ∧ flt n n was = flt n n now
  cut : E = 50 → (∃ f, was.find? (fun f => f.1 == n) = some f) ∧ on = false ∧ (now.find? (fun f => f.1 == n) = none ∨ now.find? (fun f => f.1 == n) = was.find? (fun f => f.1 == n)) ∧ flt n n was = flt n n now
  none : E = 53 → was.find? (fun f => f.1 == n) = none ∧ strokes = 0 ∧ was = now
  name : E = 51 → isNm n = false ∧ strokes = 0 ∧ was = now
  all : E = 0 ∨ E = 50 ∨ E = 53 ∨ E = 51
theorem find_of_get {S : Ds} {n : By} {k : Nat} (h : S.shown.get n = some k) : ∃ f, S.files.find? (fun f => f.1 == n) = some f := by
  obtain ⟨d, hd⟩ := (get_files S.shown (fun p => (S.th p.2).shown) n).1 ⟨k, h⟩
  cases hf : S.files.find? (fun f => f.1 == n) with
  | some f => exact ⟨f, rfl⟩
  | none => exact absurd (List.find?_eq_none.1 hf _ hd) (by simp)
theorem find_of_none {S : Ds} {n : By} (h : S.shown.get n = none) : S.files.find? (fun f => f.1 == n) = none := by
  rw [List.find?_eq_none]
  intro f hf he
  have hfe : f.1 = n := by simpa using he
  have := (get_files S.shown (fun p => (S.th p.2).shown) n).2 ⟨f.2, by rw [← hfe]; exact hf⟩
  obtain ⟨k, hk⟩ := this
  rw [h] at hk
  cases hk
theorem drop_asks {S : Ds} (hs : AllSafe S) (hon : S.on = true) (h0 : S.strokes = 0) (n : By) (ps : List Int) :
    Asks S.files ((S.drop n).2.crash ps).files n (S.drop n).1 (S.drop n).2.strokes (S.drop n).2.on := by
  have hd := drop_does S n
  generalize (S.drop n).1 = E at hd ⊢
  generalize (S.drop n).2 = D at hd ⊢
  have hc := drop_crash hs hd ps
  cases hd with
  | name hn => exact ⟨(fun h => absurd h (by decide)), (fun h => absurd h (by decide)), (fun h => absurd h (by decide)), fun _ => ⟨hn, h0, (hs.crash ps).symm⟩, .inr (.inr (.inr rfl))⟩
  | off hn ho => rw [hon] at ho; cases ho
  | none hn ho hg => exact ⟨(fun h => absurd h (by decide)), (fun h => absurd h (by decide)), fun _ => ⟨find_of_none hg, h0, (hs.crash ps).symm⟩, (fun h => absurd h (by decide)), .inr (.inr (.inl rfl))⟩
  | done D k hn ho hg hd hk hsf hr hsh ht =>
    rcases hc with ⟨_, hc⟩ | ⟨h, _⟩ | h
    · exact ⟨fun _ => ⟨find_of_get hg, by rw [hc]; exact away_find _ _, by omega, hd, by rw [hc, away_flt]⟩, (fun h => absurd h (by decide)), (fun h => absurd h (by decide)), (fun h => absurd h (by decide)), .inl rfl⟩
    · cases h
    · subst h; omega
  | cut D k hn ho hg hd hsf hr ht =>
    rcases hc with ⟨h, _⟩ | ⟨_, _, _, hc⟩ | h
    · cases h
    · refine ⟨(fun h => absurd h (by decide)), fun _ => ⟨find_of_get hg, hd, ?_, ?_⟩, (fun h => absurd h (by decide)), (fun h => absurd h (by decide)), .inr (.inl rfl)⟩
      · rcases hc with hc | hc
        · left; rw [hc]; exact away_find _ _
        · right; rw [hc]
      · rcases hc with hc | hc
        · rw [hc, away_flt]
        · rw [hc]
    · subst h; rw [hon] at hd; cases hd
end Dsk
end

section
open Go.RowKit Dsk
set_option linter.unusedVariables false
set_option linter.unusedSimpArgs false
theorem Fls.keep {F : Nat → Prop} {w w' : World} {B : Nat} {v : Value} {L : List (By × By)} {vs : List Value} (h : Fls w B v L vs) (hk : Keep F w w') (h1 : ∀ g, v.ownBlock = some g → ¬ F g) (h2 : ∀ u ∈ vs, ∀ g, u.ownBlock = some g → ¬ F g) : Fls w' B v L vs :=
  ⟨h.len, own_keeps h.row hk h1, fun i f u hf hu => (h.own i f u hf hu).keep hk (h2 u (List.mem_of_getElem? hu)), h.new, h.apart⟩
theorem Fls.base {w : World} {B B' : Nat} {v : Value} {L : List (By × By)} {vs : List Value} (h : Fls w B v L vs) (hb : B' ≤ B) : Fls w B' v L vs :=
  ⟨h.len, ownsRow_base_a h.row hb, h.own, fun u hu g hg => Nat.le_trans hb (h.new u hu g hg), h.apart⟩
theorem PD.lim {w : World} {p : Nat} {S : Ds} {A : Nat → Nat} {o : Lab} (h : PD w p S A o) {b : Nat} (hb : o b ≠ 0) : b < w.heap.size := by
  obtain ⟨_, _, _, _, hx⟩ := h
  exact hx.lim b hb
theorem keep0 {w0 wr : World} {w' : World} {o : Lab} (hn : ∀ b, o b ≠ 0 → w0.heap.size ≤ b) (hk : Kept [] w0 wr) (hK : Keep o.mine wr w') : Kept [] w0 w' :=
  ⟨hK.os.trans hk.os, hK.tape.trans hk.tape, hK.output.trans hk.output, Nat.le_trans hk.size hK.size, fun i hi _ => (hK.block i (Nat.lt_of_lt_of_le hi hk.size) (fun hm => by have := hn i hm; omega)).trans (hk.block i hi (by simp))⟩
end

section
open Go.RowKit Dsk
set_option linter.unusedVariables false
set_option linter.unusedSimpArgs false

theorem ErrV.keep {F : Nat → Prop} {w w' : World} {v : Value} {op name : By} {n : Int} (h : ErrV w v op name n) (hk : Keep F w w') (hn : ∀ t a, v = .iface t (.pointer (some a)) → ¬ F a.block) : ErrV w' v op name n := by
  rcases h with h | ⟨h1, eb, h2, h3⟩
  · exact .inl h
  · exact .inr ⟨h1, eb, h2, hk.heapOf h3 (hn _ _ h2)⟩
theorem ErrV.lt {w : World} {v : Value} {op name : By} {n : Int} (h : ErrV w v op name n) {t : TypeId} {a : Addr} (he : v = .iface t (.pointer (some a))) : a.block < w.heap.size := by
  rcases h with ⟨_, h⟩ | ⟨_, eb, h2, h3⟩
  · rw [h] at he; cases he
  · rw [h2] at he
    cases he
    exact (Array.getElem?_eq_some_iff.1 h3).1
theorem Dsk.AllSafe.plan {S : Ds} (h : AllSafe S) (a b c : Int) : AllSafe (S.setPlan a b c) := by
  unfold Ds.setPlan
  split
  · exact ⟨h.row, h.safe, h.th⟩
  · exact h
/-- What is known once the disk has been loaded. -/
structure Got (w w1 : World) (B p : Nat) (S : Ds) (vo : Option Addr) (vc : Nat) : Prop where
  ax : Ax (fun b => b < w.heap.size ∨ (B ≤ b ∧ b < w1.heap.size)) w1 w1 p S 1048576
  was : ∀ w', Keep (fun b => ¬ (b < w.heap.size ∨ (B ≤ b ∧ b < w1.heap.size))) w1 w' → Fis w' vo S.files
  kept : Kept [] w w1
theorem Got.old {w w1 w' : World} {B p : Nat} {S S' : Ds} {vo : Option Addr} {vc N : Nat} (h : Got w w1 B p S vo vc) (ha : Ax (fun b => b < w.heap.size ∨ (B ≤ b ∧ b < w1.heap.size)) w1 w' p S' N) : Kept [] w w' := by
  have k := ha.old
  have h1 := h.kept
  exact ⟨k.os.trans h1.os, k.tape.trans h1.tape, k.output.trans h1.output, Nat.le_trans h1.size k.size, fun i hi _ => (k.block i (Nat.lt_of_lt_of_le hi h1.size) (fun hn => hn (.inl hi))).trans (h1.block i hi (by simp))⟩
theorem got_of {w w1 : World} {p B vc : Nat} {S : Ds} {A : Nat → Nat} {o : Lab} {vo : Option Addr} {m : Nat} {vs : List Value} (hP : PD w1 p S A o) (hb : S.Bd 1048576) (hl : ∀ b, o b ≠ 0 → w.heap.size ≤ b ∧ b < B) (hF : Fls w1 B (.slice vo m vc) S.files vs) (hk : Kept [] w w1) : Got w w1 B p S vo vc := by
  have hs := hk.size
  refine ⟨⟨A, o, hP, fun b hx => ⟨Classical.byContradiction fun hn => ?_, ?_⟩, Keep.refl _ _, hb⟩, fun w' hK => ?_, hk⟩
  · have := hl b hn
    omega
  · omega
  · refine (Fis.of (hF.keep hK (fun g hg hn => hn (.inr ?_)) (fun u hu g hg hn => hn (.inr ⟨hF.new u hu g hg, hF.val_lt hu hg⟩)))).1
    exact hF.row.lt g hg
theorem files_small {S : Ds} {N : Nat} (hw : S.Wf) (hb : S.Bd N) : S.files.length ≤ N ∧ ∀ f ∈ S.files, f.2.length ≤ N + N := by
  refine ⟨by have := hb.shown hw; simpa [Ds.files] using this, fun f hf => ?_⟩
  obtain ⟨q, hq, rfl⟩ := List.mem_map.1 hf
  have := hb.len hw (hw.slt hq)
  show (S.th q.2).shown.length ≤ N + N
  omega

set_option maxHeartbeats 8000000 in
set_option maxRecDepth 100000 in
theorem drops_walk (ao : Option Addr) (n c : Nat) (name : By) (off : Int) (po : Option Addr) (pn pc : Nat) (L : List (By × By)) (ps : List Int) (w : World) (hg : Gl w) (hx : L.length = n) (hn : n ≤ 4611686018427387900) (hM : ∀ f ∈ L, f.1.length ≤ 4611686018427387900 ∧ f.2.length ≤ 4611686018427387900) (h1 : Fio w ao L) (hm : name.length ≤ 4611686018427387900) (ho : (Lit.int .i64 off).wf = true)
    (hpl : ps.length = pn) (hpn : pn ≤ 17592186044416) (hpi : Ints w po ps) (hpw : ∀ i, (Lit.int .i64 (ps.getD i 0)).wf = true) (hpb : ps ≠ [] → ∀ a, po = some a → a.block < w.heap.size) :
    Calls Tryz.prog 6 #[.slice ao n c, .string ⟨name.toArray⟩, .int .i64 off, .slice po pn pc] w fun e w' => e = .returned (.bool true) ∧ Below w.heap.size w w' := by
  have hld := loaded_ok 4000 ao n c L w hx hn (by decide) hM h1
  have HG := hide hg
  have HP := hide (show ps.length = pn ∧ Ints w po ps ∧ (∀ i, (Lit.int .i64 (ps.getD i 0)).wf = true) ∧ (ps ≠ [] → ∀ a, po = some a → a.block < w.heap.size) from ⟨hpl, hpi, hpw, hpb⟩)
  have HO := hide ho
  clear hg hx hM h1 hpl hpi hpw hpb ho hn
  go_enter Tryz.func6, Tryz.ntmps6
  go_upto_region 2 with (go_at_call 15; refine hld.mono ?_; rintro e w1 ⟨p, A, o, S, v, vs, B, rfl, hPD, hs, hon, hst, hrm, hbd, hlab, hF, hk1⟩; obtain ⟨vo, vc, rfl, _⟩ := own_shape hF.row; have HGT := hide (got_of hPD hbd hlab hF hk1); have HS := hide (And.intro hs (And.intro hon hst)); have HSM : Hid (S.files.length ≤ 1048576 ∧ ∀ f ∈ S.files, f.2.length ≤ 2097152) := hide (by have := files_small (HGT.out.ax.wf) hbd; exact ⟨this.1, fun f hf => by have := this.2 f hf; omega⟩); clear hPD hs hon hst hrm hbd hlab hF hk1 hld A o)
  have hkn := known6_ok w1 (HG.out.kept HGT.out.kept (by simp))
  go_upto_region 4 with (go_at_call 11; refine hkn.mono ?_; rintro e w2 ⟨rfl, hk2⟩; have HA2 := hide (HGT.out.ax.kept hk2); clear hkn hk2)
  by_cases hof : 0 < off
  · have hpc := plan_ax HA2.out off 0 0 ⟨HO.out, by decide, by decide⟩
    go_upto_region 6 with (go_at_call 17; refine hpc.mono ?_; rintro e w3 ⟨rfl, hA3⟩; have HA3 := hide hA3; clear hpc hA3)
    have HS2 : Hid (AllSafe (S.setPlan off 0 0) ∧ (S.setPlan off 0 0).on = true ∧ (S.setPlan off 0 0).strokes = 0 ∧ (S.setPlan off 0 0).files = S.files) := hide ⟨HS.out.1.plan _ _ _, by simp [Ds.setPlan, HS.out.2.1], by simp [Ds.setPlan, HS.out.2.1, HS.out.2.2], by simp [Ds.setPlan, HS.out.2.1, Ds.files]⟩
    generalize S.setPlan off 0 0 = S2 at HA3 HS2
    have hdr := drop_new HA3.out (by omega) name hm
    have HAS := hide (drop_asks HS2.out.1 HS2.out.2.1 HS2.out.2.2.1 name ps)
    rw [HS2.out.2.2.2] at HAS
    go_upto_region 7 with (go_at_call 30; refine hdr.mono ?_; rintro e w4 ⟨ve, w3', rfl, hev, hA4, hk4, hne⟩; have HEV := hide hev; have HA4 := hide hA4; have HK4 := hide hk4; have HNE := hide hne; clear hdr hev hA4 hk4 hne)
    generalize (S2.drop name).1 = E at HAS HEV
    generalize (S2.drop name).2 = D at HAS HA4
    have hst := strokes_ax (HA4.out.kept HK4.out)
    have hof2 := off_ax (HA4.out.kept HK4.out)
    have HAM := hide (HA4.out.more HK4.out)
    have hK4o : Kept [] w w4 := HGT.out.old (HA4.out.kept HK4.out)
    have HK4O := hide hK4o
    have hcr := crash_ax HAM.out (Kept.refl [] w4) (by omega) (c := pc) HP.out.1 (HP.out.2.1.kept (Keep.ofNone (F := fun _ => False) hK4o) (fun _ _ _ h => h)) HP.out.2.2.1 hpn (fun h a e => .inr (.inl (.inl (HP.out.2.2.2 h a e))))
    clear hK4o
    go_upto_region 10 with (first
      | (go_at_call 20; refine hst.mono ?_; rintro e w' ⟨rfl, hww⟩; obtain rfl := hww.symm; clear hst)
      | (go_at_call 27; refine hof2.mono ?_; rintro e w' ⟨rfl, hww⟩; obtain rfl := hww.symm; clear hof2)
      | (go_at_call 21; refine hcr.mono ?_; rintro e w5 ⟨rfl, hA5⟩; have HA5 := hide hA5; clear hcr hA5))
    have HE5 : Hid (ErrV w5 ve opDrop name E) := hide (HEV.out.keep HA5.out.old (fun t a e hn => hn (.inr ⟨HNE.out t a e, HEV.out.lt e⟩)))
    have HW5 : Hid (Fis w5 vo S.files ∧ Kept [] w w5) := hide (by
      have q4 := HA4.out.old
      have q5 := HA5.out.old
      have k45 : Keep (fun b => ¬ (b < w.heap.size ∨ (B ≤ b ∧ b < w1.heap.size))) w1 w5 := (HA4.out.kept HK4.out).old.trans q5 (fun i e _ h => e (.inl h))
      refine ⟨HGT.out.was w5 k45, ?_⟩
      have h1 := HGT.out.kept
      exact ⟨k45.os.trans h1.os, k45.tape.trans h1.tape, k45.output.trans h1.output, Nat.le_trans h1.size k45.size, fun i hi _ => (k45.block i (Nat.lt_of_lt_of_le hi h1.size) (fun hn => hn (.inl hi))).trans (h1.block i hi (by simp))⟩)
    have hfl := files_ax HA5.out (by omega)
    have HSM2 : Hid ((D.crash ps).files.length ≤ 1048579 ∧ ∀ f ∈ (D.crash ps).files, f.2.length ≤ 2097158) := hide (by
      have := files_small HA5.out.wf HA5.out.bd
      exact ⟨by omega, fun f hf => by have := this.2 f hf; omega⟩)
    generalize (D.crash ps).files = now at hfl HSM2 HAS
    go_upto_region 11 with (go_at_call 19; refine hfl.mono ?_; rintro e w6 ⟨v2, vs2, rfl, hF2, hk6⟩; obtain ⟨no, nc, rfl, _⟩ := own_shape hF2.row; have HN6 := hide (Fis.of hF2).1; have HK6 := hide hk6; clear hfl hF2 hk6)
    have hu1 := under_ok no now.length nc now name w6 rfl (by have := HSM2.out.1; omega) HN6.out
    go_upto_region 12 with (go_at_call 16; refine hu1.mono ?_; rintro e w7 ⟨g1, is1, rfl, hun, k7, hw7⟩; have HU1 := hide hun; have HK7 : Hid (Kept [] w6 w7) := hide (by rw [hw7]; exact (Kept.refl [] w6).drewN _); clear hu1 hun hw7)
    have hu2 := under_ok vo S.files.length vc S.files name w7 rfl (by have := HSM.out.1; omega) ((HW5.out.1.kept HK6.out).kept HK7.out)
    go_upto_region 13 with (go_at_call 16; refine hu2.mono ?_; rintro e w8 ⟨g2, is2, rfl, hun, k8, hw8⟩; have HU2 := hide hun; have HK8 : Hid (Kept [] w7 w8) := hide (by rw [hw8]; exact (Kept.refl [] w7).drewN _); clear hu2 hun hw8)
    have HK58 : Hid (Kept [] w5 w8) := hide ((HK6.out.trans HK7.out (by simp)).trans HK8.out (by simp))
    have hcd := code_any ve opDrop name E w8 ((HG.out.kept HW5.out.2 (by simp)).kept HK58.out (by simp)) (HE5.out.kept HK58.out)
    go_upto_region 14 with (go_at_call 23; refine hcd.mono ?_; rintro e w9 ⟨rfl, hk9⟩; have HK9 := hide hk9; clear hcd hk9)
    have HF9 : Hid (Fis w9 vo S.files ∧ Fis w9 no now ∧ Kept [] w w9) := hide ⟨(HW5.out.1.kept HK58.out).kept HK9.out, ((HN6.out.kept HK7.out).kept HK8.out).kept HK9.out, (HW5.out.2.trans HK58.out (by simp)).trans HK9.out (by simp)⟩
    have HFIN : Hid (∀ w', Kept [] w9 w' → Below w.heap.size w w') := hide (fun w' hk => (HF9.out.2.2.trans hk (by simp)).below (Nat.le_refl _) (by simp))
    have hoth : Hid (flt name name S.files = flt name name now → Calls Tryz.prog 26 #[.slice vo S.files.length vc, .slice no now.length nc, encStr name, encStr name] w9 fun e w' => e = .returned (.bool true) ∧ Kept [] w9 w') := hide (fun he => others_yes vo no _ vc _ nc S.files now name name w9 rfl rfl (by have := HSM.out.1; omega) (by have := HSM2.out.1; omega) (fun f hf => by have := HSM.out.2 f hf; omega) HF9.out.1 HF9.out.2.1 he)
    have hfil : Hid (S.files = now → Calls Tryz.prog 22 #[.slice vo S.files.length vc, .slice no now.length nc] w9 fun e w' => e = .returned (.bool true) ∧ ∃ k, w' = w9.drewN k) := hide (fun he => by
      have h2 := HF9.out.2.1
      rw [← he] at h2 ⊢
      exact files6_yes vo no _ vc nc S.files w9 rfl (by have := HSM.out.1; omega) (fun f hf => by have := HSM.out.2 f hf; omega) HF9.out.1 h2)
    rcases HAS.out.all with hE | hE | hE | hE
    · obtain ⟨⟨f, q1⟩, q2, q3, q4, q5⟩ := HAS.out.done hE
      have hcal := hoth.out q5
      obtain rfl : is1 = false := by rcases HU1.out with ⟨_, _, h⟩ | ⟨_, _, _, h, _⟩; exact h; rw [q2] at h; cases h
      obtain rfl : is2 = true := by rcases HU2.out with ⟨h, _⟩ | ⟨_, _, _, _, _, _, _, h⟩; rw [q1] at h; cases h; exact h
      rw [q3, q4, hE]
      clear hoth hfil HAS HU1 HU2 hE
      generalize S.files.length = zw at *
      generalize now.length = zn at *
      go_wp2_with (go_at_call 26; refine hcal.mono ?_; rintro e w' ⟨rfl, hk'⟩; have HKE := hide hk'; clear hcal hk')
      go_ret
      exact ⟨rfl, HFIN.out _ HKE.out⟩
    · obtain ⟨⟨f, q1⟩, q2, q3, q4⟩ := HAS.out.cut hE
      have hcal := hoth.out q4
      obtain rfl : is2 = true := by rcases HU2.out with ⟨h, _⟩ | ⟨_, _, _, _, _, _, _, h⟩; rw [q1] at h; cases h; exact h
      rw [q2, hE]
      rcases HU1.out with ⟨_, u1, u2⟩ | ⟨f1, bo1, bc1, u0, _, u1, u2, u3⟩
      · subst u2
        clear hoth hfil HAS HU1 HU2 hE q1 q3 q4
        generalize S.files.length = zw at *
        generalize now.length = zn at *
        go_wp2_with (go_at_call 26; refine hcal.mono ?_; rintro e w' ⟨rfl, hk'⟩; have HKE := hide hk'; clear hcal hk')
        go_ret
        exact ⟨rfl, HFIN.out _ HKE.out⟩
      · subst u3
        have q5 : now.find? (fun f => f.1 == name) = S.files.find? (fun f => f.1 == name) := by
          rcases q3 with h | h
          · rw [u0] at h; cases h
          · exact h
        rw [u0, q1] at q5
        injection q5 with q5
        subst q5
        rcases HU2.out with ⟨h, _⟩ | ⟨f2, bo2, bc2, t0, _, t1, t2, _⟩
        · rw [q1] at h; cases h
        rw [q1] at t0
        injection t0 with t0
        subst t0
        have hfl1 : f1.2.length ≤ 2097152 := HSM.out.2 _ (List.mem_of_find?_eq_some q1)
        have hsm := same_yes bo1 bo2 f1.2.length bc1 bc2 f1.2 w9 rfl (by omega) (((u2.kept HK7.out (by simp)).kept HK8.out (by simp)).kept HK9.out (by simp)) ((t2.kept HK8.out (by simp)).kept HK9.out (by simp))
        have HOT : Hid (∀ w', Kept [] w9 w' → Calls Tryz.prog 26 #[.slice vo S.files.length vc, .slice no now.length nc, encStr name, encStr name] w' fun e w'' => e = .returned (.bool true) ∧ Kept [] w' w'') := hide (fun w' hk => others_yes vo no _ vc _ nc S.files now name name w' rfl rfl (by have := HSM.out.1; omega) (by have := HSM2.out.1; omega) (fun f hf => by have := HSM.out.2 f hf; omega) (HF9.out.1.kept hk) (HF9.out.2.1.kept hk) q4)
        subst u1 t1
        clear hoth hfil HAS HU1 HU2 hE q1 q3 q4 hcal u0 u2 t2 hfl1
        generalize S.files.length = zw at *
        generalize now.length = zn at *
        generalize f1.2.length = zf at *
        go_wp2_with (first
          | (go_at_call 24; refine hsm.mono ?_; rintro e wx ⟨rfl, kk, hk'⟩; have HKX : Hid (Kept [] w9 wx) := hide (by rw [hk']; exact (Kept.refl [] w9).drewN _); clear hsm hk')
          | (go_at_call 26; refine (HOT.out _ HKX.out).mono ?_; rintro e w' ⟨rfl, hk'⟩; have HKE := hide (HKX.out.trans hk' (by simp)); clear hk'))
        go_ret
        exact ⟨rfl, HFIN.out _ HKE.out⟩
    · obtain ⟨q1, q2, q3⟩ := HAS.out.none hE
      have hcal := hfil.out q3
      obtain rfl : is2 = false := by rcases HU2.out with ⟨_, _, h⟩ | ⟨_, _, _, h, _⟩; exact h; rw [q1] at h; cases h
      rw [q2, hE]
      clear hoth hfil HAS HU1 HU2 hE q3
      generalize S.files.length = zw at *
      generalize now.length = zn at *
      go_wp2_with (go_at_call 22; refine hcal.mono ?_; rintro e w' ⟨rfl, kk, hk'⟩; have HKE : Hid (Kept [] w9 w') := hide (by rw [hk']; exact (Kept.refl [] w9).drewN _); clear hcal hk')
      go_ret
      exact ⟨rfl, HFIN.out _ HKE.out⟩
    · obtain ⟨q1, q2, q3⟩ := HAS.out.name hE
      have hcal := hfil.out q3
      have hin := risName_ok name w9 (by omega)
      rw [q1] at hin
      rw [q2, hE]
      clear hoth hfil HAS HU1 HU2 hE q3 q1
      generalize S.files.length = zw at *
      generalize now.length = zn at *
      go_wp2_with (first
        | (go_at_call 31; refine hin.mono ?_; rintro e w' ⟨rfl, hww⟩; obtain rfl := hww.symm; clear hin)
        | (go_at_call 22; refine hcal.mono ?_; rintro e w' ⟨rfl, kk, hk'⟩; have HKE : Hid (Kept [] w9 w') := hide (by rw [hk']; exact (Kept.refl [] w9).drewN _); clear hcal hk'))
      go_ret
      exact ⟨rfl, HFIN.out _ HKE.out⟩
  · go_upto_region 6 with (fail)
    have HA3 := HA2
    have HS2 : Hid (AllSafe S ∧ S.on = true ∧ S.strokes = 0 ∧ S.files = S.files) := hide ⟨HS.out.1, HS.out.2.1, HS.out.2.2, rfl⟩
    obtain ⟨S2, HA3, HS2⟩ : ∃ S2, Hid (Ax (fun b => b < w.heap.size ∨ (B ≤ b ∧ b < w1.heap.size)) w1 w2 p S2 1048576) ∧ Hid (AllSafe S2 ∧ S2.on = true ∧ S2.strokes = 0 ∧ S2.files = S.files) := ⟨S, HA2, HS2⟩
    clear HA2
    generalize w2 = w3 at HA3 ⊢
    have hdr := drop_new HA3.out (by omega) name hm
    have HAS := hide (drop_asks HS2.out.1 HS2.out.2.1 HS2.out.2.2.1 name ps)
    rw [HS2.out.2.2.2] at HAS
    go_upto_region 7 with (go_at_call 30; refine hdr.mono ?_; rintro e w4 ⟨ve, w3', rfl, hev, hA4, hk4, hne⟩; have HEV := hide hev; have HA4 := hide hA4; have HK4 := hide hk4; have HNE := hide hne; clear hdr hev hA4 hk4 hne)
    generalize (S2.drop name).1 = E at HAS HEV
    generalize (S2.drop name).2 = D at HAS HA4
    have hst := strokes_ax (HA4.out.kept HK4.out)
    have hof2 := off_ax (HA4.out.kept HK4.out)
    have HAM := hide (HA4.out.more HK4.out)
    have hK4o : Kept [] w w4 := HGT.out.old (HA4.out.kept HK4.out)
    have HK4O := hide hK4o
    have hcr := crash_ax HAM.out (Kept.refl [] w4) (by omega) (c := pc) HP.out.1 (HP.out.2.1.kept (Keep.ofNone (F := fun _ => False) hK4o) (fun _ _ _ h => h)) HP.out.2.2.1 hpn (fun h a e => .inr (.inl (.inl (HP.out.2.2.2 h a e))))
    clear hK4o
    go_upto_region 10 with (first
      | (go_at_call 20; refine hst.mono ?_; rintro e w' ⟨rfl, hww⟩; obtain rfl := hww.symm; clear hst)
      | (go_at_call 27; refine hof2.mono ?_; rintro e w' ⟨rfl, hww⟩; obtain rfl := hww.symm; clear hof2)
      | (go_at_call 21; refine hcr.mono ?_; rintro e w5 ⟨rfl, hA5⟩; have HA5 := hide hA5; clear hcr hA5))
    have HE5 : Hid (ErrV w5 ve opDrop name E) := hide (HEV.out.keep HA5.out.old (fun t a e hn => hn (.inr ⟨HNE.out t a e, HEV.out.lt e⟩)))
    have HW5 : Hid (Fis w5 vo S.files ∧ Kept [] w w5) := hide (by
      have q4 := HA4.out.old
      have q5 := HA5.out.old
      have k45 : Keep (fun b => ¬ (b < w.heap.size ∨ (B ≤ b ∧ b < w1.heap.size))) w1 w5 := (HA4.out.kept HK4.out).old.trans q5 (fun i e _ h => e (.inl h))
      refine ⟨HGT.out.was w5 k45, ?_⟩
      have h1 := HGT.out.kept
      exact ⟨k45.os.trans h1.os, k45.tape.trans h1.tape, k45.output.trans h1.output, Nat.le_trans h1.size k45.size, fun i hi _ => (k45.block i (Nat.lt_of_lt_of_le hi h1.size) (fun hn => hn (.inl hi))).trans (h1.block i hi (by simp))⟩)
    have hfl := files_ax HA5.out (by omega)
    have HSM2 : Hid ((D.crash ps).files.length ≤ 1048579 ∧ ∀ f ∈ (D.crash ps).files, f.2.length ≤ 2097158) := hide (by
      have := files_small HA5.out.wf HA5.out.bd
      exact ⟨by omega, fun f hf => by have := this.2 f hf; omega⟩)
    generalize (D.crash ps).files = now at hfl HSM2 HAS
    go_upto_region 11 with (go_at_call 19; refine hfl.mono ?_; rintro e w6 ⟨v2, vs2, rfl, hF2, hk6⟩; obtain ⟨no, nc, rfl, _⟩ := own_shape hF2.row; have HN6 := hide (Fis.of hF2).1; have HK6 := hide hk6; clear hfl hF2 hk6)
    have hu1 := under_ok no now.length nc now name w6 rfl (by have := HSM2.out.1; omega) HN6.out
    go_upto_region 12 with (go_at_call 16; refine hu1.mono ?_; rintro e w7 ⟨g1, is1, rfl, hun, k7, hw7⟩; have HU1 := hide hun; have HK7 : Hid (Kept [] w6 w7) := hide (by rw [hw7]; exact (Kept.refl [] w6).drewN _); clear hu1 hun hw7)
    have hu2 := under_ok vo S.files.length vc S.files name w7 rfl (by have := HSM.out.1; omega) ((HW5.out.1.kept HK6.out).kept HK7.out)
    go_upto_region 13 with (go_at_call 16; refine hu2.mono ?_; rintro e w8 ⟨g2, is2, rfl, hun, k8, hw8⟩; have HU2 := hide hun; have HK8 : Hid (Kept [] w7 w8) := hide (by rw [hw8]; exact (Kept.refl [] w7).drewN _); clear hu2 hun hw8)
    have HK58 : Hid (Kept [] w5 w8) := hide ((HK6.out.trans HK7.out (by simp)).trans HK8.out (by simp))
    have hcd := code_any ve opDrop name E w8 ((HG.out.kept HW5.out.2 (by simp)).kept HK58.out (by simp)) (HE5.out.kept HK58.out)
    go_upto_region 14 with (go_at_call 23; refine hcd.mono ?_; rintro e w9 ⟨rfl, hk9⟩; have HK9 := hide hk9; clear hcd hk9)
    have HF9 : Hid (Fis w9 vo S.files ∧ Fis w9 no now ∧ Kept [] w w9) := hide ⟨(HW5.out.1.kept HK58.out).kept HK9.out, ((HN6.out.kept HK7.out).kept HK8.out).kept HK9.out, (HW5.out.2.trans HK58.out (by simp)).trans HK9.out (by simp)⟩
    have HFIN : Hid (∀ w', Kept [] w9 w' → Below w.heap.size w w') := hide (fun w' hk => (HF9.out.2.2.trans hk (by simp)).below (Nat.le_refl _) (by simp))
    have hoth : Hid (flt name name S.files = flt name name now → Calls Tryz.prog 26 #[.slice vo S.files.length vc, .slice no now.length nc, encStr name, encStr name] w9 fun e w' => e = .returned (.bool true) ∧ Kept [] w9 w') := hide (fun he => others_yes vo no _ vc _ nc S.files now name name w9 rfl rfl (by have := HSM.out.1; omega) (by have := HSM2.out.1; omega) (fun f hf => by have := HSM.out.2 f hf; omega) HF9.out.1 HF9.out.2.1 he)
    have hfil : Hid (S.files = now → Calls Tryz.prog 22 #[.slice vo S.files.length vc, .slice no now.length nc] w9 fun e w' => e = .returned (.bool true) ∧ ∃ k, w' = w9.drewN k) := hide (fun he => by
      have h2 := HF9.out.2.1
      rw [← he] at h2 ⊢
      exact files6_yes vo no _ vc nc S.files w9 rfl (by have := HSM.out.1; omega) (fun f hf => by have := HSM.out.2 f hf; omega) HF9.out.1 h2)
    rcases HAS.out.all with hE | hE | hE | hE
    · obtain ⟨⟨f, q1⟩, q2, q3, q4, q5⟩ := HAS.out.done hE
      have hcal := hoth.out q5
      obtain rfl : is1 = false := by rcases HU1.out with ⟨_, _, h⟩ | ⟨_, _, _, h, _⟩; exact h; rw [q2] at h; cases h
      obtain rfl : is2 = true := by rcases HU2.out with ⟨h, _⟩ | ⟨_, _, _, _, _, _, _, h⟩; rw [q1] at h; cases h; exact h
      rw [q3, q4, hE]
      clear hoth hfil HAS HU1 HU2 hE
      generalize S.files.length = zw at *
      generalize now.length = zn at *
      go_wp2_with (go_at_call 26; refine hcal.mono ?_; rintro e w' ⟨rfl, hk'⟩; have HKE := hide hk'; clear hcal hk')
      go_ret
      exact ⟨rfl, HFIN.out _ HKE.out⟩
    · obtain ⟨⟨f, q1⟩, q2, q3, q4⟩ := HAS.out.cut hE
      have hcal := hoth.out q4
      obtain rfl : is2 = true := by rcases HU2.out with ⟨h, _⟩ | ⟨_, _, _, _, _, _, _, h⟩; rw [q1] at h; cases h; exact h
      rw [q2, hE]
      rcases HU1.out with ⟨_, u1, u2⟩ | ⟨f1, bo1, bc1, u0, _, u1, u2, u3⟩
      · subst u2
        clear hoth hfil HAS HU1 HU2 hE q1 q3 q4
        generalize S.files.length = zw at *
        generalize now.length = zn at *
        go_wp2_with (go_at_call 26; refine hcal.mono ?_; rintro e w' ⟨rfl, hk'⟩; have HKE := hide hk'; clear hcal hk')
        go_ret
        exact ⟨rfl, HFIN.out _ HKE.out⟩
      · subst u3
        have q5 : now.find? (fun f => f.1 == name) = S.files.find? (fun f => f.1 == name) := by
          rcases q3 with h | h
          · rw [u0] at h; cases h
          · exact h
        rw [u0, q1] at q5
        injection q5 with q5
        subst q5
        rcases HU2.out with ⟨h, _⟩ | ⟨f2, bo2, bc2, t0, _, t1, t2, _⟩
        · rw [q1] at h; cases h
        rw [q1] at t0
        injection t0 with t0
        subst t0
        have hfl1 : f1.2.length ≤ 2097152 := HSM.out.2 _ (List.mem_of_find?_eq_some q1)
        have hsm := same_yes bo1 bo2 f1.2.length bc1 bc2 f1.2 w9 rfl (by omega) (((u2.kept HK7.out (by simp)).kept HK8.out (by simp)).kept HK9.out (by simp)) ((t2.kept HK8.out (by simp)).kept HK9.out (by simp))
        have HOT : Hid (∀ w', Kept [] w9 w' → Calls Tryz.prog 26 #[.slice vo S.files.length vc, .slice no now.length nc, encStr name, encStr name] w' fun e w'' => e = .returned (.bool true) ∧ Kept [] w' w'') := hide (fun w' hk => others_yes vo no _ vc _ nc S.files now name name w' rfl rfl (by have := HSM.out.1; omega) (by have := HSM2.out.1; omega) (fun f hf => by have := HSM.out.2 f hf; omega) (HF9.out.1.kept hk) (HF9.out.2.1.kept hk) q4)
        subst u1 t1
        clear hoth hfil HAS HU1 HU2 hE q1 q3 q4 hcal u0 u2 t2 hfl1
        generalize S.files.length = zw at *
        generalize now.length = zn at *
        generalize f1.2.length = zf at *
        go_wp2_with (first
          | (go_at_call 24; refine hsm.mono ?_; rintro e wx ⟨rfl, kk, hk'⟩; have HKX : Hid (Kept [] w9 wx) := hide (by rw [hk']; exact (Kept.refl [] w9).drewN _); clear hsm hk')
          | (go_at_call 26; refine (HOT.out _ HKX.out).mono ?_; rintro e w' ⟨rfl, hk'⟩; have HKE := hide (HKX.out.trans hk' (by simp)); clear hk'))
        go_ret
        exact ⟨rfl, HFIN.out _ HKE.out⟩
    · obtain ⟨q1, q2, q3⟩ := HAS.out.none hE
      have hcal := hfil.out q3
      obtain rfl : is2 = false := by rcases HU2.out with ⟨_, _, h⟩ | ⟨_, _, _, h, _⟩; exact h; rw [q1] at h; cases h
      rw [q2, hE]
      clear hoth hfil HAS HU1 HU2 hE q3
      generalize S.files.length = zw at *
      generalize now.length = zn at *
      go_wp2_with (go_at_call 22; refine hcal.mono ?_; rintro e w' ⟨rfl, kk, hk'⟩; have HKE : Hid (Kept [] w9 w') := hide (by rw [hk']; exact (Kept.refl [] w9).drewN _); clear hcal hk')
      go_ret
      exact ⟨rfl, HFIN.out _ HKE.out⟩
    · obtain ⟨q1, q2, q3⟩ := HAS.out.name hE
      have hcal := hfil.out q3
      have hin := risName_ok name w9 (by omega)
      rw [q1] at hin
      rw [q2, hE]
      clear hoth hfil HAS HU1 HU2 hE q3 q1
      generalize S.files.length = zw at *
      generalize now.length = zn at *
      go_wp2_with (first
        | (go_at_call 31; refine hin.mono ?_; rintro e w' ⟨rfl, hww⟩; obtain rfl := hww.symm; clear hin)
        | (go_at_call 22; refine hcal.mono ?_; rintro e w' ⟨rfl, kk, hk'⟩; have HKE : Hid (Kept [] w9 w') := hide (by rw [hk']; exact (Kept.refl [] w9).drewN _); clear hcal hk'))
      go_ret
      exact ⟨rfl, HFIN.out _ HKE.out⟩
end

section
open Go.ChangeShapes Go.WideShapes Go.ChangeAt Go.RowKit Go.Deep Go.Joins Dsk
set_option linter.unusedVariables false
set_option linter.unusedSimpArgs false
structure Fm where
  f : By × By
  da : Option Addr
  dc : Nat
def fm0 : Fm := ⟨([], []), none, 0⟩
instance : Inhabited Fm := ⟨fm0⟩
def Fm.cells (s : Fm) : List Value := [encStr s.f.1, .slice s.da s.f.2.length s.dc]
structure FmIn (w : World) (s : Fm) : Prop where
  sl : Sl w s.da s.f.2
  nul : s.da = none → s.f.2.length = 0 ∧ s.dc = 0
  small : s.f.1.length ≤ 4611686018427387900 ∧ s.f.2.length ≤ 4611686018427387900
theorem ints_lt {w : World} {po : Option Addr} {ps : List Int} (h : Ints w po ps) : ps ≠ [] → ∀ a, po = some a → a.block < w.heap.size := by
  intro hn a ha
  obtain ⟨b, off, e, hc⟩ := h 0 (List.length_pos_iff.2 hn)
  rw [ha] at e
  injection e with e
  subst e
  exact World.block_lt_of_cell? _ _ hc
section
variable {H : Type} {enc : TypeId × Value → H} {w : World}
theorem str_less {y : DataW H × List MemPlace} {L : List UInt8} {P : Program} {t : TypeId} {q : List MemPlace} (hy : y = (.lit (.string (ByteArray.mk L.toArray).data.toList), q)) (h : ∀ k ∈ y.1.weights P t, k ≤ reachBytes) : L.length ≤ 4611686018427387900 := by
  subst hy
  have := h _ (by simp only [DataW.weights]; exact List.mem_singleton.2 rfl)
  have hr : reachBytes = 140737488351232 := rfl
  rw [hr] at this
  have h2 : L.length ≤ 140737488351232 := this
  omega
set_option maxRecDepth 100000 in
theorem open_file {n : Nat} {cs : List Value} {x : DataW H × List MemPlace} (h : DataW.trod enc Tryz.prog w 0 (fun _ => true) true n 60 cs = some x) (hw : ∀ n ∈ x.1.weights Tryz.prog 60, n ≤ reachBytes) :
    ∃ s : Fm, cs = s.cells ∧ FmIn w s := by
  obtain ⟨xs, m, rfl, hx, hl, hlen, hf⟩ := DataW.trod_struct Tryz.underlying60 h
  have hcl : Tryz.prog.cellsOf 60 = 2 := by kernel_rfl
  have hcs : Tryz.prog.cellsOf 9 = 1 := by kernel_rfl
  have hcd : Tryz.prog.cellsOf 28 = 1 := by kernel_rfl
  rw [hcl] at hl
  match cs, hl with
  | [a0, a1], _ =>
  match xs, hlen with
  | [y0, y1], _ =>
    have h0 := hf 0 _ rfl
    have h1 := hf 1 _ rfl
    simp only [hcs, hcd, List.drop_zero, List.drop_succ_cons, List.take_succ_cons, List.take_zero, List.getElem?_cons_zero, List.getElem?_cons_succ] at h0 h1
    obtain ⟨s1, e0, hy0, _⟩ := DataW.trod_string Tryz.underlying9 h0
    have wt0 : ∀ k ∈ y0.1.weights Tryz.prog 9, k ≤ reachBytes := fun j hj => hw j (by
      rw [hx]
      simp only [DataW.weights, Tryz.underlying60, DataW.weightsEach, List.mem_append, List.map_cons, List.map_nil]
      simp [DataW.weightsEach, hj])
    obtain ⟨ao, mm, cap, xs5, e1, i1, i2, i3, i4, i5, _⟩ := open_bytes h1 (fun j hj => hw j (by
      rw [hx]
      simp only [DataW.weights, Tryz.underlying60, DataW.weightsEach, List.mem_append, List.map_cons, List.map_nil]
      simp [DataW.weightsEach, hj]))
    cases e0; cases e1
    obtain ⟨⟨L1⟩⟩ := s1
    subst i1
    exact ⟨⟨(L1, xs5), ao, cap⟩, rfl, ⟨i4, fun h => by obtain ⟨q1, q2⟩ := i5 h; exact ⟨by show xs5.length = 0; first | exact q1 | (rw [q1]; rfl), q2⟩, str_less hy0 wt0, by show xs5.length ≤ _; omega⟩⟩
set_option maxRecDepth 100000 in
theorem open_files {fuel : Nat} {v : Value} {x : DataW H × List MemPlace} (h : DataW.trod enc Tryz.prog w 0 (fun _ => true) true fuel 36 [v] = some x) (hw : ∀ n ∈ x.1.weights Tryz.prog 36, n ≤ reachBytes) :
    ∃ ao n cap L, v = .slice ao n cap ∧ L.length = n ∧ n ≤ 4611686018427387900 ∧ (∀ f ∈ L, f.1.length ≤ 4611686018427387900 ∧ f.2.length ≤ 4611686018427387900) ∧ Fio w ao L := by
  rcases open_slice Tryz.underlying36 h with ⟨hcs, _⟩ | ⟨a, len, cap, m, n, D, Pl, hcs, _, hl, hm, hmm, hxx, hx⟩
  · cases hcs
    exact ⟨none, 0, 0, [], rfl, rfl, by omega, by simp, fun i hi => by simp at hi⟩
  · cases hcs
    have hcl : Tryz.prog.cellsOf 60 = 2 := by kernel_rfl
    simp only [if_true] at hmm
    subst hmm
    rw [hcl] at hx
    unfold maxLen at hm
    obtain ⟨b, off, spot⟩ := a
    have hwt : (len : Nat) * 40 ≤ 140737488351232 ∨ True := .inr trivial
    have hwD : ∀ i, i < len → ∀ n ∈ (D i).weights Tryz.prog 60, n ≤ reachBytes := by
      intro i hi n hn
      refine hw n ?_
      rw [hxx]
      simp only [DataW.weights, Tryz.underlying36, List.mem_cons, List.mem_append]
      exact .inr (.inl (weights_all (List.mem_map_of_mem (List.mem_range.2 hi)) hn))
    have hel : ∀ i, i < len → ∃ c : Fm, spot = none ∧ (∀ j v, c.cells[j]? = some v → w.cell? ⟨b, off + i * 2 + j, none⟩ = some v) ∧ FmIn w c := by
      intro i hi
      obtain ⟨cs', h1, h2⟩ := hx i (by omega)
      obtain ⟨s, rfl, hin⟩ := open_file h2 (hwD i hi)
      obtain ⟨_, _, h3⟩ := World.cells?_some h1
      have hsp : spot = none := by
        obtain ⟨cs0, g1, g2⟩ := hx 0 (by omega)
        obtain ⟨s0, rfl, _⟩ := open_file g2 (hwD 0 (by omega))
        obtain ⟨_, _, g3⟩ := World.cells?_some g1
        have h5 := g3 0 (by omega)
        rw [show (((⟨b, off, spot⟩ : Addr).add (0 * 2)).add 0) = ⟨b, off, spot⟩ by simp [Addr.add]] at h5
        exact World.cell?_spot (a := ⟨b, off, spot⟩) h5
      subst hsp
      refine ⟨s, rfl, fun j v hv => ?_, hin⟩
      have hj : j < 2 := by have := (List.getElem?_eq_some_iff.1 hv).1; simpa [Fm.cells] using this
      have g := h3 j hj
      rw [Addr.add_mid, Addr.add_mid] at g
      rw [g]
      exact hv
    have hlen : len ≤ 4611686018427387900 := by
      have hb1 : Tryz.prog.bytesOf 60 = 40 := by kernel_rfl
      have := hw (((List.range len).map D ++ (List.range (m - len)).map fun j => D (len + j)).length * 40) (by
        rw [hxx]
        simp only [DataW.weights, Tryz.underlying36, hb1]
        simp)
      have hr : reachBytes = 140737488351232 := rfl
      rw [hr] at this
      simp at this
      omega
    obtain ⟨f, hf⟩ := choose_lt (α := Fm) hel
    refine ⟨_, len, _, (List.range len).map (fun i => (f i).f), rfl, by simp, hlen, fun g hg => ?_, fun i hi => ?_⟩
    · obtain ⟨i, hi, rfl⟩ := List.mem_map.1 hg
      exact (hf i (List.mem_range.1 hi)).2.2.small
    · have hi' : i < len := by simpa using hi
      obtain ⟨hsp, hc, hin⟩ := hf i hi'
      subst hsp
      exact ⟨b, off, rfl, (f i).f, by simp [hi'], hc 0 _ rfl, (f i).da, (f i).dc, hc 1 _ rfl, hin.sl, hin.nul⟩
end
end

end Go.Proofs.YtnfelplafpiaoaaGreatDoor
