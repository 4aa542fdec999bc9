import Derived.Test.YtemlbmamcbmnjaaGreatDoorFnep
import Derived.Test.YtemlbmamcbmnjaaGreatDoorHop
import Derived.Lib.SlBytesConst
import Derived.Test.YtemlbmamcbmnjaaGreatDoorFoap
namespace Go.Proofs.YtemlbmamcbmnjaaGreatDoor
section
open Go.RowKit Dsk
set_option linter.unusedVariables false
set_option linter.unusedSimpArgs false

/-- No disk, or one whose power is off. -/
def OffV (dv : Value) (w : World) : Prop := dv = .pointer none ∨ ∃ b, dv = .pointer (some ⟨b, 0, none⟩) ∧ w.cell? ⟨b, 1, none⟩ = some (.bool false)
theorem OffV.kept {dv : Value} {w w' : World} (h : OffV dv w) (hk : Kept [] w w') : OffV dv w' := by
  rcases h with h | ⟨b, h, h2⟩
  · exact .inl h
  · exact .inr ⟨b, h, hk.cellOf h2 (by simp)⟩
theorem off_v {dv : Value} {w : World} (h : OffV dv w) : Calls Tryz.prog 25 #[dv] w fun e w' => e = .returned (.bool true) ∧ w' = w := by
  rcases h with rfl | ⟨b, rfl, h2⟩
  · go_enter Tryz.func25, Tryz.ntmps25
    go_wp2
    go_ret
    exact ⟨rfl, rfl⟩
  · go_enter Tryz.func25, Tryz.ntmps25
    go_wp2
    go_ret
    exact ⟨rfl, rfl⟩
theorem find_v {dv : Value} {w : World} (h : OffV dv w) (name : By) : Calls Tryz.prog 82 #[dv, encStr name] w fun e w' => e = .returned (.tuple #[.pointer none, .int .i64 50]) ∧ w' = w := by
  have c := off_v h
  clear h
  go_enter Tryz.func82, Tryz.ntmps82
  go_wp2_with (go_at_call 25; refine c.mono ?_; rintro e w' ⟨rfl, hww⟩; obtain rfl := hww.symm; clear c)
  go_ret2
  exact ⟨rfl, rfl⟩
theorem size_v {dv : Value} {w : World} (h : OffV dv w) (name : By) : Calls Tryz.prog 74 #[dv, encStr name] w fun e w' => e = .returned (.tuple #[.int .i64 0, .int .i64 50]) ∧ w' = w := by
  have c := find_v h name
  clear h
  go_enter Tryz.func74, Tryz.ntmps74
  go_wp2_with (go_at_call 82; refine c.mono ?_; rintro e w' ⟨rfl, hww⟩; obtain rfl := hww.symm; clear c)
  go_ret2
  exact ⟨rfl, rfl⟩
theorem remove_v {dv : Value} {w : World} (h : OffV dv w) (name : By) : Calls Tryz.prog 46 #[dv, encStr name] w fun e w' => e = .returned (.int .i64 50) ∧ w' = w := by
  have c := find_v h name
  clear h
  go_enter Tryz.func46, Tryz.ntmps46
  go_wp2_with (go_at_call 82; refine c.mono ?_; rintro e w' ⟨rfl, hww⟩; obtain rfl := hww.symm; clear c)
  go_ret
  exact ⟨rfl, rfl⟩

theorem new_sl6 (W : World) (d : By) (fr : Nat × Nat) : Sl (W.alloc (.cells (bys d).toArray 5 fr)) (some ⟨W.heap.size, 0, none⟩) d := by
  intro i hi
  have hh : (W.alloc (.cells (bys d).toArray 5 fr)).heap[W.heap.size]? = some (.cells (bys d).toArray 5 fr) := (MapKept.heap_alloc W _).1
  refine ⟨W.heap.size, 0, rfl, ?_⟩
  rw [Nat.zero_add, cell_of_row _ _ i _ _ _ hh]
  have := bys_at hi
  simpa using this
def Q0 : Ds := Ds.fresh 50
def Q1 : Ds := (((((Q0.create [43, 97]).2.append [43, 97] [120, 121]).2.sync [43, 97]).2.rename [43, 97] [97]).2.syncNames).2
def Q2 : Ds := Q1.read [97] 0 (Q1.size [97])
theorem Tryz.sizeQ : Q1.readBytes [97] 0 (Q1.size [97]) = [120, 121] := by decide
theorem q2s : Q2.strokes = 5 := by decide
theorem q2f : (Q2.find [98]).1 = 53 := by decide

set_option maxHeartbeats 4000000 in
set_option maxRecDepth 100000 in
theorem known6_ok (w : World) (hg : Gl w) : Calls Tryz.prog 9 #[] w fun e w' => e = .returned (.bool true) ∧ Kept [] w w' := by
  have kc := fun (w : World) (C : Array Value) (n c : Nat) => Lib.run_convert_bytes_const (P := Tryz.prog) w 28 5 C n c Tryz.underlying28 Tryz.underlying5
  have A0 := new_at 50 w (by decide)
  have hr0 : roomE 50 = 0 := by decide
  rw [hr0] at A0
  have A1 : Hid (∀ v p, At w v p Q0 0 → Calls Tryz.prog 16 #[.pointer (some ⟨p, 0, none⟩), .string ⟨#[97]⟩, .slice (some ⟨v.heap.size, 0, none⟩) 2 2] (v.alloc (.cells #[.int .u8 120, .int .u8 121] 5 (2, 3))) fun e w' => e = .returned .nilIface ∧ At w w' p Q1 9) := fun v p h => by
    have hk : Kept [] v (v.alloc (.cells (bys [120, 121]).toArray 5 (2, 3))) := (Kept.refl [] v).alloc _
    have hx := h.ax.more hk
    have := put_fine hx [97] (ao := some ⟨v.heap.size, 0, none⟩) (n := 2) (cp := 2) (d := [120, 121]) (by omega) (by decide) rfl (new_sl6 v [120, 121] (2, 3)) (by simp) (fun _ a ha => by injection ha with ha; subst ha; exact .inr ⟨Nat.le_refl _, by simp⟩) (by decide) (by decide) (by decide) (by decide) (by decide) (by decide) (by decide) (by decide)
    refine this.mono ?_
    rintro e w' ⟨rfl, hx2⟩
    refine ⟨rfl, ?_⟩
    obtain ⟨A, o, g1, g2, g3, g4⟩ := hx2
    obtain ⟨A0, o0, f1, f2, f3, f4⟩ := h
    refine ⟨A, o, g1, fun b hb => ?_, ⟨g3.os.trans (f3.os), g3.tape.trans f3.tape, g3.output.trans f3.output, Nat.le_trans f3.size (Nat.le_trans hk.size g3.size), fun i hi _ => ?_⟩, g4⟩
    · apply Classical.byContradiction
      intro hn
      exact hb (g2 b (.inl (by omega))).1
    · rw [g3.block i (Nat.lt_of_lt_of_le hi (Nat.le_trans f3.size hk.size)) (fun hn => hn (.inl hi)), hk.block i (Nat.lt_of_lt_of_le hi f3.size) (by simp)]
      exact f3.block i hi (by simp)
  have A2 : Hid (∀ v p, At w v p Q1 9 → Calls Tryz.prog 29 #[.pointer (some ⟨p, 0, none⟩), .string ⟨#[97]⟩] v fun e w' => ∃ u, e = .returned (.tuple #[u, .nilIface]) ∧ At w w' p Q2 10 ∧ OwnB w' u 2 [120, 121]) := fun v p h => by
    have := get_fine h.ax [97] (by omega) (by decide) (by decide) (by decide)
    rw [Tryz.sizeQ] at this
    refine this.mono ?_
    rintro e w' ⟨u, rfl, hx, ho⟩
    refine ⟨u, rfl, ?_, ho⟩
    obtain ⟨A, o, g1, g2, g3, g4⟩ := hx
    refine ⟨A, o, g1, fun b hb => ?_, ⟨g3.os, g3.tape, g3.output, g3.size, fun i hi _ => g3.block i hi (fun hn => hn hi)⟩, g4⟩
    apply Classical.byContradiction
    intro hn
    exact hb (g2 b (by omega)).1
  have A3 : Hid (∀ v p, At w v p Q2 10 → Calls Tryz.prog 29 #[.pointer (some ⟨p, 0, none⟩), .string ⟨#[98]⟩] v fun e w' => ∃ u, e = .returned (.tuple #[.slice none 0 0, u]) ∧ ErrV w' u opGet [98] 53 ∧ Kept [] v w') := fun v p h => by
    have hs := size_at h [98] (by decide)
    rw [q2f] at hs
    exact get_bad _ [98] _ 53 v (by decide) (by decide) (by decide) hs
  have A4 : Hid (∀ v p, At w v p Q2 10 → Calls Tryz.prog 18 #[.pointer (some ⟨p, 0, none⟩)] v fun e w' => e = .returned (.int .i64 5) ∧ w' = v) := fun v p h => by have := strokes_at h; rw [q2s] at this; exact this
  have HG := hide hg
  clear hg
  go_enter Tryz.func9, Tryz.ntmps9
  go_wp2_with (first
    | (go_at_call 28; refine A0.mono ?_; rintro e w1 ⟨v, rfl, hk1, hn1, _⟩; obtain ⟨p, rfl, hat⟩ := hn1 rfl; have H1 := hide hat; clear hat hn1 A0)
    | (go_at_call 16; refine (A1.out w1 p H1.out).mono ?_; rintro e w2 ⟨rfl, hat⟩; have H2 := hide hat; clear hat H1)
    | (go_at_call 29; have Ha := H2; refine (A2.out w2 p H2.out).mono ?_; rintro e w3 ⟨u3, rfl, hat, hu3⟩; have H3 := hide hat; have O3 := hide hu3; clear hat H2 hu3 Ha)
    | (go_at_call 29; have Ha := H3; refine (A3.out w3 p H3.out).mono ?_; rintro e w4 ⟨u4, rfl, hv4, hk4⟩; have H4 := hide (H3.out.kept hk4); have V4 := hide hv4; have hcv := run_to_str w4 u3 2 [120, 121] (O3.out.kept hk4); clear hv4 hk4 H3 Ha O3)
    | (go_at_call 18; refine (A4.out _ _ H4.out).mono ?_; rintro e w' ⟨rfl, hww⟩; obtain rfl := hww.symm)
    | (go_at_call 32; refine (says_yes u4 [103, 101, 116] [98] 53 w4 (HG.out.kept H4.out.old (by simp)) (by decide) V4.out).mono ?_; rintro e w5 ⟨rfl, hk5⟩; have K5 := hide hk5; clear hk5))
  go_ret
  exact ⟨rfl, H4.out.old.trans K5.out (by simp)⟩
end

section
open Go.RowKit Dsk
set_option linter.unusedVariables false
set_option linter.unusedSimpArgs false

def NewE (w : World) (v : Value) : Prop := ∀ t a, v = .iface t (.pointer (some a)) → w.heap.size ≤ a.block
set_option maxRecDepth 100000 in
theorem fault_new (op name : By) (n : Int) (w : World) : Calls Tryz.prog 63 #[encStr op, encStr name, .int .i64 n] w fun e w' => ∃ v, e = .returned v ∧ ErrV w' v op name n ∧ Kept [] w w' ∧ NewE w v := by
  by_cases h0 : n = 0
  · subst h0
    go_enter Tryz.func63, Tryz.ntmps63
    go_wp2
    go_ret
    exact ⟨_, rfl, .inl ⟨rfl, rfl⟩, Kept.refl [] w, fun t a h => by cases h⟩
  · have hb : (n == 0) = false := by simpa using h0
    have H0 := hide h0
    clear h0
    go_enter Tryz.func63, Tryz.ntmps63
    go_wp2
    go_ret
    exact ⟨_, rfl, .inr ⟨H0.out, w.heap.size, rfl, (MapKept.heap_alloc w _).1⟩, (Kept.refl [] w).alloc _, fun t a h => by cases h; exact Nat.le_refl _⟩

theorem drop_new {X : Nat → Prop} {wa w : World} {p : Nat} {S : Ds} {N : Nat} (h : Ax X wa w p S N) (hN : N + 2 ≤ 268435456) (name : By) (hm : name.length ≤ 4611686018427387900) :
    Calls Tryz.prog 35 #[.pointer (some ⟨p, 0, none⟩), encStr name] w fun e w' => ∃ v w3, e = .returned v ∧ ErrV w' v opDrop name (S.drop name).1 ∧ Ax X wa w3 p (S.drop name).2 (N + 3) ∧ Kept [] w3 w' ∧ NewE w3 v := by
  have c1 := fisName_ok name w (by omega)
  by_cases hn : isNm name = true
  · rw [hn] at c1
    have hrm := remove_ax h (by omega) name (by omega)
    have eD : S.drop name = if (S.remove name).1 = 0 then (S.remove name).2.syncNames else S.remove name := by rw [Ds.drop, if_pos hn]
    by_cases h0 : (S.remove name).1 = 0
    · rw [if_pos h0] at eD
      rw [eD]
      rw [h0] at hrm
      clear eD h0 h
      generalize (S.remove name).2 = S1 at hrm ⊢
      go_enter Tryz.func35, Tryz.ntmps35
      go_wp2_with (first
        | (go_at_call 73; refine c1.mono ?_; rintro e w' ⟨rfl, hww⟩; obtain rfl := hww.symm; clear c1)
        | (go_at_call 46; refine hrm.mono ?_; rintro e w1 ⟨rfl, hA1⟩; have HA1 := hide hA1; clear hrm hA1)
        | (go_at_call 50; refine (syncNames_ax HA1.out hN).mono ?_; rintro e w2 ⟨rfl, hA2⟩; have HA2 := hide hA2; clear hA2)
        | (go_at_call 63; refine (fault_new opDrop name _ _).mono ?_; rintro e w3 ⟨v, rfl, hv⟩; have HV := hide hv; clear hv))
      go_ret
      exact ⟨_, _, rfl, HV.out.1, HA2.out, HV.out.2⟩
    · rw [if_neg h0] at eD
      rw [eD]
      have hb : ((S.remove name).1 != 0) = true := by simpa using h0
      clear eD h0 h
      generalize (S.remove name).2 = S1 at hrm ⊢
      generalize (S.remove name).1 = E at hrm hb ⊢
      go_enter Tryz.func35, Tryz.ntmps35
      go_wp2_with (first
        | (go_at_call 73; refine c1.mono ?_; rintro e w' ⟨rfl, hww⟩; obtain rfl := hww.symm; clear c1)
        | (go_at_call 46; refine hrm.mono ?_; rintro e w1 ⟨rfl, hA1⟩; have HA1 := hide hA1; clear hrm hA1)
        | (go_at_call 63; refine (fault_new opDrop name _ _).mono ?_; rintro e w3 ⟨v, rfl, hv⟩; have HV := hide hv; clear hv))
      go_ret
      exact ⟨_, _, rfl, HV.out.1, HA1.out.mono (by omega), HV.out.2⟩
  · have hf : isNm name = false := by simpa using hn
    have eD : S.drop name = (51, S) := by rw [Ds.drop, if_neg hn]
    rw [eD]
    rw [hf] at c1
    have HA := hide (h.mono (M := N + 3) (by omega))
    clear eD h hn hf
    go_enter Tryz.func35, Tryz.ntmps35
    go_wp2_with (first
      | (go_at_call 73; refine c1.mono ?_; rintro e w' ⟨rfl, hww⟩; obtain rfl := hww.symm; clear c1)
      | (go_at_call 63; refine (fault_new opDrop name _ _).mono ?_; rintro e w3 ⟨v, rfl, hv⟩; have HV := hide hv; clear hv))
    go_ret
    exact ⟨_, _, rfl, HV.out.1, HA.out, HV.out.2⟩

theorem code_nil (w : World) : Calls Tryz.prog 21 #[.nilIface] w fun e w' => e = .returned (.int .i64 0) ∧ Kept [] w w' := by
  go_enter Tryz.func21, Tryz.ntmps21
  go_wp2
  go_ret
  exact ⟨rfl, by first | exact Kept.refl [] w | exact (Kept.refl [] w).alloc _⟩
theorem code_any (v : Value) (op name : By) (n : Int) (w : World) (hg : Gl w) (h : ErrV w v op name n) : Calls Tryz.prog 21 #[v] w fun e w' => e = .returned (.int .i64 n) ∧ Kept [] w w' := by
  rcases h with ⟨rfl, rfl⟩ | ⟨_, eb, rfl, h⟩
  · exact code_nil w
  · exact code_fault eb op name n w hg h

namespace Dsk
theorem away_flt (l : List (By × By)) (n : By) : flt n n (away l n) = flt n n l := by
  unfold flt away
  rw [List.filter_filter]
  apply List.filter_congr
  intro p _
  cases p.1 == n <;> rfl
theorem away_find (l : List (By × By)) (n : By) : (away l n).find? (fun f => f.1 == n) = none := by
  rw [List.find?_eq_none]
  intro p hp
  have := (List.mem_filter.1 hp).2
  simpa using this
/-- What FileDrops asks of the files that were, of what Drop answered, of the strokes, the power and the files that are there behind a crash. -/
structure Asks (was now : List (By × By)) (n : By) (E : Int) (strokes : Nat) (on : Bool) : Prop where
  done : E = 0 → (∃ f, was.find? (fun f => f.1 == n) = some f) ∧ now.find? (fun f => f.1 == n) = none ∧ strokes = 2 ∧ on = true ∧ flt n n was = flt n n now
  cut : E = 50 → (∃ f, was.find? (fun f => f.1 == n) = some f) ∧ on = false ∧ (now.find? (fun f => f.1 == n) = none ∨ now.find? (fun f => f.1 == n) = was.find? (fun f => f.1 == n)) ∧ flt n n was = flt n n now
  none : E = 53 → was.find? (fun f => f.1 == n) = none ∧ strokes = 0 ∧ was = now
  name : E = 51 → isNm n = false ∧ strokes = 0 ∧ was = now
  all : E = 0 ∨ E = 50 ∨ E = 53 ∨ E = 51
theorem find_of_get {S : Ds} {n : By} {k : Nat} (h : S.shown.get n = some k) : ∃ f, S.files.find? (fun f => f.1 == n) = some f := by
  obtain ⟨d, hd⟩ := (get_files S.shown (fun p => (S.th p.2).shown) n).1 ⟨k, h⟩
  cases hf : S.files.find? (fun f => f.1 == n) with
  | some f => exact ⟨f, rfl⟩
  | none => exact absurd (List.find?_eq_none.1 hf _ hd) (by simp)
theorem find_of_none {S : Ds} {n : By} (h : S.shown.get n = none) : S.files.find? (fun f => f.1 == n) = none := by
  rw [List.find?_eq_none]
  intro f hf he
  have hfe : f.1 = n := by simpa using he
  have := (get_files S.shown (fun p => (S.th p.2).shown) n).2 ⟨f.2, by rw [← hfe]; exact hf⟩
  obtain ⟨k, hk⟩ := this
  rw [h] at hk
  cases hk
theorem drop_asks {S : Ds} (hs : AllSafe S) (hon : S.on = true) (h0 : S.strokes = 0) (n : By) (ps : List Int) :
    Asks S.files ((S.drop n).2.crash ps).files n (S.drop n).1 (S.drop n).2.strokes (S.drop n).2.on := by
  have hd := drop_does S n
  generalize (S.drop n).1 = E at hd ⊢
  generalize (S.drop n).2 = D at hd ⊢
  have hc := drop_crash hs hd ps
  cases hd with
  | name hn => exact ⟨(fun h => absurd h (by decide)), (fun h => absurd h (by decide)), (fun h => absurd h (by decide)), fun _ => ⟨hn, h0, (hs.crash ps).symm⟩, .inr (.inr (.inr rfl))⟩
  | off hn ho => rw [hon] at ho; cases ho
  | none hn ho hg => exact ⟨(fun h => absurd h (by decide)), (fun h => absurd h (by decide)), fun _ => ⟨find_of_none hg, h0, (hs.crash ps).symm⟩, (fun h => absurd h (by decide)), .inr (.inr (.inl rfl))⟩
  | done D k hn ho hg hd hk hsf hr hsh ht =>
    rcases hc with ⟨_, hc⟩ | ⟨h, _⟩ | h
    · exact ⟨fun _ => ⟨find_of_get hg, by rw [hc]; exact away_find _ _, by omega, hd, by rw [hc, away_flt]⟩, (fun h => absurd h (by decide)), (fun h => absurd h (by decide)), (fun h => absurd h (by decide)), .inl rfl⟩
    · cases h
    · subst h; omega
  | cut D k hn ho hg hd hsf hr ht =>
    rcases hc with ⟨h, _⟩ | ⟨_, _, _, hc⟩ | h
    · cases h
    · refine ⟨(fun h => absurd h (by decide)), fun _ => ⟨find_of_get hg, hd, ?_, ?_⟩, (fun h => absurd h (by decide)), (fun h => absurd h (by decide)), .inr (.inl rfl)⟩
      · rcases hc with hc | hc
        · left; rw [hc]; exact away_find _ _
        · right; rw [hc]
      · rcases hc with hc | hc
        · rw [hc, away_flt]
        · rw [hc]
    · subst h; rw [hon] at hd; cases hd
end Dsk
end

end Go.Proofs.YtemlbmamcbmnjaaGreatDoor
