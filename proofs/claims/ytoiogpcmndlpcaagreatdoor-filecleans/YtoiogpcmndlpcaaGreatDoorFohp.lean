/-
  Drop, with where its error lies; api.Code of what it answers; what FileDrops asks, as mathematics.
-/
import Derived.Test.YtoiogpcmndlpcaaGreatDoorFogp
import Derived.Test.YtoiogpcmndlpcaaGreatDoorFnfp
namespace Go.Proofs.YtoiogpcmndlpcaaGreatDoor
open Go.RowKit Dsk
set_option linter.unusedVariables false
set_option linter.unusedSimpArgs false

def NewE (w : World) (v : Value) : Prop := ∀ t a, v = .iface t (.pointer (some a)) → w.heap.size ≤ a.block
set_option maxRecDepth 100000 in
theorem fault_new (op name : By) (n : Int) (w : World) : Calls Tryz.prog 57 #[encStr op, encStr name, .int .i64 n] w fun e w' => ∃ v, e = .returned v ∧ ErrV w' v op name n ∧ Kept [] w w' ∧ NewE w v := by
  by_cases h0 : n = 0
  · subst h0
    go_enter Tryz.func57, Tryz.ntmps57
    go_wp2
    go_ret
    exact ⟨_, rfl, .inl ⟨rfl, rfl⟩, Kept.refl [] w, fun t a h => by cases h⟩
  · have hb : (n == 0) = false := by simpa using h0
    have H0 := hide h0
    clear h0
    go_enter Tryz.func57, Tryz.ntmps57
    go_wp2
    go_ret
    exact ⟨_, rfl, .inr ⟨H0.out, w.heap.size, rfl, (MapKept.heap_alloc w _).1⟩, (Kept.refl [] w).alloc _, fun t a h => by cases h; exact Nat.le_refl _⟩

theorem drop_new {X : Nat → Prop} {wa w : World} {p : Nat} {S : Ds} {N : Nat} (h : Ax X wa w p S N) (hN : N + 2 ≤ 268435456) (name : By) (hm : name.length ≤ 4611686018427387900) :
    Calls Tryz.prog 29 #[.pointer (some ⟨p, 0, none⟩), encStr name] w fun e w' => ∃ v w3, e = .returned v ∧ ErrV w' v opDrop name (S.drop name).1 ∧ Ax X wa w3 p (S.drop name).2 (N + 3) ∧ Kept [] w3 w' ∧ NewE w3 v := by
  have c1 := fisName_ok name w (by omega)
  by_cases hn : isNm name = true
  · rw [hn] at c1
    have hrm := remove_ax h (by omega) name (by omega)
    have eD : S.drop name = if (S.remove name).1 = 0 then (S.remove name).2.syncNames else S.remove name := by rw [Ds.drop, if_pos hn]
    by_cases h0 : (S.remove name).1 = 0
    · rw [if_pos h0] at eD
      rw [eD]
      rw [h0] at hrm
      clear eD h0 h
      generalize (S.remove name).2 = S1 at hrm ⊢
      go_enter Tryz.func29, Tryz.ntmps29
      go_wp2_with (first
        | (go_at_call 68; refine c1.mono ?_; rintro e w' ⟨rfl, hww⟩; obtain rfl := hww.symm; clear c1)
        | (go_at_call 40; refine hrm.mono ?_; rintro e w1 ⟨rfl, hA1⟩; have HA1 := hide hA1; clear hrm hA1)
        | (go_at_call 44; refine (syncNames_ax HA1.out hN).mono ?_; rintro e w2 ⟨rfl, hA2⟩; have HA2 := hide hA2; clear hA2)
        | (go_at_call 57; refine (fault_new opDrop name _ _).mono ?_; rintro e w3 ⟨v, rfl, hv⟩; have HV := hide hv; clear hv))
      go_ret
      exact ⟨_, _, rfl, HV.out.1, HA2.out, HV.out.2⟩
    · rw [if_neg h0] at eD
      rw [eD]
      have hb : ((S.remove name).1 != 0) = true := by simpa using h0
      clear eD h0 h
      generalize (S.remove name).2 = S1 at hrm ⊢
      generalize (S.remove name).1 = E at hrm hb ⊢
      go_enter Tryz.func29, Tryz.ntmps29
      go_wp2_with (first
        | (go_at_call 68; refine c1.mono ?_; rintro e w' ⟨rfl, hww⟩; obtain rfl := hww.symm; clear c1)
        | (go_at_call 40; refine hrm.mono ?_; rintro e w1 ⟨rfl, hA1⟩; have HA1 := hide hA1; clear hrm hA1)
        | (go_at_call 57; refine (fault_new opDrop name _ _).mono ?_; rintro e w3 ⟨v, rfl, hv⟩; have HV := hide hv; clear hv))
      go_ret
      exact ⟨_, _, rfl, HV.out.1, HA1.out.mono (by omega), HV.out.2⟩
  · have hf : isNm name = false := by simpa using hn
    have eD : S.drop name = (51, S) := by rw [Ds.drop, if_neg hn]
    rw [eD]
    rw [hf] at c1
    have HA := hide (h.mono (M := N + 3) (by omega))
    clear eD h hn hf
    go_enter Tryz.func29, Tryz.ntmps29
    go_wp2_with (first
      | (go_at_call 68; refine c1.mono ?_; rintro e w' ⟨rfl, hww⟩; obtain rfl := hww.symm; clear c1)
      | (go_at_call 57; refine (fault_new opDrop name _ _).mono ?_; rintro e w3 ⟨v, rfl, hv⟩; have HV := hide hv; clear hv))
    go_ret
    exact ⟨_, _, rfl, HV.out.1, HA.out, HV.out.2⟩

theorem code_nil (w : World) : Calls Tryz.prog 19 #[.nilIface] w fun e w' => e = .returned (.int .i64 0) ∧ Kept [] w w' := by
  go_enter Tryz.func19, Tryz.ntmps19
  go_wp2
  go_ret
  exact ⟨rfl, by first | exact Kept.refl [] w | exact (Kept.refl [] w).alloc _⟩
theorem code_any (v : Value) (op name : By) (n : Int) (w : World) (hg : Gl w) (h : ErrV w v op name n) : Calls Tryz.prog 19 #[v] w fun e w' => e = .returned (.int .i64 n) ∧ Kept [] w w' := by
  rcases h with ⟨rfl, rfl⟩ | ⟨_, eb, rfl, h⟩
  · exact code_nil w
  · exact code_fault eb op name n w hg h

namespace Dsk
theorem away_flt (l : List (By × By)) (n : By) : flt n n (away l n) = flt n n l := by
  unfold flt away
  rw [List.filter_filter]
  apply List.filter_congr
  intro p _
  cases p.1 == n <;> rfl
theorem away_find (l : List (By × By)) (n : By) : (away l n).find? (fun f => f.1 == n) = none := by
  rw [List.find?_eq_none]
  intro p hp
  have := (List.mem_filter.1 hp).2
  simpa using this
/-- What FileDrops asks of the files that were, of what Drop answered, of the strokes, the power and the files that are there behind a crash. -/
structure Asks (was now : List (By × By)) (n : By) (E : Int) (strokes : Nat) (on : Bool) : Prop where
  done : E = 0 → (∃ f, was.find? (fun f => f.1 == n) = some f) ∧ now.find? (fun f => f.1 == n) = none ∧ strokes = 2 ∧ on = true ∧ flt n n was = flt n n now
  cut : E = 50 → (∃ f, was.find? (fun f => f.1 == n) = some f) ∧ on = false ∧ (now.find? (fun f => f.1 == n) = none ∨ now.find? (fun f => f.1 == n) = was.find? (fun f => f.1 == n)) ∧ flt n n was = flt n n now
  none : E = 53 → was.find? (fun f => f.1 == n) = none ∧ strokes = 0 ∧ was = now
  name : E = 51 → isNm n = false ∧ strokes = 0 ∧ was = now
  all : E = 0 ∨ E = 50 ∨ E = 53 ∨ E = 51
theorem find_of_get {S : Ds} {n : By} {k : Nat} (h : S.shown.get n = some k) : ∃ f, S.files.find? (fun f => f.1 == n) = some f := by
  obtain ⟨d, hd⟩ := (get_files S.shown (fun p => (S.th p.2).shown) n).1 ⟨k, h⟩
  cases hf : S.files.find? (fun f => f.1 == n) with
  | some f => exact ⟨f, rfl⟩
  | none => exact absurd (List.find?_eq_none.1 hf _ hd) (by simp)
theorem find_of_none {S : Ds} {n : By} (h : S.shown.get n = none) : S.files.find? (fun f => f.1 == n) = none := by
  rw [List.find?_eq_none]
  intro f hf he
  have hfe : f.1 = n := by simpa using he
  have := (get_files S.shown (fun p => (S.th p.2).shown) n).2 ⟨f.2, by rw [← hfe]; exact hf⟩
  obtain ⟨k, hk⟩ := this
  rw [h] at hk
  cases hk
theorem drop_asks {S : Ds} (hs : AllSafe S) (hon : S.on = true) (h0 : S.strokes = 0) (n : By) (ps : List Int) :
    Asks S.files ((S.drop n).2.crash ps).files n (S.drop n).1 (S.drop n).2.strokes (S.drop n).2.on := by
  have hd := drop_does S n
  generalize (S.drop n).1 = E at hd ⊢
  generalize (S.drop n).2 = D at hd ⊢
  have hc := drop_crash hs hd ps
  cases hd with
  | name hn => exact ⟨(fun h => absurd h (by decide)), (fun h => absurd h (by decide)), (fun h => absurd h (by decide)), fun _ => ⟨hn, h0, (hs.crash ps).symm⟩, .inr (.inr (.inr rfl))⟩
  | off hn ho => rw [hon] at ho; cases ho
  | none hn ho hg => exact ⟨(fun h => absurd h (by decide)), (fun h => absurd h (by decide)), fun _ => ⟨find_of_none hg, h0, (hs.crash ps).symm⟩, (fun h => absurd h (by decide)), .inr (.inr (.inl rfl))⟩
  | done D k hn ho hg hd hk hsf hr hsh ht =>
    rcases hc with ⟨_, hc⟩ | ⟨h, _⟩ | h
    · exact ⟨fun _ => ⟨find_of_get hg, by rw [hc]; exact away_find _ _, by omega, hd, by rw [hc, away_flt]⟩, (fun h => absurd h (by decide)), (fun h => absurd h (by decide)), (fun h => absurd h (by decide)), .inl rfl⟩
    · cases h
    · subst h; omega
  | cut D k hn ho hg hd hsf hr ht =>
    rcases hc with ⟨h, _⟩ | ⟨_, _, _, hc⟩ | h
    · cases h
    · refine ⟨(fun h => absurd h (by decide)), fun _ => ⟨find_of_get hg, hd, ?_, ?_⟩, (fun h => absurd h (by decide)), (fun h => absurd h (by decide)), .inr (.inl rfl)⟩
      · rcases hc with hc | hc
        · left; rw [hc]; exact away_find _ _
        · right; rw [hc]
      · rcases hc with hc | hc
        · rw [hc, away_flt]
        · rw [hc]
    · subst h; rw [hon] at hd; cases hd
end Dsk
end Go.Proofs.YtoiogpcmndlpcaaGreatDoor
