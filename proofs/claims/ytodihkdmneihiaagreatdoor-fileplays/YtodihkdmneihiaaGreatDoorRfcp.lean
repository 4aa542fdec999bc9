import Derived.Test.YtodihkdmneihiaaGreatDoorFrap
import Derived.Test.YtodihkdmneihiaaGreatDoorRfap
import Derived.Test.YtodihkdmneihiaaGreatDoorHop
import Derived.Test.YtodihkdmneihiaaGreatDoorFpap
import Derived.Deep.RegionHeld
import Derived.Test.YtodihkdmneihiaaGreatDoorFohp
namespace Go.Proofs.YtodihkdmneihiaaGreatDoor
section
open Go.RowKit Dsk
set_option linter.unusedVariables false
set_option linter.unusedSimpArgs false
def Twr (X : Nat → Prop) (w : World) (p : Nat) (S : Ds) (N : Nat) (q : Nat) (T : Ds) (M : Nat) : Prop :=
 ∃ A o A' o', PD w p S A o ∧ RD w q T A' o' ∧ (∀ b, o b ≠ 0 → o' b = 0) ∧ (∀ b, X b → o b = 0 ∧ o' b = 0 ∧ b < w.heap.size) ∧ S.Bd N ∧ T.Bd M
section
variable {X : Nat → Prop} {w : World} {p : Nat} {S : Ds} {N : Nat} {q : Nat} {T : Ds} {M : Nat}
theorem Twr.one (h : Twr X w p S N q T M) : ∃ Y, (∀ b, X b → Y b) ∧ Ax Y w w p S N ∧ ∀ w' S' N', Ax Y w w' p S' N' → Twr X w' p S' N' q T M ∧ Keep (fun b => ¬ X b) w w' := by
 obtain ⟨A, o, A', o', h1, h2, h3, h4, h5, h6⟩ := h
 refine ⟨fun b => X b ∨ o' b ≠ 0, fun _ h => .inl h, ⟨A, o, h1, fun b hb => ?_, Keep.refl _ _, h5⟩, fun w' S' N' hY => ?_⟩
 ·rcases hb with hb | hb
  ·exact ⟨(h4 b hb).1, (h4 b hb).2.2⟩
  ·exact ⟨Classical.byContradiction fun hn => hb (h3 b hn), h2.lim b hb⟩
 ·obtain ⟨A2, o2, g1, g2, g3, g4⟩ := hY
  refine ⟨⟨A2, o2, A', o', g1, h2.keep g3 (fun b hb hn => hn (.inr hb)), fun b hb => Classical.byContradiction fun hn => hb (g2 b (.inr hn)).1, fun b hb => ⟨(g2 b (.inl hb)).1, (h4 b hb).2.1, Nat.lt_of_lt_of_le (h4 b hb).2.2 g3.size⟩, g4, h6⟩, g3.mono (fun b hb _ hx => hb (.inl hx))⟩
theorem Twr.two (h : Twr X w p S N q T M) : ∃ A' o', RD w q T A' o' ∧ (∀ b, X b → o' b = 0 ∧ b < w.heap.size) ∧ ∀ w' T' M', RAft w w' q T' o' → T'.Bd M' → Twr X w' p S N q T' M' ∧ Keep (fun b => ¬ X b) w w' := by
 obtain ⟨A, o, A', o', h1, h2, h3, h4, h5, h6⟩ := h
 refine ⟨A', o', h2, fun b hb => (h4 b hb).2, fun w' T' M' hR hb' => ?_⟩
 obtain ⟨A2, o2, g1, g2, g3⟩ := hR
 have hm : ∀ b, o b ≠ 0 → ¬ o'.mine b := fun b hb hm => hm (h3 b hb)
 refine ⟨⟨A, o, A2, o2, h1.keep g3 hm, g1, fun b hb => Classical.byContradiction fun hn => ?_, fun b hb => ⟨(h4 b hb).1, Classical.byContradiction fun hn => g2 b (h4 b hb).2.2 hn (h4 b hb).2.1, Nat.lt_of_lt_of_le (h4 b hb).2.2 g3.size⟩, h5, hb'⟩, g3.mono (fun b hm _ hx => hm (h4 b hx).2.1)⟩
 exact g2 b (h1.lim hb) hn (h3 b hb)
theorem Twr.kept {w' : World} (h : Twr X w p S N q T M) (hk : Kept [] w w') : Twr X w' p S N q T M := by
 obtain ⟨Y, _, h1, h2⟩ := h.one
 exact (h2 w' S N (h1.kept hk)).1
theorem Twr.wf1 (h : Twr X w p S N q T M) : S.Wf := by obtain ⟨Y, _, h1, _⟩ := h.one; exact h1.wf
theorem Twr.bd1 (h : Twr X w p S N q T M) : S.Bd N := by obtain ⟨Y, _, h1, _⟩ := h.one; exact h1.bd
theorem Twr.mono {N' M' : Nat} (h : Twr X w p S N q T M) (hn : N ≤ N') (hm : M ≤ M') : Twr X w p S N' q T M' := by
 obtain ⟨A, o, A', o', h1, h2, h3, h4, h5, h6⟩ := h
 exact ⟨A, o, A', o', h1, h2, h3, h4, h5.mono hn, h6.mono hm⟩
theorem Twr.less {Y : Nat → Prop} (h : Twr X w p S N q T M) (hY : ∀ b, Y b → X b) : Twr Y w p S N q T M := by
 obtain ⟨A, o, A', o', h1, h2, h3, h4, h5, h6⟩ := h
 exact ⟨A, o, A', o', h1, h2, h3, fun b hb => h4 b (hY b hb), h5, h6⟩
theorem Twr.free (h : Twr X w p S N q T M) {w' : World} {Y F : Nat → Prop} (hk : Keep F w w') (hF : ∀ b, b < w.heap.size → F b → X b) (hY : ∀ b, Y b → (X b ∨ w.heap.size ≤ b) ∧ b < w'.heap.size) : Twr Y w' p S N q T M := by
 obtain ⟨A, o, A', o', h1, h2, h3, h4, h5, h6⟩ := h
 have n1 : ∀ b, w.heap.size ≤ b → o b = 0 := fun b hb => Classical.byContradiction fun hn => by have := h1.lim hn; omega
 have n2 : ∀ b, w.heap.size ≤ b → o' b = 0 := fun b hb => Classical.byContradiction fun hn => by have := h2.lim b hn; omega
 refine ⟨A, o, A', o', h1.keep hk (fun b hb hf => hb (h4 b (hF b (h1.lim hb) hf)).1), h2.keep hk (fun b hb hf => hb (h4 b (hF b (h2.lim b hb) hf)).2.1), h3, fun b hb => ?_, h5, h6⟩
 obtain ⟨h7, h8⟩ := hY b hb
 rcases h7 with h7 | h7
 ·exact ⟨(h4 b h7).1, (h4 b h7).2.1, h8⟩
 ·exact ⟨n1 b h7, n2 b h7, h8⟩
end
theorem Keep.frozen {F : Nat → Prop} {w w' : World} (h : Keep F w w') {p : Addr} (hp : p.block < w.heap.size) (hn : ¬ F p.block) : w'.frozen? p = w.frozen? p := World.frozen?_of_block (w := w) (h.block p.block hp hn)
end

section
open Go.RowKit Dsk
set_option linter.unusedVariables false
set_option linter.unusedSimpArgs false
namespace Dsk
def Ds.getE (S : Ds) (n : By) : Int := if isNm n = true then (S.find n).1 else 51
def Ds.getB (S : Ds) (n : By) : By := if S.getE n = 0 then S.readBytes n 0 (S.size n) else []
def Ds.getD (S : Ds) (n : By) : Ds := if S.getE n = 0 then S.read n 0 (S.size n) else S
theorem readOk_all {S : Ds} {n : By} (h : (S.find n).1 = 0) : S.readOk n 0 (S.size n) = 0 := by
 have hz : S.size n = ((S.th (S.find n).2).shown.length : Int) := by unfold Ds.size; rw [if_neg (by simpa using h)]
 unfold Ds.readOk
 rw [hz, if_neg (by simpa using h)]
 exact if_neg (by omega)
end Dsk
section
variable {X : Nat → Prop} {wa w w' : World} {q : Nat} {T : Ds} {M : Nat}
set_option maxHeartbeats 1600000 in
set_option maxRecDepth 100000 in
theorem rget_rx (h : Rx X wa w q T M) (hM : M ≤ 268435456) (n : By) (hn : n.length ≤ 4611686018427387900) :
  Calls Tryz.prog 17 #[.pointer (some ⟨q, 0, none⟩), encStr n] w fun e w' => ∃ v, e = .returned (.tuple #[v, .int .i64 (T.getE n)]) ∧ Rx X wa w' q (T.getD n) (M + 1) ∧ OwnB w' v (T.getB n).length (T.getB n) := by
 have HX0 := hide h
 have c1 := rIsName_ok n w (by omega)
 have c2 := size_rx h hM n (by omega)
 by_cases hp : isNm n = true
 ·rw [hp] at c1
  by_cases hf : (T.find n).1 = 0
  ·have hE : T.getE n = 0 := by unfold Ds.getE; rw [if_pos hp, hf]
   have hD : T.getD n = T.read n 0 (T.size n) := by unfold Ds.getD; rw [if_pos hE]
   have hB : T.getB n = T.readBytes n 0 (T.size n) := by unfold Ds.getB; rw [if_pos hE]
   have hz : T.size n = ((T.th (T.find n).2).shown.length : Int) := by unfold Ds.size; rw [if_neg (by simpa using hf)]
   have hlen : (T.th (T.find n).2).shown.length ≤ M := by
    obtain ⟨i, hp2, hi, hti, hlv, hon, hnx⟩ := find0 h.wf hf
    exact h.bd.len h.wf hnx
   have c3 := read_rx h hM n (by omega) 0 (T.size n) (by decide) (by rw [hz]; exact WalkArith.wf_i64 (by omega))
   rw [readOk_all hf] at c3
   rw [hE, hD, hB]
   rw [hf] at c2
   generalize T.size n = z at *
   clear h hE hD hB hz hlen hf hp
   go_enter Tryz.func17, Tryz.ntmps17
   go_wp2_with (first
    | (go_at_call 62; refine c1.mono ?_; rintro e w' ⟨rfl, hww⟩; obtain rfl := hww.symm; clear c1)
    | (go_at_call 63; refine c2.mono ?_; rintro e w' ⟨rfl, hww⟩; obtain rfl := hww.symm; clear c2)
    | (go_at_call 64; refine c3.mono ?_; rintro e w2 ⟨v, rfl, hx, ho, _⟩; have HX2 := hide (And.intro hx ho); clear hx ho c3))
   go_ret2
   exact ⟨v, rfl, HX2.out⟩
  ·have hE : T.getE n = (T.find n).1 := by unfold Ds.getE; rw [if_pos hp]
   have hD : T.getD n = T := by unfold Ds.getD; rw [if_neg (by rw [hE]; exact hf)]
   have hB : T.getB n = [] := by unfold Ds.getB; rw [if_neg (by rw [hE]; exact hf)]
   rw [hE, hD, hB]
   generalize (T.find n).1 = E at *
   generalize T.size n = z at *
   have e0 : (E == 0) = false := by simpa using hf
   have e1 : (E != 0) = true := by simpa using hf
   clear h hE hD hB hf hp
   go_enter Tryz.func17, Tryz.ntmps17
   go_wp2_with (first
    | (go_at_call 62; refine c1.mono ?_; rintro e w' ⟨rfl, hww⟩; obtain rfl := hww.symm; clear c1)
    | (go_at_call 63; refine c2.mono ?_; rintro e w' ⟨rfl, hww⟩; obtain rfl := hww.symm; clear c2))
   go_ret2
   exact ⟨_, rfl, HX0.out.mono (by omega), rfl, .inl ⟨rfl, rfl⟩⟩
 ·have hp' : isNm n = false := by simpa using hp
  have hE : T.getE n = 51 := by unfold Ds.getE; rw [if_neg hp]
  have hD : T.getD n = T := by unfold Ds.getD; rw [if_neg (by rw [hE]; decide)]
  have hB : T.getB n = [] := by unfold Ds.getB; rw [if_neg (by rw [hE]; decide)]
  rw [hp'] at c1
  rw [hE, hD, hB]
  clear h hp hE hD hB c2
  go_enter Tryz.func17, Tryz.ntmps17
  go_wp2_with (go_at_call 62; refine c1.mono ?_; rintro e w' ⟨rfl, hww⟩; obtain rfl := hww.symm; clear c1)
  go_ret2
  exact ⟨_, rfl, HX0.out.mono (by omega), rfl, .inl ⟨rfl, rfl⟩⟩
end
section
variable {X : Nat → Prop} {w : World} {p : Nat} {S : Ds} {N : Nat} {q : Nat} {T : Ds} {M : Nat}
theorem Twr.rx (h : Twr X w p S N q T M) : ∃ Y, (∀ b, X b → Y b) ∧ Rx Y w w q T M ∧ ∀ w' T' M', Rx Y w w' q T' M' → Twr X w' p S N q T' M' ∧ Keep (fun b => ¬ X b) w w' := by
 obtain ⟨A, o, A', o', h1, h2, h3, h4, h5, h6⟩ := h
 refine ⟨fun b => X b ∨ o b ≠ 0, fun _ h => .inl h, ⟨A', o', h2, fun b hb => ?_, Keep.refl _ _, h6⟩, fun w' T' M' hY => ?_⟩
 ·rcases hb with hb | hb
  ·exact ⟨(h4 b hb).2.1, (h4 b hb).2.2⟩
  ·exact ⟨h3 b hb, h1.lim hb⟩
 ·obtain ⟨A2, o2, g1, g2, g3, g4⟩ := hY
  refine ⟨⟨A, o, A2, o2, h1.keep g3 (fun b hb hn => hn (.inr hb)), g1, fun b hb => (g2 b (.inr hb)).1, fun b hb => ⟨(h4 b hb).1, (g2 b (.inl hb)).1, Nat.lt_of_lt_of_le (h4 b hb).2.2 g3.size⟩, h5, g4⟩, g3.mono (fun b hb _ hx => hb (.inl hx))⟩
structure Pz (X : Nat → Prop) (w : World) (P p q : Nat) (S : Ds) (N : Nat) (T : Ds) (M : Nat) : Prop where
 tw : Twr (fun b => X b ∨ b = P) w p S N q T M
 cell : w.heap[P]? = some (.cells #[.pointer (some ⟨p, 0, none⟩), .pointer (some ⟨q, 0, none⟩)] 44 (0, 0))
theorem Pz.one {P : Nat} (h : Pz X w P p q S N T M) : ∃ Y, (∀ b, X b → Y b) ∧ Ax Y w w p S N ∧ ∀ w' S' N', Ax Y w w' p S' N' → Pz X w' P p q S' N' T M ∧ Keep (fun b => ¬ (X b ∨ b = P)) w w' := by
 obtain ⟨Y, hY, h1, h2⟩ := h.tw.one
 refine ⟨Y, fun b hb => hY b (.inl hb), h1, fun w' S' N' ha => ?_⟩
 obtain ⟨h3, h4⟩ := h2 w' S' N' ha
 exact ⟨⟨h3, h4.heapOf h.cell (fun hn => hn (.inr rfl))⟩, h4⟩
theorem Pz.two {P : Nat} (h : Pz X w P p q S N T M) : ∃ Y, (∀ b, X b → Y b) ∧ Rx Y w w q T M ∧ ∀ w' T' M', Rx Y w w' q T' M' → Pz X w' P p q S N T' M' ∧ Keep (fun b => ¬ (X b ∨ b = P)) w w' := by
 obtain ⟨Y, hY, h1, h2⟩ := h.tw.rx
 refine ⟨Y, fun b hb => hY b (.inl hb), h1, fun w' T' M' ha => ?_⟩
 obtain ⟨h3, h4⟩ := h2 w' T' M' ha
 exact ⟨⟨h3, h4.heapOf h.cell (fun hn => hn (.inr rfl))⟩, h4⟩
theorem Pz.kept {P : Nat} {w' : World} (h : Pz X w P p q S N T M) (hk : Kept [] w w') : Pz X w' P p q S N T M :=
 ⟨h.tw.kept hk, (Keep.ofNone (F := fun _ => False) hk).heapOf h.cell (fun h => h)⟩
theorem Pz.mono {P N' M' : Nat} (h : Pz X w P p q S N T M) (hn : N ≤ N') (hm : M ≤ M') : Pz X w P p q S N' T M' := ⟨h.tw.mono hn hm, h.cell⟩
theorem Pz.less {P : Nat} {Y : Nat → Prop} (h : Pz X w P p q S N T M) (hY : ∀ b, Y b → X b) : Pz Y w P p q S N T M := ⟨h.tw.less (fun b hb => hb.imp (hY b) id), h.cell⟩
end
end

section
open Go.RowKit Dsk
set_option linter.unusedVariables false
set_option linter.unusedSimpArgs false
theorem size_allocz (w : World) (o : Obj) : (w.alloc o).heap.size = w.heap.size + 1 := by
 show (w.heap.push o).size = _
 simp
theorem Pz.new {X : Nat → Prop} {w w1 w2 w4 : World} {p q : Nat} {S : Ds} {A A' : Nat → Nat} {o o' : Lab} (hX : ∀ b, X b → b < w.heap.size) (hp : PD w1 p S A o) (ho : ∀ b, o b ≠ 0 → w.heap.size ≤ b) (hk1 : Kept [] w w1) (hq : RD w2 q S A' o') (ho' : ∀ b, o' b ≠ 0 → w1.heap.size ≤ b) (hk2 : Kept [] w1 w2) (hb : S.Bd 0)
  (hw4 : w4 = w2.alloc (.cells #[.pointer (some ⟨p, 0, none⟩), .pointer (some ⟨q, 0, none⟩)] 44)) :
  Pz X w4 w2.heap.size p q S 0 S 0 ∧ Kept [] w w4 := by
 have hP4 : w4.heap[w2.heap.size]? = some (.cells #[.pointer (some ⟨p, 0, none⟩), .pointer (some ⟨q, 0, none⟩)] 44 (0, 0)) := by rw [hw4]; exact (MapKept.heap_alloc w2 _).1
 have s4 : w4.heap.size = w2.heap.size + 1 := by rw [hw4]; exact size_allocz _ _
 have k24 : Kept [] w2 w4 := by rw [hw4]; exact (Kept.refl [] w2).alloc _
 have k14 := hk2.trans k24 (by simp)
 have z1 := hk1.size
 have z2 := hk2.size
 have hlo : ∀ b, o b ≠ 0 → b < w1.heap.size := fun b hb => hp.lim hb
 have hlo' : ∀ b, o' b ≠ 0 → b < w2.heap.size := fun b hb => hq.lim b hb
 refine ⟨⟨⟨A, o, A', o', hp.keep (Keep.ofNone (F := fun _ => False) k14) (fun _ _ h => h), hq.kept k24, fun b hb => Classical.byContradiction fun hn => ?_, fun b hb => ?_, hb, hb⟩, hP4⟩, hk1.trans k14 (by simp)⟩
 ·have := hlo b hb; have := ho' b hn; omega
 ·have e0 : ∀ b, b < w.heap.size ∨ w2.heap.size ≤ b → o b = 0 ∧ o' b = 0 := fun b hb => ⟨Classical.byContradiction fun hn => by have := ho b hn; have := hlo b hn; omega, Classical.byContradiction fun hn => by have := ho' b hn; have := hlo' b hn; omega⟩
  rcases hb with hb | hb
  ·have := hX b hb
   exact ⟨(e0 b (.inl this)).1, (e0 b (.inl this)).2, by omega⟩
  ·exact ⟨(e0 b (.inr (by omega))).1, (e0 b (.inr (by omega))).2, by omega⟩
set_option maxHeartbeats 1600000 in
set_option maxRecDepth 100000 in
theorem made6_ok (r : Int) (w : World) (hr : (Lit.int .i64 r).wf = true) (h0 : roomE r = 0) : Calls Tryz.prog 4 #[.int .i64 r] w fun e w' => ∃ P p q, e = .returned (.tuple #[.pointer (some ⟨P, 0, none⟩), .bool true]) ∧ Kept [] w w' ∧ w.heap.size ≤ P ∧ ∀ X : Nat → Prop, (∀ b, X b → b < w.heap.size) → Pz X w' P p q (Ds.fresh r.toNat) 0 (Ds.fresh r.toNat) 0 := by
 have hn1 := new_ok r w hr
 rw [h0] at hn1
 have HE := hide h0
 have hn1 : Calls Tryz.prog 10 #[.int .i64 r] w fun e w' => ∃ p, e = .returned (.tuple #[.pointer (some ⟨p, 0, none⟩), .int .i64 0]) ∧ ∃ A o, PD w' p (Ds.fresh r.toNat) A o ∧ (∀ b, o b ≠ 0 → w.heap.size ≤ b) ∧ Kept [] w w' := hn1.mono (by
  rintro e w' ⟨v, rfl, h1, _, h3⟩
  obtain ⟨p, A, o, rfl, h4, h5⟩ := h1 HE.out
  exact ⟨p, rfl, A, o, h4, h5, h3⟩)
 have hn2 := fun v => rnew_ok r v h0
 clear h0
 go_enter Tryz.func4, Tryz.ntmps4
 go_upto_region 3 with (first
  | (go_at_call 10; refine hn1.mono ?_; rintro e w1 ⟨p, rfl, h1⟩; have H1 := hide h1; clear hn1 h1)
  | (go_at_call 11; refine (hn2 _).mono ?_; rintro e w2 ⟨q, rfl, h2⟩; have H2 := hide h2; clear hn2 h2))
 go_wp2
 go_ret2
 obtain ⟨A, o, h1, h2, h3⟩ := H1.out
 obtain ⟨A', o', g1, g2, g3⟩ := H2.out
 refine ⟨_, p, q, rfl, (Pz.new (X := fun _ => False) (fun _ h => h.elim) h1 h2 h3 g1 g2 g3 (Ds.Bd.fresh _) rfl).2, Nat.le_trans h3.size g3.size, fun X hX => (Pz.new hX h1 h2 h3 g1 g2 g3 (Ds.Bd.fresh _) rfl).1⟩
section
variable {X : Nat → Prop} {wa w w' : World} {q : Nat} {T : Ds} {M : Nat}
theorem rsafe_rx (h : Rx X wa w q T M) (hM : M ≤ 268435456) : Calls Tryz.prog 48 #[.pointer (some ⟨q, 0, none⟩)] w fun e w' => ∃ v vs, e = .returned v ∧ Fls w' w.heap.size v T.safeFiles vs ∧ Kept [] w w' := by
 obtain ⟨A, o, ⟨hwf, nv, bv, tv, sv, hx⟩, ho, hw, hb⟩ := h
 have hs1 : T.safe.length ≤ M := by have := hb.nm; omega
 have hs2 : ∀ p ∈ T.safe, (T.th p.2).safe.length ≤ M := fun p hp => by
  have := hb.th p.2 (hwf.lt p.2 (Ds.safe_lives hp))
  omega
 refine (rsafe_ok hx (fun p hp => Ds.safe_lives hp) (by omega) (fun p hp => by have := hs2 p hp; omega)).mono ?_
 rintro e w' ⟨v, rfl, ⟨vs, h1⟩, h2⟩
 exact ⟨v, vs, rfl, h1, h2⟩
end
end

section
open Go
set_option linter.unusedVariables false
set_option linter.unusedSimpArgs false
structure Ro where
 dst : Option Nat
 looks : List Nat
 aft : List Nat
def roOf (md : Region.Mode) (ops : Array Oper) (o : Oper) : Ro := ⟨o.dst, o.looksAt ops, (o.after.toList.filter (Region.binds md)).map (·.on)⟩
def bitq (m i : Nat) : Bool := !(Nat.beq (Nat.land (Nat.shiftRight m i) 1) 0)
def inq (x : Nat) : List Nat → Bool
 | [] => false
 | y :: l => Nat.beq x y || inq x l
def allq (m : Nat) : List Nat → Bool
 | [] => true
 | y :: l => bitq m y && allq m l
def aptq (x y : Ro) : Bool :=
 (match x.dst with
   | some d => !inq d y.looks && (match y.dst with | some e => !Nat.beq e d | none => true)
   | none => true) &&
 (match y.dst with
   | some d => !inq d x.looks
   | none => true)
def frq (m i : Nat) (x : Ro) : Nat → List Ro → Bool
 | _, [] => true
 | j, y :: l => (Nat.beq j i || bitq m j || inq i y.aft || aptq x y) && frq m i x (j + 1) l
def rdq (m j : Nat) (y : Ro) : Bool := !bitq m j && allq m y.aft
def onq (m i : Nat) : Nat → List Ro → Bool
 | _, [] => true
 | j, y :: l => (match Nat.beq j i with | true => rdq m j y | false => !rdq m j y) && onq m i (j + 1) l
def upq (m : Nat) : Nat → List Ro → Bool
 | _, [] => true
 | j, _ :: l => bitq m j && upq m (j + 1) l
def chkq (D : List Ro) : List (Bool × Nat) → Nat → Bool
 | [], m => upq m 0 D
 | (b, i) :: r, m => (match D[i]? with
   | none => false
   | some x => match b with
    | false => frq m i x 0 D && rdq m i x
    | true => onq m i 0 D) && chkq D r (Nat.lor m (Nat.shiftLeft 1 i))
theorem bitq_eq (m i : Nat) : bitq m i = m.testBit i := by
 show (!(Nat.beq ((m >>> i) &&& 1) 0)) = _
 rw [Nat.testBit, Nat.and_comm]
 cases h : (1 &&& (m >>> i)) <;> rfl
theorem bitq_set (m i j : Nat) : bitq (Nat.lor m (Nat.shiftLeft 1 i)) j = (bitq m j || decide (i = j)) := by
 rw [bitq_eq, bitq_eq]
 show (m ||| (1 <<< i)).testBit j = _
 rw [Nat.testBit_or, Nat.one_shiftLeft, Nat.testBit_two_pow]
theorem bitq_zero (j : Nat) : bitq 0 j = false := by rw [bitq_eq]; simp
theorem inq_iff (x : Nat) : ∀ l : List Nat, inq x l = true ↔ x ∈ l
 | [] => by simp [inq]
 | y :: l => by simp [inq, inq_iff x l]
theorem allq_iff (m : Nat) : ∀ l : List Nat, allq m l = true ↔ ∀ e ∈ l, bitq m e = true
 | [] => by simp [allq]
 | y :: l => by simp [allq, allq_iff m l]
section
variable {P : Program} {ops : Array Oper} {Q : Exit → Act → World → Prop} {md : Region.Mode} {S : World → Prop}
theorem aptq_apart {x y : Oper} (h : aptq (roOf md ops x) (roOf md ops y) = true) : x.apart ops y = true := by
 have hin : ∀ d l, inq d l = l.contains d := fun d l => by
  cases h1 : inq d l with
  | true => exact (List.contains_iff_mem.2 ((inq_iff d l).1 h1)).symm
  | false =>
   cases h2 : l.contains d with
   | false => rfl
   | true => rw [(inq_iff d l).2 (List.contains_iff_mem.1 h2)] at h1; cases h1
 simp only [aptq, roOf, hin] at h
 unfold Oper.apart
 rcases hx : x.dst with _ | d <;> rcases hy : y.dst with _ | e <;> simp only [hx, hy] at h ⊢
 ·simp
 ·simpa using h
 ·simpa using h
 ·have he : (some e != some d) = !Nat.beq e d := by
   cases h1 : Nat.beq e d with
   | true => simp [Nat.eq_of_beq_eq_true h1]
   | false => simp [Nat.ne_of_beq_eq_false h1]
  rw [he]; exact h
theorem frq_at {m i : Nat} {x : Ro} : ∀ {l : List Ro} {k j : Nat} {y : Ro}, frq m i x k l = true → l[j]? = some y → (Nat.beq (k + j) i || bitq m (k + j) || inq i y.aft || aptq x y) = true
 | z :: l, k, 0, y, h, hj => by
  simp only [frq, Bool.and_eq_true] at h
  simp at hj; subst hj
  exact h.1
 | z :: l, k, j + 1, y, h, hj => by
  simp only [frq, Bool.and_eq_true] at h
  have := frq_at (k := k + 1) (j := j) h.2 (by simpa using hj)
  rwa [show k + 1 + j = k + (j + 1) by omega] at this
theorem onq_at {m i : Nat} : ∀ {l : List Ro} {k j : Nat} {y : Ro}, onq m i k l = true → l[j]? = some y → (rdq m (k + j) y = true ↔ k + j = i)
 | z :: l, k, 0, y, h, hj => by
  simp only [onq, Bool.and_eq_true] at h
  simp at hj; subst hj
  have h1 := h.1
  cases hb : Nat.beq k i with
  | true => rw [hb] at h1; have := Nat.eq_of_beq_eq_true hb; exact ⟨fun _ => this, fun _ => h1⟩
  | false => rw [hb] at h1; have := Nat.ne_of_beq_eq_false hb; simp at h1; simp [h1, this]
 | z :: l, k, j + 1, y, h, hj => by
  simp only [onq, Bool.and_eq_true] at h
  have := onq_at (k := k + 1) (j := j) h.2 (by simpa using hj)
  rwa [show k + 1 + j = k + (j + 1) by omega] at this
theorem upq_at {m : Nat} : ∀ {l : List Ro} {k j : Nat} {y : Ro}, upq m k l = true → l[j]? = some y → bitq m (k + j) = true
 | z :: l, k, 0, y, h, hj => by
  simp only [upq, Bool.and_eq_true] at h
  exact h.1
 | z :: l, k, j + 1, y, h, hj => by
  simp only [upq, Bool.and_eq_true] at h
  have := upq_at (k := k + 1) (j := j) h.2 (by simpa using hj)
  rwa [show k + 1 + j = k + (j + 1) by omega] at this
def seqH (P : Program) (ops : Array Oper) (Q : Exit → Act → World → Prop) (S : World → Prop) : List (Bool × Nat) → Act → World → Prop
 | [], a, w => Q .normal a w
 | (false, i) :: r, a, w => ∃ oi v, ops[i]? = some oi ∧ YieldsIf P ops S oi v a ∧ (∀ c a w, Q (.panic c) (a.put oi.dst v) w → Q (.panic c) a w) ∧ seqH P ops Q S r (a.put oi.dst v) w
 | (true, i) :: r, a, w => wpOp P ops Q i (fun a' w' => S w' ∧ seqH P ops Q S r a' w') a w
theorem seqH_take {i : Nat} {oi : Oper} {v : Value} {d : Option Tmp} {r : List (Bool × Nat)} {a : Act} {w : World} (hi : ops[i]? = some oi) (hd : oi.dst = d) (hQ : ∀ c a w, Q (.panic c) (a.put d v) w → Q (.panic c) a w) (hy : YieldsIf P ops S oi v a)
  (h : seqH P ops Q S r (a.put d v) w) : seqH P ops Q S ((false, i) :: r) a w := by subst hd; exact ⟨oi, v, hi, hy, hQ, h⟩
theorem seqH_run {i : Nat} {o : Oper} {r : List (Bool × Nat)} {a : Act} {w : World} (ho : ops[i]? = some o)
  (h : ∀ K' : Act → World → Prop, Shut (∀ a w, S w → (S w → seqH P ops Q S r a w) → K' a w) → if Region.wanted o (yielded ops a.tmps) = true then Oper.wp P o a w K' Q else K' (a.put o.dst undef) w) : seqH P ops Q S ((true, i) :: r) a w :=
 wpOp_step ho (fun K' hK => h K' (fun a w hS hW => hK a w ⟨hS, hW hS⟩))
theorem seqH_done {a : Act} {w : World} (h : Q .normal a w) : seqH P ops Q S [] a w := h
theorem getD_sets {listed : Array Bool} {n m i : Nat} (hn : listed.size = n) (hi : i < n) (hb : ∀ j, listed.getD j false = bitq m j) (j : Nat) : (listed.setIfInBounds i true).getD j false = bitq (Nat.lor m (Nat.shiftLeft 1 i)) j := by
 rw [bitq_set, ← hb j]
 by_cases hij : i = j
 ·subst hij
  simp [Array.getD_eq_getD_getElem?, hn, hi]
 ·simp [Array.getD_eq_getD_getElem?, hij, Array.getElem?_setIfInBounds_ne]
theorem getD_two {listed : Array Bool} {j : Nat} (h : listed.getD j true = false) : listed.getD j false = false := by
 rw [Array.getD_eq_getD_getElem?] at *
 cases h1 : listed[j]? <;> simp_all
theorem getD_back {listed : Array Bool} {j : Nat} (hj : j < listed.size) (h : listed.getD j false = false) : listed.getD j true = false := by
 rw [Array.getD_eq_getD_getElem?] at *
 simp_all
theorem rdq_iff {m j : Nat} {o : Oper} {listed : Array Bool} (hn : listed.size = ops.size) (hb : ∀ j, listed.getD j false = bitq m j) (hj : ops[j]? = some o) :
  rdq m j (roOf md ops o) = true ↔ j ∈ Region.ready md ops listed := by
 have hlt : j < ops.size := (Array.getElem?_eq_some_iff.1 hj).1
 rw [mem_ready]
 simp only [rdq, roOf, Bool.and_eq_true, allq_iff, List.mem_map, List.mem_filter, Bool.not_eq_true']
 constructor
 ·rintro ⟨h1, h2⟩
  refine ⟨getD_back (by omega) (by rw [hb]; exact h1), o, hj, fun e he hbd => ?_⟩
  rw [hb]
  exact h2 e.on ⟨e, ⟨by simpa using he, hbd⟩, rfl⟩
 ·rintro ⟨h1, o', ho', h2⟩
  rw [hj] at ho'; cases ho'
  refine ⟨by rw [← hb]; exact getD_two h1, ?_⟩
  rintro x ⟨e, ⟨he, hbd⟩, rfl⟩
  rw [← hb]
  exact h2 e (by simpa using he) hbd
theorem seqH_held {D : List Ro} (hD : ops.toList.map (roOf md ops) = D) (hs : Region.noSelect ops = true) :
  ∀ (o : List (Bool × Nat)) (m fuel : Nat) (listed : Array Bool) (a : Act) (w : World), listed.size = ops.size → (∀ j, listed.getD j false = bitq m j) → chkq D o m = true → o.length ≤ fuel → S w → seqH P ops Q S o a w → wpAnyH P md ops Q S fuel listed a w := by
 have hat : ∀ {j oj}, ops[j]? = some oj → D[j]? = some (roOf md ops oj) := fun {j oj} h => by
  rw [← hD, List.getElem?_map, Array.getElem?_toList, h]; rfl
 intro o
 induction o with
 | nil =>
  intro m fuel listed a w hn hb hc _ _ h
  refine wpAnyH_done ?_ h _
  refine List.eq_nil_iff_forall_not_mem.2 fun j hj => ?_
  obtain ⟨h1, oj, hoj, _⟩ := mem_ready.1 hj
  have h2 := upq_at (k := 0) hc (hat hoj)
  rw [Nat.zero_add, ← hb, getD_two h1] at h2
  cases h2
 | cons x r ih =>
  intro m fuel listed a w hn hb hc hl hS h
  obtain ⟨b, i⟩ := x
  obtain ⟨fuel, rfl⟩ : ∃ k, fuel = k + 1 := ⟨fuel - 1, by simp at hl; omega⟩
  have hl' : r.length ≤ fuel := by simp at hl; omega
  simp only [chkq, Bool.and_eq_true] at hc
  obtain ⟨hc1, hc2⟩ := hc
  cases hx : D[i]? with
  | none => simp [hx] at hc1
  | some x =>
   have hi : i < ops.size := by
    have := (List.getElem?_eq_some_iff.1 hx).1
    rw [← hD] at this
    simpa using this
   have hoi : ops[i]? = some ops[i] := Array.getElem?_eq_getElem hi
   have hxe : x = roOf md ops ops[i] := by have := hat hoi; rw [hx] at this; cases this; rfl
   have hset := getD_sets hn hi hb
   have hsz : (listed.setIfInBounds i true).size = ops.size := by simpa using hn
   rw [hx] at hc1
   cases b with
   | false =>
    simp only [Bool.and_eq_true] at hc1
    obtain ⟨hf, hr⟩ := hc1
    obtain ⟨oi, v, hoi', hy, hQ, h⟩ := h
    rw [hoi] at hoi'; cases hoi'
    refine wpAnyH_first hoi (Region.noSelect_spec hs) hQ fuel listed a w ?_ ((rdq_iff hn hb hoi).1 (hxe ▸ hr)) hy hS (ih _ fuel _ _ w hsz hset hc2 hl' hS h)
    intro j oj hoj hne hun hno
    have h1 := frq_at (k := 0) hf (hat hoj)
    rw [Nat.zero_add, ← hb, getD_two hun] at h1
    have h2 : Nat.beq j i = false := by
     cases h3 : Nat.beq j i with
     | false => rfl
     | true => exact absurd (Nat.eq_of_beq_eq_true h3) hne
    rw [h2] at h1
    simp only [Bool.false_or, Bool.or_eq_true] at h1
    rcases h1 with h1 | h1
    ·rw [inq_iff] at h1
     simp only [roOf, List.mem_map, List.mem_filter] at h1
     obtain ⟨e, ⟨he, hbd⟩, hon⟩ := h1
     exact absurd hon (hno e (by simpa using he) hbd)
    ·exact aptq_apart (hxe ▸ h1)
   | true =>
    have hone : ∀ j ∈ Region.ready md ops listed, j = i := fun j hj => by
     obtain ⟨_, oj, hoj, _⟩ := mem_ready.1 hj
     have := (onq_at (k := 0) hc1 (hat hoj)).1 (by rw [Nat.zero_add]; exact (rdq_iff hn hb hoj).2 hj)
     omega
    have hin : i ∈ Region.ready md ops listed := (rdq_iff hn hb hoi).1 (by
     have := (onq_at (k := 0) hc1 (hat hoi)).2 (by omega)
     rwa [Nat.zero_add] at this)
    refine ⟨fun h0 => (by rw [h0] at hin; cases hin), fun j hj => ?_⟩
    obtain rfl := hone j hj
    exact wpOp_mono (fun a' w' h' => ⟨h'.1, ih _ fuel _ a' w' hsz hset hc2 hl' h'.1 h'.2⟩) h
theorem wp_region_seq {id : Nat} {a : Act} {w : World} {D : List Ro} (o : List (Bool × Nat)) (hm : P.follows .mixedOrders = true) (hD : ops.toList.map (roOf .any ops) = D) (hs : Region.noSelect ops = true) (hc : chkq D o 0 = true) (hl : Nat.ble o.length ops.size = true) (hS : S w.drew)
  (h : S w.drew → seqH P ops Q S o a w.drew) : (Code.region id ops true).wp P Q a w :=
 wp_region_held hm (seqH_held hD hs o 0 _ _ a _ (by simp) (fun j => by rw [bitq_zero, Array.getD_eq_getD_getElem?]; by_cases hj : j < ops.size <;> simp [hj]) hc (Nat.le_of_ble_eq_true hl) hS (h hS))
end
end

section
open Go.RowKit Dsk
set_option linter.unusedVariables false
set_option linter.unusedSimpArgs false
theorem ErrV.keep {F : Nat → Prop} {w w' : World} {v : Value} {op name : By} {n : Int} (h : ErrV w v op name n) (hk : Keep F w w') (hn : ∀ t a, v = .iface t (.pointer (some a)) → ¬ F a.block) : ErrV w' v op name n := by
 rcases h with h | ⟨h1, eb, h2, h3⟩
 ·exact .inl h
 ·exact .inr ⟨h1, eb, h2, hk.heapOf h3 (hn _ _ h2)⟩
theorem ErrV.lt {w : World} {v : Value} {op name : By} {n : Int} (h : ErrV w v op name n) {t : TypeId} {a : Addr} (he : v = .iface t (.pointer (some a))) : a.block < w.heap.size := by
 rcases h with ⟨_, h⟩ | ⟨_, eb, h2, h3⟩
 ·rw [h] at he; cases he
 ·rw [h2] at he
  cases he
  exact (Array.getElem?_eq_some_iff.1 h3).1
theorem files_small {S : Ds} {N : Nat} (hw : S.Wf) (hb : S.Bd N) : S.files.length ≤ N ∧ ∀ f ∈ S.files, f.2.length ≤ N + N := by
 refine ⟨by have := hb.shown hw; simpa [Ds.files] using this, fun f hf => ?_⟩
 obtain ⟨q, hq, rfl⟩ := List.mem_map.1 hf
 have := hb.len hw (hw.slt hq)
 show (S.th q.2).shown.length ≤ N + N
 omega
end

end Go.Proofs.YtodihkdmneihiaaGreatDoor
