import Derived.Test.YtllfkfncgalpaaaId1
import Derived.Test.YtllfkfncgalpaaaHlp
import Derived.Test.YtllfkfncgalpaaaKhp
import Derived.Test.YtllfkfncgalpaaaFap
import Derived.Test.YtllfkfncgalpaaaIgp
import Derived.Deep.CutRange
namespace Go.Proofs.Ytllfkfncgalpaaa
section
open Go.RowKit Dsk
set_option linter.unusedVariables false
set_option linter.unusedSimpArgs false
theorem Fls.keep {F : Nat → Prop} {w w' : World} {B : Nat} {v : Value} {L : List (By × By)} {vs : List Value} (h : Fls w B v L vs) (hk : Keep F w w') (h1 : ∀ g, v.ownBlock = some g → ¬ F g) (h2 : ∀ u ∈ vs, ∀ g, u.ownBlock = some g → ¬ F g) : Fls w' B v L vs :=
  ⟨h.len, own_keeps h.row hk h1, fun i f u hf hu => (h.own i f u hf hu).keep hk (h2 u (List.mem_of_getElem? hu)), h.new, h.apart⟩
theorem Fls.base {w : World} {B B' : Nat} {v : Value} {L : List (By × By)} {vs : List Value} (h : Fls w B v L vs) (hb : B' ≤ B) : Fls w B' v L vs :=
  ⟨h.len, ownsRow_base_a h.row hb, h.own, fun u hu g hg => Nat.le_trans hb (h.new u hu g hg), h.apart⟩
theorem PD.lim {w : World} {p : Nat} {S : Ds} {A : Nat → Nat} {o : Lab} (h : PD w p S A o) {b : Nat} (hb : o b ≠ 0) : b < w.heap.size := by
  obtain ⟨_, _, _, _, hx⟩ := h
  exact hx.lim b hb
theorem keep0 {w0 wr : World} {w' : World} {o : Lab} (hn : ∀ b, o b ≠ 0 → w0.heap.size ≤ b) (hk : Kept [] w0 wr) (hK : Keep o.mine wr w') : Kept [] w0 w' :=
  ⟨hK.os.trans hk.os, hK.tape.trans hk.tape, hK.output.trans hk.output, Nat.le_trans hk.size hK.size, fun i hi _ => (hK.block i (Nat.lt_of_lt_of_le hi hk.size) (fun hm => by have := hn i hm; omega)).trans (hk.block i hi (by simp))⟩
end

section
open Go.RowKit Dsk
set_option linter.unusedVariables false
set_option linter.unusedSimpArgs false

/-- Of whatever leaves the blocks X alone, P holds behind it. -/
def Stay (X : Nat → Prop) (w : World) (P : World → Prop) : Prop := ∀ v, Keep (fun b => ¬ X b) w v → P v
section
variable {X Y : Nat → Prop} {w w' : World} {P Q : World → Prop}
theorem Stay.now (h : Stay X w P) : P w := h w (Keep.refl _ _)
theorem Stay.keep (h : Stay X w P) (hk : Keep (fun b => ¬ X b) w w') : Stay X w' P := fun v hv => h v (hk.trans hv (fun _ h _ => h))
theorem Stay.kept (h : Stay X w P) (hk : Kept [] w w') : Stay X w' P := h.keep (Keep.ofNone hk)
theorem Stay.wide (h : Stay X w P) (hx : ∀ b, X b → Y b) : Stay Y w P := fun v hv => h v (hv.mono (fun i hi _ hx2 => hi (hx i hx2)))
theorem Stay.imp (h : Stay X w P) (hi : ∀ v, P v → Q v) : Stay X w Q := fun v hv => hi v (h v hv)
theorem Stay.more (h : Stay X w P) (hk : Kept [] w w') : Stay (More X w w') w' P := (h.kept hk).wide (fun _ h => .inl h)
theorem Stay.fls {lv : Value} {L : List (By × By)} {vs : List Value} (h : Fls w' w.heap.size lv L vs) : Stay (More X w w') w' (fun v => Fls v w.heap.size lv L vs) := fun v hv =>
  h.keep hv (fun g hg hn => hn (.inr (h.row.lt g hg))) (fun u hu g hg hn => hn (.inr ⟨h.new u hu g hg, h.val_lt hu hg⟩))
theorem Stay.own {e : TypeId} {s : Nat} {v : Value} {n : Nat} {xs : List Value} (h : w'.ownsRow w.heap.size e s v n xs) : Stay (More X w w') w' (fun u => u.ownsRow w.heap.size e s v n xs) := fun u hu =>
  own_keeps h hu (fun g hg hn => hn (.inr (h.lt g hg)))
end

/-- Two disks, and blocks that are neither's. -/
def Tw (X : Nat → Prop) (w : World) (p : Nat) (S : Ds) (N : Nat) (q : Nat) (T : Ds) (M : Nat) : Prop :=
  ∃ A o A' o', PD w p S A o ∧ PD w q T A' o' ∧ (∀ b, o b ≠ 0 → o' b = 0) ∧ (∀ b, X b → o b = 0 ∧ o' b = 0 ∧ b < w.heap.size) ∧ S.Bd N ∧ T.Bd M
section
variable {X : Nat → Prop} {w : World} {p : Nat} {S : Ds} {N : Nat} {q : Nat} {T : Ds} {M : Nat}
theorem Tw.one (h : Tw X w p S N q T M) : ∃ Y, Ax Y w w p S N ∧ ∀ w' S' N', Ax Y w w' p S' N' → Tw X w' p S' N' q T M ∧ Keep (fun b => ¬ X b) w w' := by
  obtain ⟨A, o, A', o', h1, h2, h3, h4, h5, h6⟩ := h
  refine ⟨fun b => X b ∨ o' b ≠ 0, ⟨A, o, h1, fun b hb => ?_, Keep.refl _ _, h5⟩, fun w' S' N' hY => ?_⟩
  · rcases hb with hb | hb
    · exact ⟨(h4 b hb).1, (h4 b hb).2.2⟩
    · exact ⟨Classical.byContradiction fun hn => hb (h3 b hn), h2.lim hb⟩
  · obtain ⟨A2, o2, g1, g2, g3, g4⟩ := hY
    refine ⟨⟨A2, o2, A', o', g1, h2.keep g3 (fun b hb hn => hn (.inr hb)), fun b hb => Classical.byContradiction fun hn => hb (g2 b (.inr hn)).1, fun b hb => ⟨(g2 b (.inl hb)).1, (h4 b hb).2.1, Nat.lt_of_lt_of_le (h4 b hb).2.2 g3.size⟩, g4, h6⟩, g3.mono (fun b hb _ hx => hb (.inl hx))⟩
theorem Tw.swap (h : Tw X w p S N q T M) : Tw X w q T M p S N := by
  obtain ⟨A, o, A', o', h1, h2, h3, h4, h5, h6⟩ := h
  exact ⟨A', o', A, o, h2, h1, fun b hb => Classical.byContradiction fun hn => hb (h3 b hn), fun b hb => ⟨(h4 b hb).2.1, (h4 b hb).1, (h4 b hb).2.2⟩, h6, h5⟩
theorem Tw.two (h : Tw X w p S N q T M) : ∃ Y, Ax Y w w q T M ∧ ∀ w' T' M', Ax Y w w' q T' M' → Tw X w' p S N q T' M' ∧ Keep (fun b => ¬ X b) w w' := by
  obtain ⟨Y, h1, h2⟩ := h.swap.one
  exact ⟨Y, h1, fun w' T' M' hY => ⟨(h2 w' T' M' hY).1.swap, (h2 w' T' M' hY).2⟩⟩
theorem Tw.kept {w' : World} (h : Tw X w p S N q T M) (hk : Kept [] w w') : Tw X w' p S N q T M := by
  obtain ⟨Y, h1, h2⟩ := h.one
  exact (h2 w' S N (h1.kept hk)).1
theorem Tw.wf1 (h : Tw X w p S N q T M) : S.Wf := by obtain ⟨Y, h1, _⟩ := h.one; exact h1.wf
theorem Tw.wf2 (h : Tw X w p S N q T M) : T.Wf := h.swap.wf1
theorem Tw.bd1 (h : Tw X w p S N q T M) : S.Bd N := by obtain ⟨Y, h1, _⟩ := h.one; exact h1.bd
theorem Tw.bd2 (h : Tw X w p S N q T M) : T.Bd M := h.swap.bd1
theorem Tw.mono {N' M' : Nat} (h : Tw X w p S N q T M) (hn : N ≤ N') (hm : M ≤ M') : Tw X w p S N' q T M' := by
  obtain ⟨A, o, A', o', h1, h2, h3, h4, h5, h6⟩ := h
  exact ⟨A, o, A', o', h1, h2, h3, h4, h5.mono hn, h6.mono hm⟩
theorem Tw.free (h : Tw X w p S N q T M) {w' : World} {Y F : Nat → Prop} (hk : Keep F w w') (hF : ∀ b, b < w.heap.size → F b → X b) (hY : ∀ b, Y b → (X b ∨ w.heap.size ≤ b) ∧ b < w'.heap.size) : Tw Y w' p S N q T M := by
  obtain ⟨A, o, A', o', h1, h2, h3, h4, h5, h6⟩ := h
  have n1 : ∀ b, w.heap.size ≤ b → o b = 0 := fun b hb => Classical.byContradiction fun hn => by have := h1.lim hn; omega
  have n2 : ∀ b, w.heap.size ≤ b → o' b = 0 := fun b hb => Classical.byContradiction fun hn => by have := h2.lim hn; omega
  refine ⟨A, o, A', o', h1.keep hk (fun b hb hf => hb (h4 b (hF b (h1.lim hb) hf)).1), h2.keep hk (fun b hb hf => hb (h4 b (hF b (h2.lim hb) hf)).2.1), h3, fun b hb => ?_, h5, h6⟩
  obtain ⟨h7, h8⟩ := hY b hb
  rcases h7 with h7 | h7
  · exact ⟨(h4 b h7).1, (h4 b h7).2.1, h8⟩
  · exact ⟨n1 b h7, n2 b h7, h8⟩
/-- A second disk that is new since the first stood. -/
theorem Tw.begin {wa w' : World} (h : Ax X wa w p S N) (hn : At w w' q T M) : Tw X w' p S N q T M := by
  obtain ⟨A, o, h1, h2, h3, h4⟩ := h
  obtain ⟨A', o', g1, g2, g3, g4⟩ := hn
  refine ⟨A, o, A', o', h1.keep (Keep.ofNone (F := fun _ => False) g3) (fun _ _ h => h), g1, fun b hb => Classical.byContradiction fun hn => ?_, fun b hb => ⟨(h2 b hb).1, Classical.byContradiction fun hn => ?_, ?_⟩, h4, g4⟩
  · have := h1.lim hb
    have := g2 b hn
    omega
  · have := (h2 b hb).2
    have := h3.size
    have := g2 b hn
    omega
  · have := (h2 b hb).2
    have := h3.size
    have := g3.size
    omega
end
end

section
open Go.RowKit Dsk
set_option linter.unusedVariables false
set_option linter.unusedSimpArgs false
section
variable {w0 w : World} {p : Nat} {S : Ds} {N : Nat}
theorem filesL_at (h : At w0 w p S N) (hN : N ≤ 268435456) {L : List (By × By)} (hL : S.files = L) : Calls Try.prog 6 #[.pointer (some ⟨p, 0, none⟩)] w fun e w' => ∃ vo vk, e = .returned (.slice vo L.length vk) ∧ Fis w' vo L ∧ Kept [] w w' := by
  refine (files_at h hN).mono ?_
  rintro e w' ⟨v, vs, rfl, h1, h2⟩
  subst hL
  obtain ⟨vo, vk, rfl, _⟩ := own_shape h1.row
  exact ⟨vo, vk, rfl, (Fis.of h1).1, h2⟩
theorem safeL_at (h : At w0 w p S N) (hN : N ≤ 268435456) {L : List (By × By)} (hL : S.safeFiles = L) : Calls Try.prog 16 #[.pointer (some ⟨p, 0, none⟩)] w fun e w' => ∃ vo vk, e = .returned (.slice vo L.length vk) ∧ Fis w' vo L ∧ Kept [] w w' := by
  obtain ⟨A, o, hP, ho, hw, hb⟩ := h
  refine (safe_ok hP hb hN).mono ?_
  rintro e w' ⟨v, vs, rfl, h1, h2⟩
  subst hL
  obtain ⟨vo, vk, rfl, _⟩ := own_shape h1.row
  exact ⟨vo, vk, rfl, (Fis.of h1).1, h2⟩
theorem twin_at (h : At w0 w p S N) (hN : N ≤ 268435456) : Calls Try.prog 14 #[.pointer (some ⟨p, 0, none⟩)] w fun e w' => ∃ q, e = .returned (.pointer (some ⟨q, 0, none⟩)) ∧ At w w' q S.compact N := by
  obtain ⟨A, o, hP, ho, hw, hb⟩ := h
  exact twin_ok hP hb hN
theorem crash0_at (h : At w0 w p S N) (hN : N ≤ 268435456) : Calls Try.prog 15 #[.pointer (some ⟨p, 0, none⟩), .slice none 0 0] w fun e w' => e = .returned (.tuple #[]) ∧ At w0 w' p (S.crash []) N :=
  crash_at h (Kept.refl [] w) hN (n := 0) (ps := []) rfl (fun i hi => absurd hi (by simp)) (fun i => by simp; decide) (by omega) (fun h => absurd rfl h)
end
theorem Ax.toAt {X : Nat → Prop} {w0 wa w : World} {p : Nat} {S : Ds} {N : Nat} (h : Ax X wa w p S N) (hX : ∀ b, b < w0.heap.size → X b) (hk : Kept [] w0 wa) : At w0 w p S N := by
  obtain ⟨A, o, h1, h2, h3, h4⟩ := h
  refine ⟨A, o, h1, fun b hb => ?_, ⟨h3.os.trans hk.os, h3.tape.trans hk.tape, h3.output.trans hk.output, Nat.le_trans hk.size h3.size, fun i hi _ => (h3.block i (Nat.lt_of_lt_of_le hi hk.size) (fun hn => hn (hX i hi))).trans (hk.block i hi (by simp))⟩, h4⟩
  apply Classical.byContradiction
  intro hn
  exact hb (h2 b (hX b (by omega))).1
theorem files_sml {S : Ds} {N : Nat} (hb : S.Bd N) (hw : S.Wf) (hN : N ≤ 268435456) : S.files.length ≤ 4611686018427387904 ∧ ∀ f ∈ S.files, f.2.length ≤ 4611686018427387904 := by
  refine ⟨by have := hb.shown hw; simp only [Ds.files, List.length_map]; omega, fun f hf => ?_⟩
  obtain ⟨x, hx, rfl⟩ := List.mem_map.1 hf
  have := hb.len hw (hw.slt (n := x.1) hx)
  show (S.th x.2).shown.length ≤ _
  omega
theorem safe_sml {S : Ds} {N : Nat} (hb : S.Bd N) (hw : S.Wf) (hN : N ≤ 268435456) : S.safeFiles.length ≤ 4611686018427387904 ∧ ∀ f ∈ S.safeFiles, f.2.length ≤ 4611686018427387904 := by
  refine ⟨by have := hb.nm; simp only [Ds.safeFiles, List.length_map]; omega, fun f hf => ?_⟩
  obtain ⟨x, hx, rfl⟩ := List.mem_map.1 hf
  have := hb.th x.2 (hw.lt _ (List.mem_append_left _ (List.mem_map.2 ⟨x, hx, rfl⟩)))
  show (S.th x.2).safe.length ≤ _
  omega
theorem seven_row (w : World) : Kept [] w (w.alloc (.cells #[.int .i64 7, .int .i64 7, .int .i64 7] 3)) ∧ Ints (w.alloc (.cells #[.int .i64 7, .int .i64 7, .int .i64 7] 3)) (some ⟨w.heap.size, 0, none⟩) [7, 7, 7] := by
  refine ⟨(Kept.refl [] w).alloc _, fun i hi => ?_⟩
  have hb := (MapKept.heap_alloc w (.cells #[.int .i64 7, .int .i64 7, .int .i64 7] 3)).1
  have hi3 : i < 3 := hi
  refine ⟨w.heap.size, 0, rfl, ?_⟩
  rw [Nat.zero_add, cell_of_row _ _ i _ _ _ hb]
  match i, hi3 with
  | 0, _ => rfl
  | 1, _ => rfl
  | 2, _ => rfl
end

end Go.Proofs.Ytllfkfncgalpaaa
