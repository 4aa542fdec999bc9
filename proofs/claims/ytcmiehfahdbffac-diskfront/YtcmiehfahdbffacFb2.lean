/-
  DiskFront: two disks and the row of moves that were done; one contract a call.
-/
import Derived.Test.YtcmiehfahdbffacFb1
namespace Go.Proofs.Ytcmiehfahdbffac
open Go.RowKit Dsk
set_option linter.unusedVariables false
set_option linter.unusedSimpArgs false
theorem Try.infoMove : (Try.prog.info? 52).map (fun i => (i.zero, i.size, i.bytes)) = some (some (.agg #[.string ⟨#[]⟩, .string ⟨#[]⟩]), 2, 32) := by kernel_rfl
def encMov (m : Mov) : List Value := [encStr m.1, encStr m.2]
structure Frs (w0 w : World) (p q : Nat) (S T : Ds) (N M : Nat) (dv : Value) (D : List Mov) : Prop where
  tw : Tw (fun b => b < w0.heap.size ∨ dv.ownBlock = some b) w p S N q T M
  row : w.ownsRow 0 52 2 dv D.length (D.flatMap encMov)
  old : Kept [] w0 w
  new : ∀ g, dv.ownBlock = some g → w0.heap.size ≤ g
section
variable {w0 w : World} {p q : Nat} {S T : Ds} {N M : Nat} {dv : Value} {D : List Mov}
theorem Frs.next (h : Frs w0 w p q S T N M dv D) {w' : World} {S' T' : Ds} {N' M' : Nat} (ht : Tw (fun b => b < w0.heap.size ∨ dv.ownBlock = some b) w' p S' N' q T' M') (hk : Keep (fun b => ¬ (b < w0.heap.size ∨ dv.ownBlock = some b)) w w') : Frs w0 w' p q S' T' N' M' dv D :=
  ⟨ht, own_keeps h.row hk (fun g hg hn => hn (.inr hg)), ⟨hk.os.trans h.old.os, hk.tape.trans h.old.tape, hk.output.trans h.old.output, Nat.le_trans h.old.size hk.size, fun i hi _ => (hk.block i (Nat.lt_of_lt_of_le hi h.old.size) (fun hn => hn (.inl hi))).trans (h.old.block i hi (by simp))⟩, h.new⟩
theorem Frs.one (h : Frs w0 w p q S T N M dv D) : ∃ Y, Ax Y w w p S N ∧ ∀ w' S' N', Ax Y w w' p S' N' → Frs w0 w' p q S' T N' M dv D := by
  obtain ⟨Y, h1, h2⟩ := h.tw.one
  exact ⟨Y, h1, fun w' S' N' hY => h.next (h2 w' S' N' hY).1 (h2 w' S' N' hY).2⟩
theorem Frs.two (h : Frs w0 w p q S T N M dv D) : ∃ Y, Ax Y w w q T M ∧ ∀ w' T' M', Ax Y w w' q T' M' → Frs w0 w' p q S T' N M' dv D := by
  obtain ⟨Y, h1, h2⟩ := h.tw.two
  exact ⟨Y, h1, fun w' T' M' hY => h.next (h2 w' T' M' hY).1 (h2 w' T' M' hY).2⟩
theorem Frs.kept {w' : World} (h : Frs w0 w p q S T N M dv D) (hk : Kept [] w w') : Frs w0 w' p q S T N M dv D := h.next (h.tw.kept hk) (Keep.ofNone hk)
theorem Frs.mono {N' M' : Nat} (h : Frs w0 w p q S T N M dv D) (hn : N ≤ N') (hm : M ≤ M') : Frs w0 w p q S T N' M' dv D := ⟨h.tw.mono hn hm, h.row, h.old, h.new⟩
theorem fr_create1 (h : Frs w0 w p q S T N M dv D) (hN : N ≤ 268435456) (n : By) (hn : n.length ≤ 4611686018427387904) : Calls Try.prog 8 #[.pointer (some ⟨p, 0, none⟩), encStr n] w fun e w' => e = .returned (.int .i64 (S.create n).1) ∧ Frs w0 w' p q (S.create n).2 T (N + 1) M dv D := by
  obtain ⟨Y, h1, h2⟩ := h.one
  exact (create_ax h1 hN n hn).mono (fun e w' ⟨a, b⟩ => ⟨a, h2 _ _ _ b⟩)
theorem fr_create2 (h : Frs w0 w p q S T N M dv D) (hN : M ≤ 268435456) (n : By) (hn : n.length ≤ 4611686018427387904) : Calls Try.prog 8 #[.pointer (some ⟨q, 0, none⟩), encStr n] w fun e w' => e = .returned (.int .i64 (T.create n).1) ∧ Frs w0 w' p q S (T.create n).2 N (M + 1) dv D := by
  obtain ⟨Y, h1, h2⟩ := h.two
  exact (create_ax h1 hN n hn).mono (fun e w' ⟨a, b⟩ => ⟨a, h2 _ _ _ b⟩)
theorem byte_row (w : World) (c : UInt8) : Kept [] w (w.alloc (.cells #[.int .u8 c.toNat] 5)) ∧ Sl (w.alloc (.cells #[.int .u8 c.toNat] 5)) (some ⟨w.heap.size, 0, none⟩) [c] := by
  refine ⟨(Kept.refl [] w).alloc _, fun i hi => ?_⟩
  have hb := (MapKept.heap_alloc w (.cells #[.int .u8 c.toNat] 5)).1
  have e : i = 0 := by simpa using hi
  subst e
  exact ⟨w.heap.size, 0, rfl, by rw [cell_of_row _ _ 0 _ _ _ hb]; rfl⟩
theorem fr_append1 (h : Frs w0 w p q S T N M dv D) (hN : N + 1 ≤ 268435456) (n : By) (hn : n.length ≤ 4611686018427387904) (c : UInt8) : Calls Try.prog 9 #[.pointer (some ⟨p, 0, none⟩), encStr n, .slice (some ⟨w.heap.size, 0, none⟩) 1 1] (w.alloc (.cells #[.int .u8 c.toNat] 5)) fun e w' => (∃ E, e = .returned (.int .i64 E)) ∧ Frs w0 w' p q (S.append n [c]).2 T (N + 3) M dv D := by
  obtain ⟨Y, h1, h2⟩ := h.one
  obtain ⟨hk, hs⟩ := byte_row w c
  exact (append_ax h1 hk (n := 1) (d := [c]) hN n hn rfl hs (by simp) (fun _ a ha => by cases ha; exact .inl (Nat.le_refl _))).mono (fun e w' ⟨a, b⟩ => ⟨⟨_, a⟩, h2 _ _ _ b⟩)
theorem fr_append2 (h : Frs w0 w p q S T N M dv D) (hN : M + 1 ≤ 268435456) (n : By) (hn : n.length ≤ 4611686018427387904) (c : UInt8) : Calls Try.prog 9 #[.pointer (some ⟨q, 0, none⟩), encStr n, .slice (some ⟨w.heap.size, 0, none⟩) 1 1] (w.alloc (.cells #[.int .u8 c.toNat] 5)) fun e w' => (∃ E, e = .returned (.int .i64 E)) ∧ Frs w0 w' p q S (T.append n [c]).2 N (M + 3) dv D := by
  obtain ⟨Y, h1, h2⟩ := h.two
  obtain ⟨hk, hs⟩ := byte_row w c
  exact (append_ax h1 hk (n := 1) (d := [c]) hN n hn rfl hs (by simp) (fun _ a ha => by cases ha; exact .inl (Nat.le_refl _))).mono (fun e w' ⟨a, b⟩ => ⟨⟨_, a⟩, h2 _ _ _ b⟩)
theorem fr_sync1 (h : Frs w0 w p q S T N M dv D) (hN : N ≤ 268435456) (n : By) (hn : n.length ≤ 4611686018427387904) : Calls Try.prog 10 #[.pointer (some ⟨p, 0, none⟩), encStr n] w fun e w' => (∃ E, e = .returned (.int .i64 E)) ∧ Frs w0 w' p q (S.sync n).2 T (N + 1) M dv D := by
  obtain ⟨Y, h1, h2⟩ := h.one
  exact (sync_ax h1 hN n hn).mono (fun e w' ⟨a, b⟩ => ⟨⟨_, a⟩, h2 _ _ _ b⟩)
theorem fr_names1 (h : Frs w0 w p q S T N M dv D) (hN : N ≤ 268435456) : Calls Try.prog 11 #[.pointer (some ⟨p, 0, none⟩)] w fun e w' => e = .returned (.int .i64 S.syncNames.1) ∧ Frs w0 w' p q S.syncNames.2 T (N + 1) M dv D := by
  obtain ⟨Y, h1, h2⟩ := h.one
  exact (syncNames_ax h1 hN).mono (fun e w' ⟨a, b⟩ => ⟨a, h2 _ _ _ b⟩)
theorem fr_move1 (h : Frs w0 w p q S T N M dv D) (hN : N ≤ 268435456) (m : Mov) (hf : m.1.length ≤ 4611686018427387904) (ht : m.2.length ≤ 4611686018427387904) : Calls Try.prog 22 #[.pointer (some ⟨p, 0, none⟩), .agg #[encStr m.1, encStr m.2]] w fun e w' => e = .returned (.int .i64 (moveD S m).1) ∧ Frs w0 w' p q (moveD S m).2 T (N + 2) M dv D := by
  obtain ⟨Y, h1, h2⟩ := h.one
  exact (move_ax h1 hN m hf ht).mono (fun e w' ⟨a, b⟩ => ⟨a, h2 _ _ _ b⟩)
theorem fr_move2 (h : Frs w0 w p q S T N M dv D) (hN : M ≤ 268435456) (m : Mov) (hf : m.1.length ≤ 4611686018427387904) (ht : m.2.length ≤ 4611686018427387904) : Calls Try.prog 22 #[.pointer (some ⟨q, 0, none⟩), .agg #[encStr m.1, encStr m.2]] w fun e w' => e = .returned (.int .i64 (moveD T m).1) ∧ Frs w0 w' p q S (moveD T m).2 N (M + 2) dv D := by
  obtain ⟨Y, h1, h2⟩ := h.two
  exact (move_ax h1 hN m hf ht).mono (fun e w' ⟨a, b⟩ => ⟨a, h2 _ _ _ b⟩)
theorem fr_crash1 (h : Frs w0 w p q S T N M dv D) (hN : N ≤ 268435456) (pick : Int) (hp : (Lit.int .i64 pick).wf = true) : Calls Try.prog 18 #[.pointer (some ⟨p, 0, none⟩), .slice (some ⟨w.heap.size, 0, none⟩) 1 1] (w.alloc (.cells #[.int .i64 pick] 3)) fun e w' => e = .returned (.tuple #[]) ∧ Frs w0 w' p q (S.crash [pick]) T N M dv D := by
  obtain ⟨Y, h1, h2⟩ := h.one
  have hb := (MapKept.heap_alloc w (.cells #[.int .i64 pick] 3)).1
  refine (crash_ax h1 ((Kept.refl [] w).alloc _) hN (n := 1) (ps := [pick]) rfl (fun i hi => ?_) (fun i => ?_) (by omega) (fun _ a ha => by cases ha; exact .inl (Nat.le_refl _))).mono (fun e w' ⟨a, b⟩ => ⟨a, h2 _ _ _ b⟩)
  · have e : i = 0 := by simpa using hi
    subst e
    exact ⟨w.heap.size, 0, rfl, by rw [cell_of_row _ _ 0 _ _ _ hb]; rfl⟩
  · cases i with
    | zero => exact hp
    | succ i => simp; decide
theorem fr_files1 (h : Frs w0 w p q S T N M dv D) (hN : N ≤ 268435456) : Calls Try.prog 19 #[.pointer (some ⟨p, 0, none⟩)] w fun e w' => ∃ vo vk, e = .returned (.slice vo S.files.length vk) ∧ Fis w' vo S.files ∧ Kept [] w w' := by
  obtain ⟨Y, h1, h2⟩ := h.one
  refine (files_ax h1 hN).mono ?_
  rintro e w' ⟨v, vs, rfl, hF, hk⟩
  obtain ⟨vo, vk, rfl, _⟩ := own_shape hF.row
  exact ⟨vo, vk, rfl, (Fis.of hF).1, hk⟩
theorem fr_files2 (h : Frs w0 w p q S T N M dv D) (hN : M ≤ 268435456) : Calls Try.prog 19 #[.pointer (some ⟨q, 0, none⟩)] w fun e w' => ∃ vo vk, e = .returned (.slice vo T.files.length vk) ∧ Fis w' vo T.files ∧ Kept [] w w' := by
  obtain ⟨Y, h1, h2⟩ := h.two
  refine (files_ax h1 hN).mono ?_
  rintro e w' ⟨v, vs, rfl, hF, hk⟩
  obtain ⟨vo, vk, rfl, _⟩ := own_shape hF.row
  exact ⟨vo, vk, rfl, (Fis.of hF).1, hk⟩
/-- One move more was done. -/
theorem Frs.push {vo : Option Addr} {n vk : Nat} (h : Frs w0 w p q S T N M (.slice vo n vk) D) (hn : D.length = n) (hb : n ≤ 1000) (m : Mov) : ∃ g c w', (Builtin.append_ #[49, 49] 49 #[.slice vo n vk, .slice (some ⟨w.heap.size, 0, none⟩) 1 1]).run Try.prog (w.alloc (.cells #[encStr m.1, encStr m.2] 52)) = .ok (.slice (some ⟨g, 0, none⟩) (n + 1) c) w' ∧ Frs w0 w' p q S T N M (.slice (some ⟨g, 0, none⟩) (n + 1) c) (D ++ [m]) := by
  have hr := h.row
  rw [hn] at hr
  obtain ⟨g, c, w', e1, e2, e3, e4, e5⟩ := run_app (P := Try.prog) w 49 49 52 Try.underlying49 Try.infoMove rfl (by decide) _ n _ hr [encStr m.1, encStr m.2] rfl (fun z hz => by simp only [List.mem_cons, List.not_mem_nil, or_false] at hz; rcases hz with rfl | rfl <;> rfl) (by unfold maxLen; omega) (by omega)
  have hK := e3 (fun k => (Value.slice vo n vk).ownBlock = some k) (fun _ e => e)
  refine ⟨g, c, w', e1, h.tw.free hK (fun b _ hb => .inr hb) (fun b hb => ?_), by simpa [hn, encMov] using e2, ?_, fun g' hg' => ?_⟩
  · rcases hb with hb | hb
    · exact ⟨.inl (.inl hb), by have := h.old.size; have := hK.size; omega⟩
    · simp only [Value.ownBlock, Option.some.injEq] at hb
      subst hb
      refine ⟨?_, e5⟩
      rcases e4 with e | e
      · exact .inl (.inr e.symm)
      · exact .inr e
  · exact ⟨hK.os.trans h.old.os, hK.tape.trans h.old.tape, hK.output.trans h.old.output, Nat.le_trans h.old.size hK.size, fun i hi _ => (hK.block i (Nat.lt_of_lt_of_le hi h.old.size) (fun hm => by have := h.new i hm; omega)).trans (h.old.block i hi (by simp))⟩
  · simp only [Value.ownBlock, Option.some.injEq] at hg'
    subst hg'
    rcases e4 with e | e
    · exact h.new _ e.symm
    · exact Nat.le_trans h.old.size e
theorem mov_get (D : List Mov) (i : Nat) (m : Mov) (h : D[i]? = some m) : (D.flatMap encMov)[i * 2]? = some (encStr m.1) ∧ (D.flatMap encMov)[i * 2 + 1]? = some (encStr m.2) := by
  induction D generalizing i with
  | nil => simp at h
  | cons x r ih =>
    cases i with
    | zero =>
      simp only [List.getElem?_cons_zero, Option.some.injEq] at h
      subst h
      exact ⟨rfl, rfl⟩
    | succ i =>
      have := ih i (by simpa using h)
      rw [show (i + 1) * 2 = i * 2 + 2 by omega]
      exact this
theorem Frs.at {vo : Option Addr} {n vk : Nat} (h : Frs w0 w p q S T N M (.slice vo n vk) D) {i : Nat} {m : Mov} (hi : D[i]? = some m) : ∃ g, vo = some ⟨g, 0, none⟩ ∧ w.cell? ⟨g, i * 2, none⟩ = some (encStr m.1) ∧ w.cell? ⟨g, i * 2 + 1, none⟩ = some (encStr m.2) := by
  have hlt := (List.getElem?_eq_some_iff.1 hi).1
  obtain ⟨q1, q2⟩ := mov_get D i m hi
  rcases h.row.2 with ⟨e, e2⟩ | ⟨g, cap, cur, e, _⟩
  · omega
  · injection e with e _ _
    subst e
    have a1 := h.row.cells (g := g) rfl _ _ q1
    have a2 := h.row.cells (g := g) rfl _ _ q2
    rw [add0] at a1 a2
    exact ⟨g, rfl, a1, a2⟩
theorem Frs.begin {w1 w2 : World} (h : At w0 w1 p S N) (hn : At w1 w2 q T M) : Frs w0 w2 p q S T N M (.slice none 0 0) [] := by
  have ht := Tw.begin h.ax hn
  refine ⟨ht.free (Keep.refl (fun _ => False) w2) (fun _ _ h => h.elim) (fun b hb => ?_), World.ownsRow_nil _ _ _ _, h.old.trans hn.old (by simp), by simp [Value.ownBlock]⟩
  rcases hb with hb | hb
  · exact ⟨.inl hb, by have := h.old.size; have := hn.old.size; omega⟩
  · simp [Value.ownBlock] at hb
end
end Go.Proofs.Ytcmiehfahdbffac
