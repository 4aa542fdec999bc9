/-
  The pair's calls. (Written by tools/rfd.py.)
-/
import Derived.Test.YtmoaaimjgdbelaaGreatRfcp
import Derived.Test.YtmoaaimjgdbelaaGreatRelp
import Derived.Test.YtmoaaimjgdbelaaGreatRel2p
import Derived.Test.YtmoaaimjgdbelaaGreatRel3p
import Derived.Test.YtmoaaimjgdbelaaGreatRenp
import Derived.Test.YtmoaaimjgdbelaaGreatReop
import Derived.Test.YtmoaaimjgdbelaaGreatRepp
import Derived.Test.YtmoaaimjgdbelaaGreatIep
import Derived.Test.YtmoaaimjgdbelaaGreatRet2p
namespace Go.Proofs.YtmoaaimjgdbelaaGreat
open Go.RowKit Dsk
set_option linter.unusedVariables false
set_option linter.unusedSimpArgs false
section
variable {X : Nat → Prop} {w : World} {P p q D : Nat} {bo : Option Nat} {R : List UInt8} {S : Ds} {N : Nat} {T : Ds} {M : Nat}
/-- What moves: none of X's blocks, of the pair's or of the desk's. -/
abbrev Mvs (X : Nat → Prop) (P D : Nat) (bo : Option Nat) : Nat → Prop := fun b => ¬ (X b ∨ prB P D bo b)

theorem create_p1 (h : Pq X w P p q D bo R S N T M) (hN : N ≤ 268435456) (n : By) (hn : n.length ≤ 4611686018427387904) : Calls Tryz.prog 17 #[.pointer (some ⟨p, 0, none⟩), encStr n] w fun e w' => e = .returned (.int .i64 (S.create n).1) ∧ Pq X w' P p q D bo R (S.create n).2 (N + 1) T M ∧ Keep (Mvs X P D bo) w w' := by
  obtain ⟨Y, hY, h1, h2⟩ := h.one
  refine (create_ax h1 hN n hn).mono ?_
  rintro e w' ⟨rfl, ha⟩
  exact ⟨rfl, h2 _ _ _ ha⟩
theorem create_p2 (h : Pq X w P p q D bo R S N T M) (hM : M ≤ 268435456) (n : By) (hn : n.length ≤ 4611686018427387904) : Calls Tryz.prog 58 #[.pointer (some ⟨q, 0, none⟩), encStr n] w fun e w' => e = .returned (.int .i64 (T.create n).1) ∧ Pq X w' P p q D bo R S N (T.create n).2 (M + 1) ∧ Keep (Mvs X P D bo) w w' := by
  have hb := h.tw.bd2
  obtain ⟨A', o', h1, _, h2⟩ := h.two
  obtain ⟨hwf, nv, bv, tv, sv, hx⟩ := h1
  have h1 : RD w q T A' o' := ⟨hwf, _, _, _, _, hx⟩
  refine (rcreate_ok hx hwf hb hM n hn).mono ?_
  rintro e w' ⟨rfl, ha⟩
  exact ⟨rfl, h2 _ _ _ ha (hb.create n)⟩

theorem truncate_p1 (h : Pq X w P p q D bo R S N T M) (hN : N ≤ 268435456) (n : By) (hn : n.length ≤ 4611686018427387904) (a : Int) : Calls Tryz.prog 64 #[.pointer (some ⟨p, 0, none⟩), encStr n, .int .i64 a] w fun e w' => e = .returned (.int .i64 (S.truncate n a).1) ∧ Pq X w' P p q D bo R (S.truncate n a).2 (N + 3) T M ∧ Keep (Mvs X P D bo) w w' := by
  obtain ⟨Y, hY, h1, h2⟩ := h.one
  refine (truncate_ax h1 hN n hn a).mono ?_
  rintro e w' ⟨rfl, ha⟩
  exact ⟨rfl, h2 _ _ _ ha⟩
theorem truncate_p2 (h : Pq X w P p q D bo R S N T M) (hM : M ≤ 268435456) (n : By) (hn : n.length ≤ 4611686018427387904) (a : Int) : Calls Tryz.prog 65 #[.pointer (some ⟨q, 0, none⟩), encStr n, .int .i64 a] w fun e w' => e = .returned (.int .i64 (T.truncate n a).1) ∧ Pq X w' P p q D bo R S N (T.truncate n a).2 (M + 3) ∧ Keep (Mvs X P D bo) w w' := by
  have hb := h.tw.bd2
  obtain ⟨A', o', h1, _, h2⟩ := h.two
  obtain ⟨hwf, nv, bv, tv, sv, hx⟩ := h1
  have h1 : RD w q T A' o' := ⟨hwf, _, _, _, _, hx⟩
  refine (rtruncate_ok hx hwf hb hM n hn a).mono ?_
  rintro e w' ⟨rfl, ha⟩
  exact ⟨rfl, h2 _ _ _ ha (hb.truncate n a)⟩

theorem rename_p1 (h : Pq X w P p q D bo R S N T M) (hN : N ≤ 268435456) (f t : By) (hf : f.length ≤ 4611686018427387904) (ht : t.length ≤ 4611686018427387904) : Calls Tryz.prog 37 #[.pointer (some ⟨p, 0, none⟩), encStr f, encStr t] w fun e w' => e = .returned (.int .i64 (S.rename f t).1) ∧ Pq X w' P p q D bo R (S.rename f t).2 (N + 2) T M ∧ Keep (Mvs X P D bo) w w' := by
  obtain ⟨Y, hY, h1, h2⟩ := h.one
  refine (rename_ax h1 hN f t hf ht).mono ?_
  rintro e w' ⟨rfl, ha⟩
  exact ⟨rfl, h2 _ _ _ ha⟩
theorem rename_p2 (h : Pq X w P p q D bo R S N T M) (hM : M ≤ 268435456) (f t : By) (hf : f.length ≤ 4611686018427387904) (ht : t.length ≤ 4611686018427387904) : Calls Tryz.prog 66 #[.pointer (some ⟨q, 0, none⟩), encStr f, encStr t] w fun e w' => e = .returned (.int .i64 (T.rename f t).1) ∧ Pq X w' P p q D bo R S N (T.rename f t).2 (M + 2) ∧ Keep (Mvs X P D bo) w w' := by
  have hb := h.tw.bd2
  obtain ⟨A', o', h1, _, h2⟩ := h.two
  obtain ⟨hwf, nv, bv, tv, sv, hx⟩ := h1
  have h1 : RD w q T A' o' := ⟨hwf, _, _, _, _, hx⟩
  refine (rrename_ok hx hwf hb hM f t hf ht).mono ?_
  rintro e w' ⟨rfl, ha⟩
  exact ⟨rfl, h2 _ _ _ ha (hb.rename f t)⟩

theorem remove_p1 (h : Pq X w P p q D bo R S N T M) (hN : N ≤ 268435456) (n : By) (hn : n.length ≤ 4611686018427387904) : Calls Tryz.prog 43 #[.pointer (some ⟨p, 0, none⟩), encStr n] w fun e w' => e = .returned (.int .i64 (S.remove n).1) ∧ Pq X w' P p q D bo R (S.remove n).2 (N + 2) T M ∧ Keep (Mvs X P D bo) w w' := by
  obtain ⟨Y, hY, h1, h2⟩ := h.one
  refine (remove_ax h1 hN n hn).mono ?_
  rintro e w' ⟨rfl, ha⟩
  exact ⟨rfl, h2 _ _ _ ha⟩
theorem remove_p2 (h : Pq X w P p q D bo R S N T M) (hM : M ≤ 268435456) (n : By) (hn : n.length ≤ 4611686018427387904) : Calls Tryz.prog 67 #[.pointer (some ⟨q, 0, none⟩), encStr n] w fun e w' => e = .returned (.int .i64 (T.remove n).1) ∧ Pq X w' P p q D bo R S N (T.remove n).2 (M + 2) ∧ Keep (Mvs X P D bo) w w' := by
  have hb := h.tw.bd2
  obtain ⟨A', o', h1, _, h2⟩ := h.two
  obtain ⟨hwf, nv, bv, tv, sv, hx⟩ := h1
  have h1 : RD w q T A' o' := ⟨hwf, _, _, _, _, hx⟩
  refine (rremove_ok hx hwf hb hM n hn).mono ?_
  rintro e w' ⟨rfl, ha⟩
  exact ⟨rfl, h2 _ _ _ ha (hb.remove n)⟩

theorem sync_p1 (h : Pq X w P p q D bo R S N T M) (hN : N ≤ 268435456) (n : By) (hn : n.length ≤ 4611686018427387904) : Calls Tryz.prog 35 #[.pointer (some ⟨p, 0, none⟩), encStr n] w fun e w' => e = .returned (.int .i64 (S.sync n).1) ∧ Pq X w' P p q D bo R (S.sync n).2 (N + 1) T M ∧ Keep (Mvs X P D bo) w w' := by
  obtain ⟨Y, hY, h1, h2⟩ := h.one
  refine (sync_ax h1 hN n hn).mono ?_
  rintro e w' ⟨rfl, ha⟩
  exact ⟨rfl, h2 _ _ _ ha⟩
theorem sync_p2 (h : Pq X w P p q D bo R S N T M) (hM : M ≤ 268435456) (n : By) (hn : n.length ≤ 4611686018427387904) : Calls Tryz.prog 68 #[.pointer (some ⟨q, 0, none⟩), encStr n] w fun e w' => e = .returned (.int .i64 (T.sync n).1) ∧ Pq X w' P p q D bo R S N (T.sync n).2 (M + 1) ∧ Keep (Mvs X P D bo) w w' := by
  have hb := h.tw.bd2
  obtain ⟨A', o', h1, _, h2⟩ := h.two
  obtain ⟨hwf, nv, bv, tv, sv, hx⟩ := h1
  have h1 : RD w q T A' o' := ⟨hwf, _, _, _, _, hx⟩
  refine (rsync_ok hx hwf hb hM n hn).mono ?_
  rintro e w' ⟨rfl, ha⟩
  exact ⟨rfl, h2 _ _ _ ha (hb.sync h1.wf n)⟩

theorem syncNames_p1 (h : Pq X w P p q D bo R S N T M) (hN : N ≤ 268435456)  : Calls Tryz.prog 36 #[.pointer (some ⟨p, 0, none⟩)] w fun e w' => e = .returned (.int .i64 (S.syncNames).1) ∧ Pq X w' P p q D bo R (S.syncNames).2 (N + 1) T M ∧ Keep (Mvs X P D bo) w w' := by
  obtain ⟨Y, hY, h1, h2⟩ := h.one
  refine (syncNames_ax h1 hN ).mono ?_
  rintro e w' ⟨rfl, ha⟩
  exact ⟨rfl, h2 _ _ _ ha⟩
theorem syncNames_p2 (h : Pq X w P p q D bo R S N T M) (hM : M ≤ 268435456)  : Calls Tryz.prog 69 #[.pointer (some ⟨q, 0, none⟩)] w fun e w' => e = .returned (.int .i64 (T.syncNames).1) ∧ Pq X w' P p q D bo R S N (T.syncNames).2 (M + 1) ∧ Keep (Mvs X P D bo) w w' := by
  have hb := h.tw.bd2
  obtain ⟨A', o', h1, _, h2⟩ := h.two
  obtain ⟨hwf, nv, bv, tv, sv, hx⟩ := h1
  have h1 : RD w q T A' o' := ⟨hwf, _, _, _, _, hx⟩
  refine (rsyncNames_ok hx hwf hb hM ).mono ?_
  rintro e w' ⟨rfl, ha⟩
  exact ⟨rfl, h2 _ _ _ ha (hb.syncNames h1.wf)⟩

theorem plan_p1 (h : Pq X w P p q D bo R S N T M) (a b c : Int) (hp : (Lit.int .i64 a).wf = true ∧ (Lit.int .i64 b).wf = true ∧ (Lit.int .i64 c).wf = true) : Calls Tryz.prog 18 #[.pointer (some ⟨p, 0, none⟩), .agg #[.int .i64 a, .int .i64 b, .int .i64 c]] w fun e w' => e = .returned (.tuple #[]) ∧ Pq X w' P p q D bo R (S.setPlan a b c) N T M ∧ Keep (Mvs X P D bo) w w' := by
  obtain ⟨Y, hY, h1, h2⟩ := h.one
  refine (plan_ax h1 a b c hp).mono ?_
  rintro e w' ⟨rfl, ha⟩
  exact ⟨rfl, h2 _ _ _ ha⟩
theorem plan_p2 (h : Pq X w P p q D bo R S N T M) (a b c : Int) (hp : (Lit.int .i64 a).wf = true ∧ (Lit.int .i64 b).wf = true ∧ (Lit.int .i64 c).wf = true) : Calls Tryz.prog 99 #[.pointer (some ⟨q, 0, none⟩), .agg #[.int .i64 a, .int .i64 b, .int .i64 c]] w fun e w' => e = .returned (.tuple #[]) ∧ Pq X w' P p q D bo R S N (T.setPlan a b c) M ∧ Keep (Mvs X P D bo) w w' := by
  have hb := h.tw.bd2
  obtain ⟨A', o', h1, _, h2⟩ := h.two
  obtain ⟨hwf, nv, bv, tv, sv, hx⟩ := h1
  refine (rplan_ok hx hwf a b c hp).mono ?_
  rintro e w' ⟨rfl, ha⟩
  exact ⟨rfl, h2 _ _ _ ha (hb.setPlan a b c)⟩

theorem look_p1 (h : Pq X w P p q D bo R S N T M)  : Calls Tryz.prog 103 #[.pointer (some ⟨p, 0, none⟩)] w fun e w' => e = .returned (.tuple #[]) ∧ Pq X w' P p q D bo R (S.look) N T M ∧ Keep (Mvs X P D bo) w w' := by
  obtain ⟨Y, hY, h1, h2⟩ := h.one
  refine (look_ax h1 ).mono ?_
  rintro e w' ⟨rfl, ha⟩
  exact ⟨rfl, h2 _ _ _ ha⟩
theorem look_p2 (h : Pq X w P p q D bo R S N T M)  : Calls Tryz.prog 104 #[.pointer (some ⟨q, 0, none⟩)] w fun e w' => e = .returned (.tuple #[]) ∧ Pq X w' P p q D bo R S N (T.look) M ∧ Keep (Mvs X P D bo) w w' := by
  have hb := h.tw.bd2
  obtain ⟨A', o', h1, _, h2⟩ := h.two
  obtain ⟨hwf, nv, bv, tv, sv, hx⟩ := h1
  refine (rlook_ok hx hwf ).mono ?_
  rintro e w' ⟨rfl, ha⟩
  exact ⟨rfl, h2 _ _ _ ha (hb.look)⟩

theorem writeAt_p1 (h : Pq X w P p q D bo R S N T M) (n : By) (hn : n.length ≤ 4611686018427387904) (a : Int) (haw : (Lit.int .i64 a).wf = true) {ao : Option Addr} {m c : Nat} {d : By} (hN : N + m ≤ 268435456) (hl : d.length = m) (hs : Sl w ao d) (h0 : ao = none → m = 0) (hfar : d ≠ [] → ∀ a, ao = some a → X a.block ∨ prB P D bo a.block) : Calls Tryz.prog 59 #[.pointer (some ⟨p, 0, none⟩), encStr n, .int .i64 a, .slice ao m c] w fun e w' => e = .returned (.int .i64 (S.writeAt n a d).1) ∧ Pq X w' P p q D bo R (S.writeAt n a d).2 (N + m + 2) T M ∧ Keep (Mvs X P D bo) w w' := by
  obtain ⟨Y, hY, h1, h2⟩ := h.one
  refine (writeAt_ax h1 (Kept.refl [] w) hN n hn a hl hs h0 (fun hd a ha => .inr (hY _ (hfar hd a ha)))).mono ?_
  rintro e w' ⟨rfl, ha⟩
  exact ⟨rfl, h2 _ _ _ ha⟩
theorem writeAt_p2 (h : Pq X w P p q D bo R S N T M) (n : By) (hn : n.length ≤ 4611686018427387904) (a : Int) (haw : (Lit.int .i64 a).wf = true) {ao : Option Addr} {m c : Nat} {d : By} (hN : M + m ≤ 268435456) (hl : d.length = m) (hs : Sl w ao d) (h0 : ao = none → m = 0 ∧ c = 0) (hfar : d ≠ [] → ∀ a, ao = some a → X a.block ∨ prB P D bo a.block) : Calls Tryz.prog 61 #[.pointer (some ⟨q, 0, none⟩), encStr n, .int .i64 a, .slice ao m c] w fun e w' => e = .returned (.int .i64 (T.writeAt n a d).1) ∧ Pq X w' P p q D bo R S N (T.writeAt n a d).2 (M + m + 2) ∧ Keep (Mvs X P D bo) w w' := by
  have hb := h.tw.bd2
  obtain ⟨A', o', h1, h3, h2⟩ := h.two
  obtain ⟨hwf, nv, bv, tv, sv, hx⟩ := h1
  refine (rwriteAt_ok hx hwf hb n hn a haw ao m c d hN ⟨hl, hs, fun e => (h0 e).1, fun hd a ha => h3 _ (hfar hd a ha)⟩ h0).mono ?_
  rintro e w' ⟨rfl, ha⟩
  exact ⟨rfl, h2 _ _ _ ha (by have := hb.writeAt n a d; rw [hl] at this; exact this)⟩

theorem append_p1 (h : Pq X w P p q D bo R S N T M) (n : By) (hn : n.length ≤ 4611686018427387904) {ao : Option Addr} {m c : Nat} {d : By} (hN : N + m ≤ 268435456) (hl : d.length = m) (hs : Sl w ao d) (h0 : ao = none → m = 0) (hfar : d ≠ [] → ∀ a, ao = some a → X a.block ∨ prB P D bo a.block) : Calls Tryz.prog 19 #[.pointer (some ⟨p, 0, none⟩), encStr n, .slice ao m c] w fun e w' => e = .returned (.int .i64 (S.append n d).1) ∧ Pq X w' P p q D bo R (S.append n d).2 (N + m + 2) T M ∧ Keep (Mvs X P D bo) w w' := by
  obtain ⟨Y, hY, h1, h2⟩ := h.one
  refine (append_ax h1 (Kept.refl [] w) hN n hn hl hs h0 (fun hd a ha => .inr (hY _ (hfar hd a ha)))).mono ?_
  rintro e w' ⟨rfl, ha⟩
  exact ⟨rfl, h2 _ _ _ ha⟩
theorem append_p2 (h : Pq X w P p q D bo R S N T M) (n : By) (hn : n.length ≤ 4611686018427387904) {ao : Option Addr} {m c : Nat} {d : By} (hN : M + m ≤ 268435456) (hl : d.length = m) (hs : Sl w ao d) (h0 : ao = none → m = 0 ∧ c = 0) (hfar : d ≠ [] → ∀ a, ao = some a → X a.block ∨ prB P D bo a.block) : Calls Tryz.prog 63 #[.pointer (some ⟨q, 0, none⟩), encStr n, .slice ao m c] w fun e w' => e = .returned (.int .i64 (T.append n d).1) ∧ Pq X w' P p q D bo R S N (T.append n d).2 (M + m + 2) ∧ Keep (Mvs X P D bo) w w' := by
  have hb := h.tw.bd2
  obtain ⟨A', o', h1, h3, h2⟩ := h.two
  obtain ⟨hwf, nv, bv, tv, sv, hx⟩ := h1
  refine (rappend_ok hx hwf hb n hn ao m c d hN ⟨hl, hs, fun e => (h0 e).1, fun hd a ha => h3 _ (hfar hd a ha)⟩ h0).mono ?_
  rintro e w' ⟨rfl, ha⟩
  exact ⟨rfl, h2 _ _ _ ha (by have := hb.append n d; rw [hl] at this; exact this)⟩

theorem read_p1 (h : Pq X w P p q D bo R S N T M) (hN : N ≤ 268435456) (n : By) (hn : n.length ≤ 4611686018427387904) (a m : Int) : Calls Tryz.prog 38 #[.pointer (some ⟨p, 0, none⟩), encStr n, .int .i64 a, .int .i64 m] w fun e w' => ∃ v, e = .returned (.tuple #[v, .int .i64 (S.readOk n a m)]) ∧ Pq (fun b => X b ∨ v.ownBlock = some b) w' P p q D bo R (S.read n a m) (N + 1) T M ∧ Keep (Mvs X P D bo) w w' ∧ OwnB w' v (S.readBytes n a m).length (S.readBytes n a m) := by
  obtain ⟨A, o, A2, o2, h1, h2, h3, h4, h5, h6⟩ := h.tw
  refine (read_ok h1 h5 hN n hn a m).mono ?_
  rintro e w' ⟨v, rfl, A', o', g1, g2, g3, g4, g5⟩
  have hk : Keep (Mvs X P D bo) w w' := g3.mono (fun b hm _ hx => hm (h4 b hx).1)
  refine ⟨v, rfl, h.stepY ⟨A', o', A2, o2, g1, h2.keep g3 (fun b hb hm => hb (h3 b hm)), fun b hb => Classical.byContradiction fun hn => ?_, fun b hb => ?_, h5.read n a m, h6⟩ hk (fun b hb => ?_), hk, g4⟩
  · exact g2 b (h2.lim b hn) hb (Classical.byContradiction fun h8 => hn (h3 b h8))
  · have old : X b ∨ prB P D bo b → o' b = 0 ∧ o2 b = 0 ∧ b < w'.heap.size := fun hx => ⟨Classical.byContradiction fun hn => g2 b (h4 b hx).2.2 hn (h4 b hx).1, (h4 b hx).2.1, Nat.lt_of_lt_of_le (h4 b hx).2.2 g3.size⟩
    rcases hb with (hb | hb) | hb
    · exact old (.inl hb)
    · exact ⟨(g5 b hb).2, Classical.byContradiction fun hn => by have := h2.lim b hn; have := (g5 b hb).1; omega, g4.lt hb⟩
    · exact old (.inr hb)
  · rcases hb with hb | hb
    · exact h.far b hb
    · intro hp
      have := (h4 b (.inr hp)).2.2
      have := (g5 b hb).1
      omega
theorem read_p2 (h : Pq X w P p q D bo R S N T M) (hM : M ≤ 268435456) (n : By) (hn : n.length ≤ 4611686018427387904) (a m : Int) (ha : (Lit.int .i64 a).wf = true) (hm : (Lit.int .i64 m).wf = true) : Calls Tryz.prog 96 #[.pointer (some ⟨q, 0, none⟩), encStr n, .int .i64 a, .int .i64 m] w fun e w' => ∃ v, e = .returned (.tuple #[v, .int .i64 (T.readOk n a m)]) ∧ Pq X w' P p q D bo R S N (T.read n a m) (M + 1) ∧ Keep (Mvs X P D bo) w w' ∧ OwnB w' v (T.readBytes n a m).length (T.readBytes n a m) ∧ (∀ g, v.ownBlock = some g → w.heap.size ≤ g) := by
  have hb := h.tw.bd2
  obtain ⟨A', o', h1, _, h2⟩ := h.two
  obtain ⟨hwf, nv, bv, tv, sv, hx⟩ := h1
  refine (rread_ok hx hwf hb hM n hn a m ha hm).mono ?_
  rintro e w' ⟨v, rfl, g1, g2, g3⟩
  exact ⟨v, rfl, (h2 _ _ _ g1 (hb.read n a m)).1, (h2 _ _ _ g1 (hb.read n a m)).2, g2, g3⟩
theorem size_p1 (h : Pq X w P p q D bo R S N T M) (n : By) (hn : n.length ≤ 4611686018427387904) : Calls Tryz.prog 97 #[.pointer (some ⟨p, 0, none⟩), encStr n] w fun e w' => e = .returned (.tuple #[.int .i64 (S.size n), .int .i64 (S.find n).1]) ∧ w' = w := by
  obtain ⟨Y, hY, h1, h2⟩ := h.one
  exact size_ax h1 n hn
theorem size_p2 (h : Pq X w P p q D bo R S N T M) (hM : M ≤ 268435456) (n : By) (hn : n.length ≤ 4611686018427387904) : Calls Tryz.prog 98 #[.pointer (some ⟨q, 0, none⟩), encStr n] w fun e w' => e = .returned (.tuple #[.int .i64 (T.size n), .int .i64 (T.find n).1]) ∧ w' = w := by
  have hb := h.tw.bd2
  obtain ⟨A', o', h1, _, h2⟩ := h.two
  obtain ⟨hwf, nv, bv, tv, sv, hx⟩ := h1
  exact rsize_ok hx hwf (by have := hb.shown hwf; omega) n hn
theorem crash_p1 (h : Pq X w P p q D bo R S N T M) (hN : N ≤ 268435456) {ao : Option Addr} {n c : Nat} {ps : List Int} (hl : ps.length = n) (hr : Ints w ao ps) (hwf : ∀ i, (Lit.int .i64 (ps.getD i 0)).wf = true) (hn : n ≤ 17592186044416) (hfar : ps ≠ [] → ∀ a, ao = some a → X a.block ∨ prB P D bo a.block) : Calls Tryz.prog 41 #[.pointer (some ⟨p, 0, none⟩), .slice ao n c] w fun e w' => e = .returned (.tuple #[]) ∧ Pq X w' P p q D bo R (S.crash ps) N T M ∧ Keep (Mvs X P D bo) w w' := by
  obtain ⟨Y, hY, h1, h2⟩ := h.one
  refine (crash_ax h1 (Kept.refl [] w) hN hl hr hwf hn (fun hd a ha => .inr (hY _ (hfar hd a ha)))).mono ?_
  rintro e w' ⟨rfl, ha⟩
  exact ⟨rfl, h2 _ _ _ ha⟩
theorem crash_p2 (h : Pq X w P p q D bo R S N T M) (hM : M ≤ 268435456) {ao : Option Addr} {n c : Nat} {ps : List Int} (hl : ps.length = n) (hr : Ints w ao ps) (hw : ∀ x ∈ ps, (Lit.int .i64 x).wf = true) (hn : n ≤ 17592186044416) : Calls Tryz.prog 101 #[.pointer (some ⟨q, 0, none⟩), .slice ao n c] w fun e w' => e = .returned (.tuple #[]) ∧ Pq X w' P p q D bo R S N (T.crash ps) M ∧ Keep (Mvs X P D bo) w w' := by
  have hb := h.tw.bd2
  obtain ⟨A', o', h1, _, h2⟩ := h.two
  obtain ⟨hwf, nv, bv, tv, sv, hx⟩ := h1
  refine (rcrash_ok hx hwf hb hM ao n c ps hl hn hr hw).mono ?_
  rintro e w' ⟨rfl, ha⟩
  exact ⟨rfl, h2 _ _ _ ha (hb.crash hwf ps)⟩
/-- The desk laid with bytes that are X's. -/
theorem lay_p (h : Pq X w P p q D bo R S N T M) {ao : Option Addr} {n c : Nat} {d : By} (hl : d.length = n) (hs : Sl w ao d) (hfar : d ≠ [] → ∀ a, ao = some a → X a.block) (hn : n ≤ 200000) : Calls Tryz.prog 60 #[.pointer (some ⟨D, 0, none⟩), .slice ao n c] w fun e w' => ∃ g m, e = .returned (.slice (some ⟨g, 0, none⟩) n m) ∧ Pq X w' P p q D (some g) (laid d m) S N T M ∧ n + 5 ≤ m ∧ Keep (fun b => ¬ (X b ∨ b = P)) w w' := by
  refine (lay_any D bo ao n c d R w h.dk hl hs (fun hd a ha hm => ?_) hn).mono ?_
  · simp only [dkfp, List.mem_cons, Option.mem_toList, Option.mem_def] at hm
    exact h.far _ (hfar hd a ha) (.inr hm)
  rintro e w' ⟨g, m, rfl, hd, hm, hk, hg, h1⟩
  obtain ⟨v0, hv0⟩ := h.dp
  refine ⟨g, m, rfl, h.lay hk hd hg ⟨v0, h1.1 _ hv0⟩ ((h1.2 h.dk.lt).trans h.df), hm, (Keep.ofKept hk).mono (fun b hb _ hx => ?_)⟩
  simp only [dkfp, List.mem_cons, Option.mem_toList, Option.mem_def] at hb
  rcases hx with hx | hx
  · exact h.far b hx (.inr hb)
  · subst hx
    rcases hb with hb | hb
    · exact h.pD hb
    · exact h.pb hb
end
end Go.Proofs.YtmoaaimjgdbelaaGreat
