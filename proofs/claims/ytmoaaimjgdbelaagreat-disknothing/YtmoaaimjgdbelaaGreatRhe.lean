/-
  The calls of a pair of nothing. (Written by tools/rhe.py.)
-/
import Derived.Test.YtmoaaimjgdbelaaGreatRhd
namespace Go.Proofs.YtmoaaimjgdbelaaGreat
open Go.RowKit Dsk
set_option linter.unusedVariables false
set_option linter.unusedSimpArgs false
section
variable {X : Nat → Prop} {w : World} {P D : Nat} {dv rv : Value} {bo : Option Nat} {R : List UInt8}

theorem Nq.look1 {w' : World} (h : Nq X w P dv rv D bo R) (ho : OffD dv w') (hk : Keep (fun b => dv = .pointer (some ⟨b, 0, none⟩)) w w') : Nq X w' P dv rv D bo R := by
  obtain ⟨v0, hv0⟩ := h.dp
  have hp : ∀ b, prB P D bo b → dv ≠ .pointer (some ⟨b, 0, none⟩) := fun b hb e => (h.dz b e).2 hb
  have hD := hp D (.inr (.inl rfl))
  refine ⟨ho, h.oe.keep hk (fun b e e2 => off_ne h.od h.oe e2 e), ?_, ⟨hk.cellOf h.dk.cell hD, (hk.frozen (World.block_lt_of_cell? _ _ h.dk.cell) hD).trans h.dk.fr, h.dk.none, fun g e => ⟨(h.dk.row g e).1, ?_⟩, h.dk.small⟩, ⟨v0, hk.cellOf hv0 hD⟩, (hk.frozen (World.block_lt_of_cell? _ _ hv0) hD).trans h.df, h.far, fun b hb => Nat.lt_of_lt_of_le (h.lim b hb) hk.size, h.dz, h.ez, h.pD, h.pb⟩
  · rw [hk.block P (Array.getElem?_eq_some_iff.1 h.cells).1 (hp P (.inl rfl))]; exact h.cells
  · rw [hk.block g (Array.getElem?_eq_some_iff.1 (h.dk.row g e).2).1 (hp g (.inr (.inr e)))]; exact (h.dk.row g e).2
theorem Nq.look2 {w' : World} (h : Nq X w P dv rv D bo R) (ho : OffR rv w') (hk : Keep (fun b => rv = .pointer (some ⟨b, 0, none⟩)) w w') : Nq X w' P dv rv D bo R := by
  obtain ⟨v0, hv0⟩ := h.dp
  have hp : ∀ b, prB P D bo b → rv ≠ .pointer (some ⟨b, 0, none⟩) := fun b hb e => (h.ez b e).2 hb
  have hD := hp D (.inr (.inl rfl))
  refine ⟨h.od.keep hk (fun b e e2 => off_ne h.od h.oe e e2), ho, ?_, ⟨hk.cellOf h.dk.cell hD, (hk.frozen (World.block_lt_of_cell? _ _ h.dk.cell) hD).trans h.dk.fr, h.dk.none, fun g e => ⟨(h.dk.row g e).1, ?_⟩, h.dk.small⟩, ⟨v0, hk.cellOf hv0 hD⟩, (hk.frozen (World.block_lt_of_cell? _ _ hv0) hD).trans h.df, h.far, fun b hb => Nat.lt_of_lt_of_le (h.lim b hb) hk.size, h.dz, h.ez, h.pD, h.pb⟩
  · rw [hk.block P (Array.getElem?_eq_some_iff.1 h.cells).1 (hp P (.inl rfl))]; exact h.cells
  · rw [hk.block g (Array.getElem?_eq_some_iff.1 (h.dk.row g e).2).1 (hp g (.inr (.inr e)))]; exact (h.dk.row g e).2

theorem create_n1 (h : Nq X w P dv rv D bo R) (hN : 0 ≤ 1) (n : By) (hn : n.length ≤ 4611686018427387904) : Calls Tryz.prog 17 #[dv, encStr n] w fun e w' => e = .returned (.int .i64 50) ∧ Nq X w' P dv rv D bo R ∧ Keep (Mvs X P D bo) w w' := by
  refine (create_z h.od n).mono ?_
  rintro e w' ⟨rfl, hw⟩
  subst hw
  exact ⟨rfl, h, Keep.refl _ _⟩

theorem create_n2 (h : Nq X w P dv rv D bo R) (hM : 0 ≤ 1) (n : By) (hn : n.length ≤ 4611686018427387904) : Calls Tryz.prog 58 #[rv, encStr n] w fun e w' => e = .returned (.int .i64 50) ∧ Nq X w' P dv rv D bo R ∧ Keep (Mvs X P D bo) w w' := by
  refine (rcreate_z h.oe n).mono ?_
  rintro e w' ⟨rfl, hw⟩
  subst hw
  exact ⟨rfl, h, Keep.refl _ _⟩

theorem truncate_n1 (h : Nq X w P dv rv D bo R) (hN : 0 ≤ 1) (n : By) (hn : n.length ≤ 4611686018427387904) (a : Int) : Calls Tryz.prog 64 #[dv, encStr n, .int .i64 a] w fun e w' => e = .returned (.int .i64 50) ∧ Nq X w' P dv rv D bo R ∧ Keep (Mvs X P D bo) w w' := by
  refine (truncate_z h.od n a).mono ?_
  rintro e w' ⟨rfl, hw⟩
  subst hw
  exact ⟨rfl, h, Keep.refl _ _⟩

theorem truncate_n2 (h : Nq X w P dv rv D bo R) (hM : 0 ≤ 1) (n : By) (hn : n.length ≤ 4611686018427387904) (a : Int) : Calls Tryz.prog 65 #[rv, encStr n, .int .i64 a] w fun e w' => e = .returned (.int .i64 50) ∧ Nq X w' P dv rv D bo R ∧ Keep (Mvs X P D bo) w w' := by
  refine (rtruncate_z h.oe n a).mono ?_
  rintro e w' ⟨rfl, hw⟩
  subst hw
  exact ⟨rfl, h, Keep.refl _ _⟩

theorem rename_n1 (h : Nq X w P dv rv D bo R) (hN : 0 ≤ 1) (f t : By) (hf : f.length ≤ 4611686018427387904) (ht : t.length ≤ 4611686018427387904) : Calls Tryz.prog 37 #[dv, encStr f, encStr t] w fun e w' => e = .returned (.int .i64 50) ∧ Nq X w' P dv rv D bo R ∧ Keep (Mvs X P D bo) w w' := by
  refine (rename_z h.od f t).mono ?_
  rintro e w' ⟨rfl, hw⟩
  subst hw
  exact ⟨rfl, h, Keep.refl _ _⟩

theorem rename_n2 (h : Nq X w P dv rv D bo R) (hM : 0 ≤ 1) (f t : By) (hf : f.length ≤ 4611686018427387904) (ht : t.length ≤ 4611686018427387904) : Calls Tryz.prog 66 #[rv, encStr f, encStr t] w fun e w' => e = .returned (.int .i64 50) ∧ Nq X w' P dv rv D bo R ∧ Keep (Mvs X P D bo) w w' := by
  refine (rrename_z h.oe f t).mono ?_
  rintro e w' ⟨rfl, hw⟩
  subst hw
  exact ⟨rfl, h, Keep.refl _ _⟩

theorem remove_n1 (h : Nq X w P dv rv D bo R) (hN : 0 ≤ 1) (n : By) (hn : n.length ≤ 4611686018427387904) : Calls Tryz.prog 43 #[dv, encStr n] w fun e w' => e = .returned (.int .i64 50) ∧ Nq X w' P dv rv D bo R ∧ Keep (Mvs X P D bo) w w' := by
  refine (remove_z h.od n).mono ?_
  rintro e w' ⟨rfl, hw⟩
  subst hw
  exact ⟨rfl, h, Keep.refl _ _⟩

theorem remove_n2 (h : Nq X w P dv rv D bo R) (hM : 0 ≤ 1) (n : By) (hn : n.length ≤ 4611686018427387904) : Calls Tryz.prog 67 #[rv, encStr n] w fun e w' => e = .returned (.int .i64 50) ∧ Nq X w' P dv rv D bo R ∧ Keep (Mvs X P D bo) w w' := by
  refine (rremove_z h.oe n).mono ?_
  rintro e w' ⟨rfl, hw⟩
  subst hw
  exact ⟨rfl, h, Keep.refl _ _⟩

theorem sync_n1 (h : Nq X w P dv rv D bo R) (hN : 0 ≤ 1) (n : By) (hn : n.length ≤ 4611686018427387904) : Calls Tryz.prog 35 #[dv, encStr n] w fun e w' => e = .returned (.int .i64 50) ∧ Nq X w' P dv rv D bo R ∧ Keep (Mvs X P D bo) w w' := by
  refine (sync_z h.od n).mono ?_
  rintro e w' ⟨rfl, hw⟩
  subst hw
  exact ⟨rfl, h, Keep.refl _ _⟩

theorem sync_n2 (h : Nq X w P dv rv D bo R) (hM : 0 ≤ 1) (n : By) (hn : n.length ≤ 4611686018427387904) : Calls Tryz.prog 68 #[rv, encStr n] w fun e w' => e = .returned (.int .i64 50) ∧ Nq X w' P dv rv D bo R ∧ Keep (Mvs X P D bo) w w' := by
  refine (rsync_z h.oe n).mono ?_
  rintro e w' ⟨rfl, hw⟩
  subst hw
  exact ⟨rfl, h, Keep.refl _ _⟩

theorem syncNames_n1 (h : Nq X w P dv rv D bo R) (hN : 0 ≤ 1)  : Calls Tryz.prog 36 #[dv] w fun e w' => e = .returned (.int .i64 50) ∧ Nq X w' P dv rv D bo R ∧ Keep (Mvs X P D bo) w w' := by
  refine (syncNames_z h.od ).mono ?_
  rintro e w' ⟨rfl, hw⟩
  subst hw
  exact ⟨rfl, h, Keep.refl _ _⟩

theorem syncNames_n2 (h : Nq X w P dv rv D bo R) (hM : 0 ≤ 1)  : Calls Tryz.prog 69 #[rv] w fun e w' => e = .returned (.int .i64 50) ∧ Nq X w' P dv rv D bo R ∧ Keep (Mvs X P D bo) w w' := by
  refine (rsyncNames_z h.oe ).mono ?_
  rintro e w' ⟨rfl, hw⟩
  subst hw
  exact ⟨rfl, h, Keep.refl _ _⟩

theorem writeAt_n1 (h : Nq X w P dv rv D bo R) (n : By) (hn : n.length ≤ 4611686018427387904) (a : Int) (haw : (Lit.int .i64 a).wf = true) {ao : Option Addr} {m c : Nat} {d : By} (hN : 0 ≤ 1) (hl : d.length = m) (hs : Sl w ao d) (h0 : ao = none → m = 0) (hfar : d ≠ [] → ∀ a, ao = some a → X a.block ∨ prB P D bo a.block) : Calls Tryz.prog 59 #[dv, encStr n, .int .i64 a, .slice ao m c] w fun e w' => e = .returned (.int .i64 50) ∧ Nq X w' P dv rv D bo R ∧ Keep (Mvs X P D bo) w w' := by
  refine (writeat_z h.od n a _).mono ?_
  rintro e w' ⟨rfl, hw⟩
  subst hw
  exact ⟨rfl, h, Keep.refl _ _⟩

theorem writeAt_n2 (h : Nq X w P dv rv D bo R) (n : By) (hn : n.length ≤ 4611686018427387904) (a : Int) (haw : (Lit.int .i64 a).wf = true) {ao : Option Addr} {m c : Nat} {d : By} (hN : 0 ≤ 1) (hl : d.length = m) (hs : Sl w ao d) (h0 : ao = none → m = 0 ∧ c = 0) (hfar : d ≠ [] → ∀ a, ao = some a → X a.block ∨ prB P D bo a.block) : Calls Tryz.prog 61 #[rv, encStr n, .int .i64 a, .slice ao m c] w fun e w' => e = .returned (.int .i64 50) ∧ Nq X w' P dv rv D bo R ∧ Keep (Mvs X P D bo) w w' := by
  refine (rwriteat_z h.oe n a _).mono ?_
  rintro e w' ⟨rfl, hw⟩
  subst hw
  exact ⟨rfl, h, Keep.refl _ _⟩

theorem append_n1 (h : Nq X w P dv rv D bo R) (n : By) (hn : n.length ≤ 4611686018427387904) {ao : Option Addr} {m c : Nat} {d : By} (hN : 0 ≤ 1) (hl : d.length = m) (hs : Sl w ao d) (h0 : ao = none → m = 0) (hfar : d ≠ [] → ∀ a, ao = some a → X a.block ∨ prB P D bo a.block) : Calls Tryz.prog 19 #[dv, encStr n, .slice ao m c] w fun e w' => e = .returned (.int .i64 50) ∧ Nq X w' P dv rv D bo R ∧ Keep (Mvs X P D bo) w w' := by
  refine (append_z h.od n _).mono ?_
  rintro e w' ⟨rfl, hw⟩
  subst hw
  exact ⟨rfl, h, Keep.refl _ _⟩

theorem append_n2 (h : Nq X w P dv rv D bo R) (n : By) (hn : n.length ≤ 4611686018427387904) {ao : Option Addr} {m c : Nat} {d : By} (hN : 0 ≤ 1) (hl : d.length = m) (hs : Sl w ao d) (h0 : ao = none → m = 0 ∧ c = 0) (hfar : d ≠ [] → ∀ a, ao = some a → X a.block ∨ prB P D bo a.block) : Calls Tryz.prog 63 #[rv, encStr n, .slice ao m c] w fun e w' => e = .returned (.int .i64 50) ∧ Nq X w' P dv rv D bo R ∧ Keep (Mvs X P D bo) w w' := by
  refine (rappend_z h.oe n _).mono ?_
  rintro e w' ⟨rfl, hw⟩
  subst hw
  exact ⟨rfl, h, Keep.refl _ _⟩

theorem plan_n1 (h : Nq X w P dv rv D bo R) (a b c : Int) (hp : (Lit.int .i64 a).wf = true ∧ (Lit.int .i64 b).wf = true ∧ (Lit.int .i64 c).wf = true) : Calls Tryz.prog 18 #[dv, .agg #[.int .i64 a, .int .i64 b, .int .i64 c]] w fun e w' => e = .returned (.tuple #[]) ∧ Nq X w' P dv rv D bo R ∧ Keep (Mvs X P D bo) w w' := by
  refine (plan_z h.od a b c).mono ?_
  rintro e w' ⟨rfl, hk⟩
  exact ⟨rfl, h.kept hk, Keep.ofNone hk⟩

theorem look_n1 (h : Nq X w P dv rv D bo R)  : Calls Tryz.prog 103 #[dv] w fun e w' => e = .returned (.tuple #[]) ∧ Nq X w' P dv rv D bo R ∧ Keep (Mvs X P D bo) w w' := by
  refine (look_z h.od).mono ?_
  rintro e w' ⟨rfl, ho, hk⟩
  refine ⟨rfl, ?_, hk.mono (fun b e _ hx => hx.elim (h.dz b e).1 (h.dz b e).2)⟩
  have h1 := h.od
  have h2 := h.oe
  obtain ⟨v0, hv0⟩ := h.dp
  exact Nq.look1 h ho hk

theorem crash_n1 (h : Nq X w P dv rv D bo R) (hN : 0 ≤ 1) {ao : Option Addr} {n c : Nat} {ps : List Int} (hl : ps.length = n) (hr : Ints w ao ps) (hwf : ∀ i, (Lit.int .i64 (ps.getD i 0)).wf = true) (hn : n ≤ 17592186044416) (hfar : ps ≠ [] → ∀ a, ao = some a → X a.block ∨ prB P D bo a.block) : Calls Tryz.prog 41 #[dv, .slice ao n c] w fun e w' => e = .returned (.tuple #[]) ∧ Nq X w' P dv rv D bo R ∧ Keep (Mvs X P D bo) w w' := by
  refine (crash_z h.od _).mono ?_
  rintro e w' ⟨rfl, hw⟩
  subst hw
  exact ⟨rfl, h, Keep.refl _ _⟩

theorem size_n1 (h : Nq X w P dv rv D bo R) (n : By) (hn : n.length ≤ 4611686018427387904) : Calls Tryz.prog 97 #[dv, encStr n] w fun e w' => e = .returned (.tuple #[.int .i64 0, .int .i64 50]) ∧ w' = w := by
  exact size_z h.od n

theorem read_n1 (h : Nq X w P dv rv D bo R) (hN : 0 ≤ 1) (n : By) (hn : n.length ≤ 4611686018427387904) (a m : Int) : Calls Tryz.prog 38 #[dv, encStr n, .int .i64 a, .int .i64 m] w fun e w' => ∃ v, e = .returned (.tuple #[v, .int .i64 50]) ∧ Nq (fun b => X b ∨ v.ownBlock = some b) w' P dv rv D bo R ∧ Keep (Mvs X P D bo) w w' ∧ OwnB w' v ([] : By).length ([] : By) := by
  refine (read_z h.od n a m).mono ?_
  rintro e w' ⟨rfl, hw⟩
  subst hw
  exact ⟨_, rfl, h.less (fun b hb => hb.elim id (fun e => by cases e)), Keep.refl _ _, ⟨rfl, .inl ⟨rfl, rfl⟩⟩⟩

theorem list_n1 (h : Nq X w P dv rv D bo R) (hN : 0 ≤ 1) (n : By) (hn : n.length ≤ 4611686018427387904) : Calls Tryz.prog 56 #[dv, encStr n] w fun e w' => ∃ v, e = .returned v ∧ Tl w w' v [] := by
  refine (list_z h.od n).mono ?_
  rintro e w' ⟨rfl, hw⟩
  subst hw
  exact ⟨_, rfl, World.ownsRow_nil _ _ _ _, (fun g e => by cases e), Kept.refl [] _⟩

theorem plan_n2 (h : Nq X w P dv rv D bo R) (a b c : Int) (hp : (Lit.int .i64 a).wf = true ∧ (Lit.int .i64 b).wf = true ∧ (Lit.int .i64 c).wf = true) : Calls Tryz.prog 99 #[rv, .agg #[.int .i64 a, .int .i64 b, .int .i64 c]] w fun e w' => e = .returned (.tuple #[]) ∧ Nq X w' P dv rv D bo R ∧ Keep (Mvs X P D bo) w w' := by
  refine (rplan_z h.oe a b c).mono ?_
  rintro e w' ⟨rfl, hk⟩
  exact ⟨rfl, h.kept hk, Keep.ofNone hk⟩

theorem look_n2 (h : Nq X w P dv rv D bo R)  : Calls Tryz.prog 104 #[rv] w fun e w' => e = .returned (.tuple #[]) ∧ Nq X w' P dv rv D bo R ∧ Keep (Mvs X P D bo) w w' := by
  refine (rlook_z h.oe).mono ?_
  rintro e w' ⟨rfl, ho, hk⟩
  refine ⟨rfl, ?_, hk.mono (fun b e _ hx => hx.elim (h.ez b e).1 (h.ez b e).2)⟩
  have h1 := h.od
  have h2 := h.oe
  obtain ⟨v0, hv0⟩ := h.dp
  exact Nq.look2 h ho hk

theorem crash_n2 (h : Nq X w P dv rv D bo R) (hM : 0 ≤ 1) {ao : Option Addr} {n c : Nat} {ps : List Int} (hl : ps.length = n) (hr : Ints w ao ps) (hw : ∀ x ∈ ps, (Lit.int .i64 x).wf = true) (hn : n ≤ 17592186044416) : Calls Tryz.prog 101 #[rv, .slice ao n c] w fun e w' => e = .returned (.tuple #[]) ∧ Nq X w' P dv rv D bo R ∧ Keep (Mvs X P D bo) w w' := by
  refine (rcrash_z h.oe _).mono ?_
  rintro e w' ⟨rfl, hw⟩
  subst hw
  exact ⟨rfl, h, Keep.refl _ _⟩

theorem size_n2 (h : Nq X w P dv rv D bo R) (hM : 0 ≤ 1) (n : By) (hn : n.length ≤ 4611686018427387904) : Calls Tryz.prog 98 #[rv, encStr n] w fun e w' => e = .returned (.tuple #[.int .i64 0, .int .i64 50]) ∧ w' = w := by
  exact rsize_z h.oe n

theorem read_n2 (h : Nq X w P dv rv D bo R) (hM : 0 ≤ 1) (n : By) (hn : n.length ≤ 4611686018427387904) (a m : Int) (ha : (Lit.int .i64 a).wf = true) (hm : (Lit.int .i64 m).wf = true) : Calls Tryz.prog 96 #[rv, encStr n, .int .i64 a, .int .i64 m] w fun e w' => ∃ v, e = .returned (.tuple #[v, .int .i64 50]) ∧ Nq X w' P dv rv D bo R ∧ Keep (Mvs X P D bo) w w' ∧ OwnB w' v ([] : By).length ([] : By) ∧ (∀ g, v.ownBlock = some g → w.heap.size ≤ g) := by
  refine (rread_z h.oe n a m).mono ?_
  rintro e w' ⟨rfl, hw⟩
  subst hw
  exact ⟨_, rfl, h, Keep.refl _ _, ⟨rfl, .inl ⟨rfl, rfl⟩⟩, fun g e => by cases e⟩

theorem list_n2 (h : Nq X w P dv rv D bo R) (hM : 0 ≤ 1) (n : By) (hn : n.length ≤ 4611686018427387904) : Calls Tryz.prog 57 #[rv, encStr n] w fun e w' => ∃ v, e = .returned v ∧ Tl w w' v [] := by
  refine (rlist_z h.oe n).mono ?_
  rintro e w' ⟨rfl, hw⟩
  subst hw
  exact ⟨_, rfl, World.ownsRow_nil _ _ _ _, (fun g e => by cases e), Kept.refl [] _⟩

theorem lay_n (h : Nq X w P dv rv D bo R) {ao : Option Addr} {n c : Nat} {d : By} (hl : d.length = n) (hs : Sl w ao d) (hfar : d ≠ [] → ∀ a, ao = some a → X a.block) (hn : n ≤ 200000) : Calls Tryz.prog 60 #[.pointer (some ⟨D, 0, none⟩), .slice ao n c] w fun e w' => ∃ g m, e = .returned (.slice (some ⟨g, 0, none⟩) n m) ∧ Nq X w' P dv rv D (some g) (laid d m) ∧ n + 5 ≤ m ∧ Keep (fun b => ¬ (X b ∨ b = P)) w w' := by
  refine (lay_any D bo ao n c d R w h.dk hl hs (fun hd a ha hm => ?_) hn).mono ?_
  · simp only [dkfp, List.mem_cons, Option.mem_toList, Option.mem_def] at hm
    exact h.far _ (hfar hd a ha) (.inr hm)
  rintro e w' ⟨g, m, rfl, hd, hm, hk, hg, h1⟩
  obtain ⟨v0, hv0⟩ := h.dp
  refine ⟨g, m, rfl, h.lay hk hd hg ⟨v0, h1.1 _ hv0⟩ ((h1.2 h.dk.lt).trans h.df), hm, (Keep.ofKept hk).mono (fun b hb _ hx => ?_)⟩
  simp only [dkfp, List.mem_cons, Option.mem_toList, Option.mem_def] at hb
  rcases hx with hx | hx
  · exact h.far b hx (.inr hb)
  · subst hx
    rcases hb with hb | hb
    · exact h.pD hb
    · exact h.pb hb

theorem pick_n (h : Nq X w P dv rv D bo R) {ao : Option Addr} {n c : Nat} {ps : List Int} (hl : ps.length = n) (hs : Ints w ao ps) (hfar : ps ≠ [] → ∀ a, ao = some a → X a.block) (hn : n ≤ 1000000) : Calls Tryz.prog 100 #[.pointer (some ⟨D, 0, none⟩), .slice ao n c] w fun e w' => ∃ g, e = .returned (.slice (some ⟨g, 0, none⟩) n (n + 3)) ∧ Nq (fun b => X b ∨ b = g) w' P dv rv D bo R ∧ Pk w' D g (plaid ps) ∧ Keep (fun b => ¬ (X b ∨ b = P)) w w' := by
  obtain ⟨v0, hv0⟩ := h.dp
  refine (picks_ok D ao n c ps w v0 hv0 h.df hl hs (fun hd a ha e => h.far _ (hfar hd a ha) (.inr (.inl e))) hn).mono ?_
  rintro e w' ⟨g, rfl, hp, hk, hg, hf, h0⟩
  refine ⟨g, rfl, h.pick hk h0 ⟨_, hp.cell⟩ hf (fun b hb => ?_), hp, (Keep.ofKept hk).mono (fun b hb _ hx => ?_)⟩
  · rcases hb with hb | rfl
    · exact ⟨.inl hb, Nat.lt_of_lt_of_le (h.lt hb) hk.size⟩
    · exact ⟨.inr hg, (Array.getElem?_eq_some_iff.1 hp.row).1⟩
  · obtain rfl : b = D := by simpa using hb
    rcases hx with hx | hx
    · exact h.far _ hx (.inr (.inl rfl))
    · exact h.pD hx.symm

end
end Go.Proofs.YtmoaaimjgdbelaaGreat
