import Derived.Test.YtngaimahhgmciaaGreatDoorQlas
import Derived.Deep.DeepAppendWide
namespace Go.Proofs.YtngaimahhgmciaaGreatDoor
open Go.RowKit Go.Lib Go.Sort
set_option linter.unusedVariables false
set_option linter.unusedSimpArgs false
def rzrows (L : List Rz) : List Value := L.flatMap Rz.cells
theorem rzrows_snoc (L : List Rz) (z : Rz) : rzrows (L ++ [z]) = rzrows L ++ z.cells := by simp [rzrows]
theorem rzrows_len (L : List Rz) : (rzrows L).length = L.length * 65 := by
 induction L with
 | nil => rfl
 | cons a r ih =>
  have := a.len
  simp only [rzrows, List.flatMap_cons, List.length_append, List.length_cons] at ih ⊢
  omega
theorem rzrows_at {L : List Rz} {k j : Nat} (hk : k < L.length) (hj : j < 65) : (rzrows L)[k * 65 + j]? = (L.getD k rz0).cells[j]? := by
 induction L generalizing k with
 | nil => simp at hk
 | cons a r ih =>
  have ha := a.len
  have e : rzrows (a :: r) = a.cells ++ rzrows r := rfl
  cases k with
  | zero =>
   rw [e, List.getElem?_append_left (by omega)]
   simp
  | succ q =>
   rw [e, List.getElem?_append_right (by omega), ha, show (q + 1) * 65 + j - 65 = q * 65 + j by omega, ih (by simpa using hk)]
   rfl
def OwnZ (w : World) (base : Nat) (v : Value) (L : List Rz) : Prop := w.ownsRow base 30 65 v L.length (rzrows L)
theorem OwnZ.nil (w : World) (base : Nat) : OwnZ w base (.slice none 0 0) [] := ⟨rfl, .inl ⟨rfl, rfl⟩⟩
theorem OwnZ.rss {w : World} {base : Nat} {ao : Option Addr} {n c : Nat} {L : List Rz} (h : OwnZ w base (.slice ao n c) L) : Rss w ao L ∧ L.length = n ∧ n ≤ c := by
 obtain ⟨hl, h0⟩ := h
 rcases h0 with ⟨e, e2⟩ | ⟨g, cap, cur, e, hb, hg, hn, hm, hs, ht⟩
 ·injection e with e1 e3 e4
  subst e1 e3 e4
  exact ⟨fun k hk => by omega, by omega, Nat.le_refl _⟩
 ·injection e with e1 e3 e4
  subst e1 e3 e4
  refine ⟨fun k hk => ⟨g, 0, rfl, fun j v hv => ?_⟩, rfl, hn⟩
  have hj : j < 65 := by have := (List.getElem?_eq_some_iff.1 hv).1; rw [Rz.len] at this; exact this
  rw [cell_of_row _ _ _ _ _ _ hg, Nat.zero_add]
  rw [← rzrows_at hk hj, ← ht, List.getElem?_take, if_pos (by omega)] at hv
  simpa using hv
theorem OwnZ.kept {w w' : World} {base : Nat} {l : List Nat} {v : Value} {L : List Rz} (h : OwnZ w base v L) (hk : Kept l w w') (hn : ∀ g, v.ownBlock = some g → g ∉ l) : OwnZ w' base v L := by
 refine ⟨h.1, ?_⟩
 rcases h.2 with h1 | ⟨g, cap, cur, hv, hb, hg, rest⟩
 ·exact .inl h1
 ·refine .inr ⟨g, cap, cur, hv, hb, ?_, rest⟩
  rw [hk.block g (Array.getElem?_eq_some_iff.1 hg).1 (hn g (by rw [hv]; rfl))]
  exact hg
theorem OwnZ.far {w : World} {base : Nat} {ao : Option Addr} {n c : Nat} {L : List Rz} (h : OwnZ w base (.slice ao n c) L) : L ≠ [] → ∀ a, ao = some a → a.block < w.heap.size := fun _ a ha => by
 subst ha
 rcases h.2 with ⟨e, _⟩ | ⟨g, cap, cur, e, _, hg, _⟩
 ·cases e
 ·cases e
  exact (Array.getElem?_eq_some_iff.1 hg).1
theorem Tryz.infoRz9 : (Tryz.prog.info? 30).map (fun i => (i.size, i.bytes, i.zero)) = some (65, 72, some (.agg zeroRz)) := by kernel_rfl
theorem run_appZ {w : World} {base : Nat} {v : Value} {L : List Rz} (h : OwnZ w base v L) (hb : base ≤ w.heap.size) (z : Rz) (g : Nat) (hg : w.heap[g]? = some (.cells z.cells.toArray 30 (0, 0))) (hl : ((L.length + 1) + (L.length + 1) / 4 + 192) * 72 ≤ 281474976710656) :
  ∃ v' w', (Builtin.append_ #[23, 23] 23 #[v, .slice (some ⟨g, 0, none⟩) 1 1]).run Tryz.prog w = .ok v' w' ∧ OwnZ w' base v' (L ++ [z]) ∧ (∀ l, (∀ g, v.ownBlock = some g → g ∈ l) → Kept l w w') := by
 obtain ⟨i, hi, hx⟩ := Option.map_eq_some_iff.1 Tryz.infoRz9
 injection hx with e1 hx
 injection hx with e2 e3
 obtain ⟨v', w', hrun, h1', h2, _⟩ := run_append_own_wide (P := Tryz.prog) w base 23 23 30 i (.agg zeroRz) 65 72 Tryz.underlying23 hi e3 e1 e2 rfl (by omega) v L.length (rzrows L) h ⟨g, 0, none⟩ 1 1 z.cells (by rw [Rz.len])
  (fun j u hj => by rw [Addr.add_mid, Nat.zero_add, cell_of_row _ _ _ _ _ _ hg]; simpa using hj) (rz_one z) (by unfold maxLen; omega) hl hb
 refine ⟨v', w', hrun, ?_, fun l hl2 => (Kept.refl l w).grown h2 (fun k hk _ => hl2 k hk)⟩
 unfold OwnZ
 rw [List.length_append, rzrows_snoc]
 exact h1'
set_option maxHeartbeats 1600000 in
set_option maxRecDepth 100000 in
theorem fault9_ok (eb bx : Nat) (w : World) (old : Value) (hc : w.cell? ⟨bx, 0, none⟩ = some old) (hf : w.frozen? ⟨bx, 0, none⟩ = false) :
  Calls Tryz.prog 26 #[faultV eb, .pointer (some ⟨bx, 0, none⟩)] w fun e w' => e = .returned (.bool true) ∧ w'.cell? ⟨bx, 0, none⟩ = some (.pointer (some ⟨eb, 0, none⟩)) ∧ Kept [bx] w w' := by
 have HC : Hid (w.cell? ⟨bx, 0, none⟩ = some old) := hide hc
 have hta : ∀ (v : Value) (W : World), (Instr.typeAssert (.iface 59 v) 44 59 true).run Tryz.prog W = .ok (.tuple #[v, .bool true]) W := fun v W => by kernel_rfl
 unfold faultV
 go_enter Tryz.func26, Tryz.ntmps26
 go_wp2
 go_ret
 exact ⟨rfl, World.cell?_setCell_same _ _ _ HC.out, (Kept.refl [bx] w).setCell (fun _ => by simp) _⟩
end Go.Proofs.YtngaimahhgmciaaGreatDoor
