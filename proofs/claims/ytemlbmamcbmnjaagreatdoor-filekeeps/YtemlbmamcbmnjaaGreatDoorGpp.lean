/-
  Names in a map: look-up, store, strike. Contracts: making.apply, giving.apply, taking.apply.
-/
import Derived.Test.YtemlbmamcbmnjaaGreatDoorGnp
import Derived.Maps.OwnSet
namespace Go.Proofs.YtemlbmamcbmnjaaGreatDoor
open Go.RowKit Dsk
set_option linter.unusedVariables false
set_option linter.unusedSimpArgs false

theorem Tryz.keyed : Maps.Keyed Tryz.prog 9 := Maps.string_keyed Tryz.underlying9
theorem key_str (n : By) (hn : n.length ≤ maxLen) : keyOf Tryz.prog 9 (encStr n) = some (.string n) := by
  have := WideMaps.keyOf_string_mk (P := Tryz.prog) Tryz.underlying9 (s := ⟨n.toArray⟩) (by simpa [ByteArray.size] using hn)
  simpa using this

theorem Mp.look {w : World} {b : Nat} {A : Nat → Nat} {l : Nm} (h : Mp w b A l) (n : By) (hn : n.length ≤ maxLen) :
    (Instr.lookup 92 (.map (some b)) (encStr n) false).run Tryz.prog w = .ok (match l.get n with | some k => .pointer (some ⟨A k, 0, none⟩) | none => .pointer none) w := by
  obtain ⟨v, ps, hrun, hv⟩ := h.lookup Tryz.keyed Tryz.underlying92 (z := .pointer none) (by kernel_rfl) (zd := .nil) (zp := []) rfl (key_str n hn)
  rw [hrun]
  rw [nmD_at] at hv
  cases hg : l.get n with
  | none => rw [hg] at hv; rw [ptrElem_nil_inv hv]
  | some k => rw [hg] at hv; rw [ptrElem_some_inv hv]
set_option maxRecDepth 100000 in
theorem Mp.put {w : World} {b : Nat} {A : Nat → Nat} {l : Nm} (h : Mp w b A l) (n : By) (k : Nat) (hn : n.length ≤ maxLen) (hl : l.length < maxLen) :
    ∃ w', (Instr.mapUpdate 92 (.map (some b)) (encStr n) (.pointer (some ⟨A k, 0, none⟩))).run Tryz.prog w = .ok () w' ∧ Mp w' b A (l.put n k) ∧ Keep (· = b) w w' := by
  obtain ⟨w', hrun, h1, h2⟩ := h.update Tryz.keyed Tryz.underlying92 hl (key_str n hn) (val := .pointer (some ⟨A k, 0, none⟩)) (d := .lit (.int .i64 (A k))) (ps := []) rfl
  rw [nmD_put] at h1
  exact ⟨w', hrun, Mp.of h1, (Keep.refl _ w).grown h2 (fun j e _ => by injection e with e; exact e.symm)⟩
set_option maxRecDepth 100000 in
theorem Mp.del {w : World} {b : Nat} {A : Nat → Nat} {l : Nm} (h : Mp w b A l) (n : By) (hn : n.length ≤ maxLen) (ty : TypeId) :
    ∃ w', (Builtin.delete_ #[92, 9] ty #[.map (some b), encStr n]).run Tryz.prog w = .ok (.tuple #[]) w' ∧ Mp w' b A (l.del n) ∧ Keep (· = b) w w' := by
  obtain ⟨w', hrun, h1, h2⟩ := World.ownsMap.drop h Tryz.keyed Tryz.underlying92 (key_str n hn) ty
  rw [nmD_del] at h1
  exact ⟨w', hrun, Mp.of h1, (Keep.refl _ w).grown h2.grown (fun j e _ => by injection e with e; exact e.symm)⟩

def ncFunc : Nc → Nat
  | .mk _ _ => 176
  | .gv _ _ => 179
  | .tk _ => 180
def ncVal (A : Nat → Nat) : Nc → Value
  | .mk n k => .agg #[encStr n, .pointer (some ⟨A k, 0, none⟩)]
  | .gv f t => .agg #[encStr f, encStr t]
  | .tk n => .agg #[encStr n]

set_option maxHeartbeats 800000 in
set_option maxRecDepth 100000 in
theorem mkApply_ok (n : By) (k b : Nat) (A : Nat → Nat) (l : Nm) (w : World) (h : Mp w b A l) (hn : n.length ≤ 112) (hl : l.length < 1073741824) :
    Calls Tryz.prog 176 #[.agg #[encStr n, .pointer (some ⟨A k, 0, none⟩)], .map (some b)] w fun e w' => e = .returned (.tuple #[]) ∧ Mp w' b A (l.put n k) ∧ Keep (· = b) w w' := by
  have hk0 : Keep (· = b) w (w.alloc (.cells #[encStr n, .pointer (some ⟨A k, 0, none⟩)] 141)) := (Keep.refl _ w).alloc _
  have h0 : Mp (w.alloc (.cells #[encStr n, .pointer (some ⟨A k, 0, none⟩)] 141)) b A l := World.ownsMap.alloc h _
  obtain ⟨w1, hrun, h1, hk1⟩ := h0.put n k (by unfold maxLen; omega) (by unfold maxLen; omega)
  have H1 := hide (And.intro h1 (hk0.trans hk1 (fun i e _ => e)))
  clear h1 hk1 hk0 h0 h
  go_enter Tryz.func176, Tryz.ntmps176
  go_wp2
  first | refine bodyPost_end (results_none rfl _ _ _) rfl ?_ | refine bodyPost_ret (results_none rfl _ _ _) rfl ?_
  exact ⟨rfl, H1.out⟩
set_option maxHeartbeats 800000 in
set_option maxRecDepth 100000 in
theorem tkApply_ok (n : By) (b : Nat) (A : Nat → Nat) (l : Nm) (w : World) (h : Mp w b A l) (hn : n.length ≤ 112) :
    Calls Tryz.prog 180 #[.agg #[encStr n], .map (some b)] w fun e w' => e = .returned (.tuple #[]) ∧ Mp w' b A (l.del n) ∧ Keep (· = b) w w' := by
  have hk0 : Keep (· = b) w (w.alloc (.cells #[encStr n] 166)) := (Keep.refl _ w).alloc _
  have h0 : Mp (w.alloc (.cells #[encStr n] 166)) b A l := World.ownsMap.alloc h _
  have hd := fun ty => h0.del n (by unfold maxLen; omega) ty
  go_enter Tryz.func180, Tryz.ntmps180
  obtain ⟨w1, hrun, h1, hk1⟩ := hd 0
  have H1 := hide (And.intro h1 (hk0.trans hk1 (fun i e _ => e)))
  clear h1 hk1 hk0 h0 h hd
  go_wp2
  first | refine bodyPost_end (results_none rfl _ _ _) rfl ?_ | refine bodyPost_ret (results_none rfl _ _ _) rfl ?_
  exact ⟨rfl, H1.out⟩

set_option maxHeartbeats 800000 in
set_option maxRecDepth 100000 in
theorem gvApply_ok (f t : By) (k b : Nat) (A : Nat → Nat) (l : Nm) (w : World) (h : Mp w b A l) (hg : l.get f = some k) (hf : f.length ≤ 112) (ht : t.length ≤ 112) (hl : l.length < 1073741824) :
    Calls Tryz.prog 179 #[.agg #[encStr f, encStr t], .map (some b)] w fun e w' => e = .returned (.tuple #[]) ∧ Mp w' b A ((l.put t k).del f) ∧ Keep (· = b) w w' := by
  have hb : b < w.heap.size := World.ownsMap.lt h
  have hk0 : Keep (· = b) w (w.alloc (.cells #[encStr f, encStr t] 164)) := (Keep.refl _ w).alloc _
  have h0 : Mp (w.alloc (.cells #[encStr f, encStr t] 164)) b A l := World.ownsMap.alloc h _
  have hc0 : (w.alloc (.cells #[encStr f, encStr t] 164)).cell? ⟨w.heap.size, 0, none⟩ = some (encStr f) := by simp
  have hlk := h0.look f (by unfold maxLen; omega)
  rw [hg] at hlk
  obtain ⟨w1, hrun, h1, hk1⟩ := h0.put t k (by unfold maxLen; omega) (by unfold maxLen; omega)
  have hc1 : w1.cell? ⟨w.heap.size, 0, none⟩ = some (encStr f) := hk1.cellOf hc0 (by show ¬ w.heap.size = b; omega)
  obtain ⟨w2, hrun2, h2, hk2⟩ := h1.del f (by unfold maxLen; omega) 0
  have H2 := hide (And.intro h2 ((hk0.trans hk1 (fun i e _ => e)).trans hk2 (fun i e _ => e)))
  clear h1 hk1 hk0 h0 h h2 hk2 hc0
  go_enter Tryz.func179, Tryz.ntmps179
  go_wp2
  first | refine bodyPost_end (results_none rfl _ _ _) rfl ?_ | refine bodyPost_ret (results_none rfl _ _ _) rfl ?_
  exact ⟨rfl, H2.out⟩

/-- No name of a change is too long. -/
def ncShort : Nc → Prop
  | .mk n _ => n.length ≤ 112
  | .gv f t => f.length ≤ 112 ∧ t.length ≤ 112
  | .tk n => n.length ≤ 112
theorem ncApply_ok (c : Nc) (b : Nat) (A : Nat → Nat) (l : Nm) (w : World) (h : Mp w b A l) (hok : c.ok l) (hs : ncShort c) (hl : l.length < 1073741824) :
    Calls Tryz.prog (ncFunc c) #[ncVal A c, .map (some b)] w fun e w' => e = .returned (.tuple #[]) ∧ Mp w' b A (c.apply l) ∧ Keep (· = b) w w' := by
  cases c with
  | mk n k => exact mkApply_ok n k b A l w h hs hl
  | gv f t =>
    obtain ⟨_, k, hg⟩ := hok
    have := gvApply_ok f t k b A l w h hg hs.1 hs.2 hl
    have e : (Nc.gv f t).apply l = (l.put t k).del f := by simp only [Nc.apply, hg]
    rw [e]
    exact this
  | tk n => exact tkApply_ok n b A l w h hs
end Go.Proofs.YtemlbmamcbmnjaaGreatDoor
