import Derived.Test.YtodihkdmneihiaaGreatDoorRel3p
namespace Go.Proofs.YtodihkdmneihiaaGreatDoor
open Go.RowKit Dsk
set_option linter.unusedVariables false
set_option linter.unusedSimpArgs false
theorem crashTh_at (ps : List Int) (l : Nm) (hl : l.ids.Nodup) (th : Nat → Th) (i j : Nat) (p : By × Nat) (h : l[j]? = some p) : Ds.crashTh ps i l th p.2 = (th p.2).crash (ps.getD (i + j + 1) 0) := by
 induction l generalizing i j th with
 | nil => simp at h
 | cons x r ih =>
  have hn : x.2 ∉ Nm.ids r ∧ (Nm.ids r).Nodup := by
   have := hl
   simp only [Nm.ids, List.map_cons, List.nodup_cons] at this
   exact this
  cases j with
  | zero =>
   simp only [List.getElem?_cons_zero, Option.some.injEq] at h
   subst h
   rw [Ds.crashTh_cons ps i x r th hn.1]
  | succ j =>
   simp only [List.getElem?_cons_succ] at h
   have hne : p.2 ≠ x.2 := fun e => hn.1 (by rw [← e]; exact List.mem_map.2 ⟨p, List.mem_of_getElem? h, rfl⟩)
   show Ds.crashTh ps (i + 1) r (upd th x.2 ((th x.2).crash (ps.getD (i + 1) 0))) p.2 = _
   rw [ih hn.2 _ (i + 1) j h, upd_other _ _ hne, show i + 1 + j + 1 = i + (j + 1) + 1 by omega]
theorem turn_ok (vo : Option Addr) (m vc : Nat) (A : Nat → Nat) (l : Nm) (c : Nc) (ys : Array Value) (hys : (tuV A c).toArray = ys) (w : World) (hl : l.length = m) (hm : m ≤ 536870912) (hu : l.Up) (hok : c.ok l) (h : w.ownsRow 0 139 2 (.slice vo m vc) m (nmsV A l)) :
  Calls Tryz.prog 74 #[.slice vo m vc, .agg ys] w fun e w' => ∃ v, e = .returned v ∧ Bl w w' A v (c.apply l) := by
 subst hys
 cases c with
 | mk n k => exact turnMk_ok vo m vc A l n [] k (A k) rfl w hl hm h
 | tk n => exact turnTk_ok vo m vc A l n [] (.bool true) w hl hm h
 | gv f t =>
  obtain ⟨h1, k, h2⟩ := hok
  exact turnGv_ok vo m vc A l f t k w hl hm hu h2 h1 h
theorem change_ok (bo : Option Addr) (n bc u : Nat) (xs : By) (c : Ch) (dv : Value) (w : World) (h : OwnB w (.slice bo n bc) n xs) (hd : ChD w (c, dv)) (hp : c.place ≤ n) (hu : u ≤ c.units) (h1 : isCut c = true → 1 ≤ u) (hn : n + c.units ≤ 1073741824) :
  Calls Tryz.prog 79 #[.slice bo n bc, .agg #[.bool (isCut c), .int .i64 c.place, dv], .int .i64 u] w fun e w' => ∃ v, e = .returned v ∧ Cg w w' v (c.apply xs u) := by
 cases c with
 | cut a => exact changeCut_ok bo n bc a u xs w h hp (h1 rfl) (by simp only [Ch.units] at hu; omega) (by omega) dv
 | wr a x =>
  obtain ⟨dO, dc, rfl, _⟩ := OwnB.shape (show OwnB w dv x.length x from hd)
  exact changeWr_ok bo n bc a u xs x dO x.length dc w h hp rfl (OwnB.sl (show OwnB w (.slice dO x.length dc) x.length x from hd)) hu hn
structure Crs (w5 wr : World) (o : Lab) (th : Nat → Th) (L : Nm) (i : Nat) (f : Value) (A' : Nat → Nat) (o' : Lab) : Prop where
 row : wr.ownsRow 0 139 2 f (L.take i).length (nmsV A' (L.take i))
 new : ∀ g, f.ownBlock = some g → w5.heap.size ≤ g ∧ o' g = 1
 keep : Kept [] w5 wr
 th : ∀ p ∈ L.take i, Rg wr o' (p.2 + 2) (A' p.2) (th p.2)
 old : ∀ b, b < w5.heap.size → o' b = o b
 lim : ∀ b, o' b ≠ 0 → b < wr.heap.size
theorem Crs.start {w5 : World} {o : Lab} {th : Nat → Th} {L : Nm} {A : Nat → Nat} (hl : ∀ b, o b ≠ 0 → b < w5.heap.size) : Crs w5 w5 o th L 0 (.slice none 0 0) A o :=
 ⟨by simpa [nmsV] using World.ownsRow_nil w5 0 139 2, by simp [Value.ownBlock], Kept.refl _ _, by simp, fun _ _ => rfl, hl⟩
theorem Crs.step {w5 wr wt : World} {o : Lab} {th : Nat → Th} {L : Nm} {i : Nat} {fo : Option Addr} {fc : Nat} {A' : Nat → Nat} {o' : Lab} (h : Crs w5 wr o th L i (.slice fo i fc) A' o') {n : By} {k : Nat} (hp : L[i]? = some (n, k)) (hnd : L.ids.Nodup) (hb : i ≤ 536870912)
  (hk : Kept [] wr wt) {ab : Nat} {sv hv : Value} (hab : wr.heap.size ≤ ab) (hc : wt.heap[ab]? = some (.cells #[sv, hv, .slice none 0 0] 132 (0, 0))) (hrow : (th k).row = []) (hs : OwnB wt sv (th k).safe.length (th k).safe) (hh : OwnB wt hv (th k).shown.length (th k).shown) (hsn : ∀ g, sv.ownBlock = some g → wr.heap.size ≤ g) (hhn : ∀ g, hv.ownBlock = some g → wr.heap.size ≤ g) :
  ∃ g c w8, (Builtin.append_ #[76, 76] 76 #[.slice fo i fc, .slice (some ⟨wt.heap.size, 0, none⟩) 1 1]).run Tryz.prog (wt.alloc (.cells #[encStr n, .pointer (some ⟨ab, 0, none⟩)] 139)) = .ok (.slice (some ⟨g, 0, none⟩) (i + 1) c) w8 ∧ ∃ A2 o2, Crs w5 w8 o th L (i + 1) (.slice (some ⟨g, 0, none⟩) (i + 1) c) A2 o2 := by
 have hiL : i < L.length := (List.getElem?_eq_some_iff.1 hp).1
 have hti : (L.take i).length = i := by rw [List.length_take]; omega
 have htk : L.take (i + 1) = L.take i ++ [(n, k)] := by rw [List.take_add_one, hp]; rfl
 have hk' : k ∉ Nm.ids (L.take i) := fun hm => by
  have h1 : (Nm.ids (L.take (i + 1))).Nodup := (List.Sublist.nodup ((List.take_sublist _ _).map _) hnd)
  rw [htk] at h1
  simp only [Nm.ids, List.map_append, List.map_cons, List.map_nil] at h1
  exact (List.nodup_append.1 h1).2.2 _ hm _ (by simp) rfl
 have hr0 := h.row
 rw [hti] at hr0
 have hr := own_keeps hr0 (Keep.ofNone (F := fun _ => False) hk) (fun _ _ h => h)
 obtain ⟨g, c, w8, e1, e2, e3, e4, e5⟩ := run_app (P := Tryz.prog) wt 76 76 139 Tryz.underlying76 Tryz.infoName rfl (by decide) _ i _ hr [encStr n, .pointer (some ⟨ab, 0, none⟩)] rfl (fun z hz => by simp only [List.mem_cons, List.not_mem_nil, or_false] at hz; rcases hz with rfl | rfl <;> rfl) (by unfold maxLen; omega) (by omega)
 have hK := e3 (fun k => (Value.slice fo i fc).ownBlock = some k) (fun _ e => e)
 have hsz1 := h.keep.size
 have hsz2 := hk.size
 have habt : ab < wt.heap.size := (Array.getElem?_eq_some_iff.1 hc).1
 have old1 : ∀ b, b < wr.heap.size → o'.ext wr wt (k + 2) b = o' b := fun b hb => Lab.ext_old hb
 have new1 : ∀ b, wr.heap.size ≤ b → b < wt.heap.size → o'.ext wr wt (k + 2) b = k + 2 := fun b h1 h2 => Lab.ext_new h1 h2
 have old2 : ∀ b, b < wt.heap.size → (o'.ext wr wt (k + 2)).ext wt w8 1 b = o'.ext wr wt (k + 2) b := fun b hb => Lab.ext_old hb
 have hF : ∀ b, (Value.slice fo i fc).ownBlock = some b → o'.ext wr wt (k + 2) b = 1 := fun b e => by
  rw [old1 b (hr0.lt b e).2]; exact (h.new b e).2
 have hA : ∀ p ∈ L.take i, upd A' k ab p.2 = A' p.2 := fun p hp => upd_other _ _ (fun e => hk' (by rw [← e]; exact List.mem_map.2 ⟨p, hp, rfl⟩))
 have hkeep8 : Kept [] w5 w8 := by
  have hkw := h.keep.trans hk (by simp)
  exact ⟨hK.os.trans hkw.os, hK.tape.trans hkw.tape, hK.output.trans hkw.output, Nat.le_trans hkw.size hK.size, fun b hb _ => (hK.block b (Nat.lt_of_lt_of_le hb hkw.size) (fun e => by have := (h.new b e).1; omega)).trans (hkw.block b hb (by simp))⟩
 refine ⟨g, c, w8, e1, upd A' k ab, (o'.ext wr wt (k + 2)).ext wt w8 1, ⟨?_, ?_, hkeep8, ?_, ?_, ?_⟩⟩
 ·rw [htk, nmsV_snoc, List.length_append, hti]
  have e : nmV (upd A' k ab) (n, k) = [encStr n, .pointer (some ⟨ab, 0, none⟩)] := by unfold nmV; rw [upd_same]
  rw [e, nmsV_congr (A := A') (fun j hj => by obtain ⟨m, hm⟩ := Nm.mem_ids.1 hj; exact hA (m, j) hm)]
  exact e2
 ·intro g' hg'
  simp only [Value.ownBlock, Option.some.injEq] at hg'
  subst hg'
  rcases e4 with e | e
  ·refine ⟨(h.new g e.symm).1, ?_⟩
   rw [old2 g (Nat.lt_of_lt_of_le (hr0.lt g e.symm).2 hsz2)]
   exact hF g e.symm
  ·exact ⟨by omega, Lab.ext_new e e5⟩
 ·intro p hp
  rw [htk] at hp
  rcases List.mem_append.1 hp with hp | hp
  ·rw [hA p hp]
   have h1 := (h.th p hp).ext (m := k + 2) (Keep.ofNone (F := fun _ => False) hk) (fun _ _ h => h)
   exact h1.ext (m := 1) hK (fun b hb e => by have := hF b e; omega)
  ·rw [List.mem_singleton.1 hp]
   show Rg w8 _ (k + 2) (upd A' k ab k) (th k)
   rw [upd_same]
   have h1 : Rg wt (o'.ext wr wt (k + 2)) (k + 2) ab (th k) := ⟨sv, hv, .slice none 0 0, [], hc, hs, hh, by rw [hrow]; rfl, World.ownsRow_nil _ _ _ _, by simp, new1 ab hab habt, fun g hg => new1 g (hsn g hg) (hs.lt hg), fun g hg => new1 g (hhn g hg) (hh.lt hg), by simp [Value.ownBlock], by simp⟩
   exact h1.ext (m := 1) hK (fun b hb e => by have := hF b e; omega)
 ·intro b hb
  rw [old2 b (by omega), old1 b (by omega)]
  exact h.old b hb
 ·exact lim_ext2 (lim_ext2 h.lim hsz2 (Nat.le_refl _)) hK.size (Nat.le_refl _)
structure Tor (goal cur : By) (row : List Ch) (k left : Nat) : Prop where
 eq : torn cur (row.drop k) left = goal
 fits : 0 < left → Dsk.fits cur (row.drop k)
 len : cur.length + unitsOf (row.drop k) ≤ 268435456
theorem Tor.end0 {goal cur : By} {row : List Ch} {k left : Nat} (h : Tor goal cur row k left) (he : row.length ≤ k ∨ left = 0) : cur = goal := by
 have := h.eq
 rcases he with e | e
 ·rw [List.drop_of_length_le e] at this; exact this
 ·rw [e, torn_zero] at this; exact this
theorem Tor.step {goal cur : By} {row : List Ch} {k left u : Nat} {c : Ch} (h : Tor goal cur row k left) (hc : row[k]? = some c) (hl : 0 < left) (hu : u = min left c.units) : Tor goal (c.apply cur u) row (k + 1) (left - u) ∧ c.place ≤ cur.length ∧ (isCut c = true → 1 ≤ u) ∧ cur.length + c.units ≤ 268435456 := by
 have hd : row.drop k = c :: row.drop (k + 1) := by
  have hk := (List.getElem?_eq_some_iff.1 hc)
  rw [List.drop_eq_getElem_cons hk.1, hk.2]
 have h1 := h.eq
 have h2 := h.fits hl
 have h3 := h.len
 rw [hd] at h1 h2 h3
 simp only [torn, if_neg (show ¬ left = 0 by omega)] at h1
 simp only [unitsOf] at h3
 have h4 := c.apply_len cur u h2.1
 refine ⟨⟨by rw [hu]; exact h1, fun hl2 => ?_, ?_⟩, h2.1, fun hcut => ?_, by omega⟩
 ·have : u = c.units := by omega
  rw [this]
  exact h2.2
 ·have : min u c.units = u := by omega
  omega
 ·cases c with
  | wr a x => simp [isCut] at hcut
  | cut a => simp only [Ch.units] at hu; omega
end Go.Proofs.YtodihkdmneihiaaGreatDoor
