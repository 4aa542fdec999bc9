/-
  FileKeeps: the walk. (Written by tools/frd.py.)
-/
import Derived.Test.YtemlbmamcbmnjaaGreatDoorFrap
import Derived.Test.YtemlbmamcbmnjaaGreatDoorIf0p
import Derived.Test.YtemlbmamcbmnjaaGreatDoorFnfp
import Derived.Test.YtemlbmamcbmnjaaGreatDoorFrep
import Derived.Test.YtemlbmamcbmnjaaGreatDoorIbp
namespace Go.Proofs.YtemlbmamcbmnjaaGreatDoor
open Go.RowKit Dsk
set_option linter.unusedVariables false
set_option linter.unusedSimpArgs false
theorem old_kept {w wa w' : World} {Y : Nat → Prop} (h : Kept [] w wa) (k : Keep (fun b => ¬ (b < w.heap.size ∨ Y b)) wa w') : Kept [] w w' :=
  ⟨k.os.trans h.os, k.tape.trans h.tape, k.output.trans h.output, Nat.le_trans h.size k.size, fun i hi _ => (k.block i (Nat.lt_of_lt_of_le hi h.size) (fun hn => hn (.inl hi))).trans (h.block i hi (by simp))⟩
namespace Dsk
theorem read_math {D : Ds} {n d : By} (hon : D.on = true) (hn : isNm n = true) (hf : fnd D.files n = some (n, d)) : (D.find n).1 = 0 ∧ D.size n = (d.length : Int) ∧ D.readBytes n 0 (D.size n) = d ∧ D.read n 0 (D.size n) = { D with reads := D.reads ++ [⟨n, 0, d.length⟩] } := by
  have h1 : fnd (fls D.shown (fun k => (D.th k).shown)) n = some (n, d) := hf
  rw [fnd_fls] at h1
  cases hg : D.shown.get n with
  | none => rw [hg] at h1; cases h1
  | some k =>
    rw [hg] at h1
    simp only [Option.map_some, Option.some.injEq, Prod.mk.injEq, true_and] at h1
    have e : D.find n = (0, k) := by unfold Ds.find; rw [if_pos hon, if_pos hn, hg]
    have es : D.size n = (d.length : Int) := by unfold Ds.size; rw [e]; simp [h1]
    have eo : D.readOk n 0 (D.size n) = 0 := by
      unfold Ds.readOk
      rw [e, es]
      simp [h1]
    refine ⟨by rw [e], es, ?_, ?_⟩
    · unfold Ds.readBytes
      rw [if_pos eo, e, es]
      simp [h1]
    · unfold Ds.read
      rw [if_pos eo, es]
      rfl
end Dsk
def Xk (w : World) (ao : Option Addr) (m cap : Nat) (h : Nat → Rr) (b : Nat) : Prop := b < w.heap.size ∨ ((Value.slice ao m cap).ownBlock = some b ∨ rbs m h b)
/-- The disk, and the rows that were told. -/
structure Kp (w wr : World) (p : Nat) (S : Ds) (N : Nat) (d : By) (m : Nat) (h : Nat → Rr) (ao : Option Addr) (cap : Nat) : Prop where
  ax : Ax (Xk w ao m cap h) wr wr p S N
  fam : Fam 0 wr m h
  rows : wr.ownsRow 0 28 1 (.slice ao m cap) m (vals m h)
  xs : ∀ j, j < m → (h j).xs = d
  safe : AllSafe S
  on : S.on = true
  off : S.off ≤ 0
  kept : Kept [] w wr
  rnew : ∀ b, rbs m h b → w.heap.size ≤ b
  anew : ∀ b, (Value.slice ao m cap).ownBlock = some b → w.heap.size ≤ b
section
variable {w wr w' : World} {p : Nat} {S D : Ds} {N M : Nat} {d : By} {m : Nat} {h : Nat → Rr} {ao : Option Addr} {cap : Nat} {Y : Nat → Prop}
theorem Kp.lt (K : Kp w wr p S N d m h ao cap) (b : Nat) (hb : Xk w ao m cap h b) : b < wr.heap.size := by
  obtain ⟨A, o, _, h2, _, _⟩ := K.ax
  exact (h2 b hb).2
theorem ax_less {X Y : Nat → Prop} {wa w : World} {p : Nat} {S : Ds} {N : Nat} (h : Ax Y wa w p S N) (hX : ∀ b, X b → Y b) : Ax X w w p S N := by
  obtain ⟨A, o, h1, h2, h3, h4⟩ := h
  exact ⟨A, o, h1, fun b hb => ⟨(h2 b (hX b hb)).1, Nat.lt_of_lt_of_le (h2 b (hX b hb)).2 h3.size⟩, Keep.refl _ _, h4⟩
theorem Kp.next (K : Kp w wr p S N d m h ao cap) (hk : Keep (fun b => ¬ Xk w ao m cap h b) wr w') (hx : Ax Y w' w' p D M) (hY : ∀ b, Xk w ao m cap h b → Y b) (h1 : AllSafe D) (h2 : D.on = true) (h3 : D.off ≤ 0) : Kp w w' p D M d m h ao cap :=
  ⟨ax_less hx hY, ⟨fun j hj => own_keeps (K.fam.own j hj) hk (fun g hg hn => hn (.inr (.inr ⟨j, hj, hg⟩))), K.fam.apart⟩, own_keeps K.rows hk (fun g hg hn => hn (.inr (.inl hg))), K.xs, h1, h2, h3, old_kept K.kept hk, K.rnew, K.anew⟩
theorem Kp.keeps (K : Kp w wr p S N d m h ao cap) (hk : Kept [] wr w') : Kp w w' p S N d m h ao cap :=
  K.next (Keep.ofNone hk) (K.ax.kept hk).here (fun _ h => h) K.safe K.on K.off
theorem Kp.mono (K : Kp w wr p S N d m h ao cap) (hm : N ≤ M) : Kp w wr p S M d m h ao cap := ⟨K.ax.mono hm, K.fam, K.rows, K.xs, K.safe, K.on, K.off, K.kept, K.rnew, K.anew⟩
/-- One row more. -/
theorem Kp.add {w4 w6 : World} {v : Value} {o : Obj} {g c : Nat} {bo : Option Addr} {bc : Nat} (K : Kp w wr p S N d m h ao cap) (G : Gr (Xk w ao m cap h) wr wr w4 p D M v d) (hv : v = .slice bo d.length bc) (h1 : AllSafe D) (h2 : D.on = true) (h3 : D.off ≤ 0)
    (hr : w6.ownsRow 0 28 1 (.slice (some ⟨g, 0, none⟩) (m + 1) c) (m + 1) (vals m h ++ [v])) (hg : (w4.alloc o).grownBy w6 (Value.slice ao m cap).ownBlock) (h4 : some g = (Value.slice ao m cap).ownBlock ∨ g = (w4.alloc o).heap.size) :
    Kp w w6 p D M d (m + 1) (upr h m ⟨bo, bc, d⟩) (some ⟨g, 0, none⟩) c := by
  subst hv
  have K4 := K.next G.keep G.ax (fun b hb => .inl hb) h1 h2 h3
  have hg0 := World.grownBy_alloc w4 o none
  have zz : wr.heap.size ≤ w4.heap.size := G.keep.size
  have hval : ∀ j, j < m → upr h m ⟨bo, bc, d⟩ j = h j := fun j hj => upr_other _ _ _ _ (by omega)
  have hnat : (Rr.mk bo bc d).At 0 w4 := G.row
  have k46 : Keep (fun b => (Value.slice ao m cap).ownBlock = some b) w4 w6 := ((Keep.refl _ w4).grown hg0 (by simp)).grown hg (fun k hk _ => hk)
  have offr : ∀ r : Rr, r.At 0 w4 → Off r.blk (Value.slice ao m cap).ownBlock := fun r hr => own_types hr K4.rows (by decide)
  have nb : ∀ b, (Rr.mk bo bc d).blk = some b → wr.heap.size ≤ b := fun b hb => G.new b hb
  have gl : g < w6.heap.size := (hr.lt g rfl).2
  have hX : ∀ b, Xk w (some ⟨g, 0, none⟩) (m + 1) c (upr h m ⟨bo, bc, d⟩) b → (Xk w ao m cap h b ∨ (Value.slice bo d.length bc).ownBlock = some b) ∨ w4.heap.size ≤ b := fun b hb => by
    rcases hb with hb | hb | ⟨j, hj, hb⟩
    · exact .inl (.inl (.inl hb))
    · simp only [Value.ownBlock, Option.some.injEq] at hb
      rcases h4 with h4 | h4
      · exact .inl (.inl (.inr (.inl (by rw [← h4, hb]))))
      · right
        simp at h4
        omega
    · by_cases e : j = m
      · subst e; rw [upr_same] at hb; exact .inl (.inr hb)
      · rw [hval j (by omega)] at hb; exact .inl (.inl (.inr (.inr ⟨j, by omega, hb⟩)))
  refine ⟨?_, ⟨fun j hj => ?_, fun i j hi hj hne => ?_⟩, ?_, fun j hj => ?_, h1, h2, h3, ?_, fun b hb => ?_, fun b hb => ?_⟩
  · refine ax_free G.ax (Y := Xk w (some ⟨g, 0, none⟩) (m + 1) c (upr h m ⟨bo, bc, d⟩)) k46 (fun b _ hb => .inl (.inr (.inl hb))) (fun b hb => ⟨hX b hb, ?_⟩)
    rcases hb with hb | hb | ⟨j, hj, hb⟩
    · have := K4.kept.size; have := k46.size; omega
    · simp only [Value.ownBlock, Option.some.injEq] at hb; omega
    · by_cases e : j = m
      · subst e; rw [upr_same] at hb; exact Nat.lt_of_lt_of_le (hnat.blk_lt hb) k46.size
      · rw [hval j (by omega)] at hb; exact Nat.lt_of_lt_of_le ((K4.fam.own j (by omega)).blk_lt hb) k46.size
  · by_cases e : j = m
    · subst e; rw [upr_same]; exact own_keeps hnat k46 (fun b hb hb2 => offr _ hnat b hb hb2)
    · rw [hval j (by omega)]; exact own_keeps (K4.fam.own j (by omega)) k46 (fun b hb hb2 => offr _ (K4.fam.own j (by omega)) b hb hb2)
  · have old : ∀ j, j < m → ∀ b, (h j).blk = some b → b < wr.heap.size := fun j hj b hb => (K.fam.own j hj).blk_lt hb
    by_cases e1 : i = m
    · subst e1
      rw [upr_same, hval j (by omega)]
      intro b hb hb2
      have := nb b hb; have := old j (by omega) b hb2; omega
    · by_cases e2 : j = m
      · subst e2
        rw [upr_same, hval i (by omega)]
        intro b hb hb2
        have := nb b hb2; have := old i (by omega) b hb; omega
      · rw [hval i (by omega), hval j (by omega)]
        exact K.fam.apart i j (by omega) (by omega) hne
  · rw [vals_succ, upr_same, vals_congr (f := upr h m ⟨bo, bc, d⟩) (g := h) (fun j hj => by rw [hval j hj])]
    exact hr
  · by_cases e : j = m
    · subst e; rw [upr_same]
    · rw [hval j (by omega)]; exact K.xs j (by omega)
  · have hkb : Keep (fun b => (Value.slice ao m cap).ownBlock = some b) w4 w6 := k46
    exact ⟨hkb.os.trans K4.kept.os, hkb.tape.trans K4.kept.tape, hkb.output.trans K4.kept.output, Nat.le_trans K4.kept.size hkb.size, fun i hi _ => (hkb.block i (Nat.lt_of_lt_of_le hi K4.kept.size) (fun e => absurd (K.anew i e) (by omega))).trans (K4.kept.block i hi (by simp))⟩
  · obtain ⟨j, hj, hb⟩ := hb
    by_cases e : j = m
    · subst e; rw [upr_same] at hb; have := nb b hb; have := K.kept.size; omega
    · rw [hval j (by omega)] at hb; exact K.rnew b ⟨j, by omega, hb⟩
  · simp only [Value.ownBlock, Option.some.injEq] at hb
    rcases h4 with h4 | h4
    · exact K.anew b (by rw [← h4, hb])
    · have := K4.kept.size
      simp at h4
      omega
/-- While the bytes that were put are written over. -/
structure Kb (w wr : World) (p : Nat) (S : Ds) (N : Nat) (d : By) (m : Nat) (h : Nat → Rr) (ao : Option Addr) (cap bb : Nat) : Prop where
  k : Kp w wr p S N d m h ao cap
  ax : Ax (fun b => Xk w ao m cap h b ∨ b = bb) wr wr p S N
  nb : ¬ Xk w ao m cap h bb
  row : ∃ cs, wr.heap[bb]? = some (.cells cs 5 (0, 0)) ∧ d.length ≤ cs.size
theorem Kb.set {w wr : World} {p : Nat} {S : Ds} {N : Nat} {d : By} {m : Nat} {h : Nat → Rr} {ao : Option Addr} {cap bb k : Nat} (K : Kb w wr p S N d m h ao cap bb) (v : Value) : Kb w (wr.setCell ⟨bb, k, none⟩ v) p S N d m h ao cap bb := by
  have hk : Keep (fun b => b = bb) wr (wr.setCell ⟨bb, k, none⟩ v) := (Keep.refl (fun b => b = bb) wr).setCell (p := ⟨bb, k, none⟩) (fun _ => rfl) _
  obtain ⟨cs, h1, h2⟩ := K.row
  have hbl := (Array.getElem?_eq_some_iff.1 h1).1
  have hx : Ax (fun b => Xk w ao m cap h b ∨ b = bb) (wr.setCell ⟨bb, k, none⟩ v) (wr.setCell ⟨bb, k, none⟩ v) p S N := ax_free K.ax hk (fun b _ e => .inr e) (fun b hb => ⟨.inl hb, Nat.lt_of_lt_of_le (by rcases hb with hb | hb; exact K.k.lt b hb; rw [hb]; exact hbl) hk.size⟩)
  exact ⟨K.k.next (hk.mono (fun b e _ hX => K.nb (e ▸ hX))) hx (fun b hb => .inl hb) K.k.safe K.k.on K.k.off, hx, K.nb, ⟨cs.setIfInBounds k v, by rw [heap_setCell_same _ _ _ _ _ _ h1], by simpa using h2⟩⟩
theorem Kb.cell {w wr : World} {p : Nat} {S : Ds} {N : Nat} {d : By} {m : Nat} {h : Nat → Rr} {ao : Option Addr} {cap bb k : Nat} (K : Kb w wr p S N d m h ao cap bb) (hk : k < d.length) : (∃ u, wr.cell? ⟨bb, k, none⟩ = some u) ∧ wr.frozen? ⟨bb, k, none⟩ = false := by
  obtain ⟨cs, h1, h2⟩ := K.row
  refine ⟨⟨cs[k]'(by omega), ?_⟩, frozen_of_row _ _ _ _ _ h1⟩
  rw [cell_of_row wr _ k _ _ _ h1]
  exact Array.getElem?_eq_getElem _
end

theorem Bd.fresh1 : (Ds.fresh 100000).Bd 1 := ⟨by simp [Ds.fresh], fun k hk => by simp [Ds.fresh] at hk, by simp [Ds.fresh], by simp [Ds.fresh], by simp [Ds.fresh]⟩
namespace Dsk
theorem tick_off (S : Ds) : S.tick.off = S.off := rfl
theorem create_off (S : Ds) (n : By) : (S.create n).2.off = S.off := by unfold Ds.create; split; rfl; split; rfl; split <;> rfl
theorem append_off (S : Ds) (n d : By) : (S.append n d).2.off = S.off := by unfold Ds.append; split; rfl; unfold Ds.write; split <;> rfl
theorem remove_off (S : Ds) (n : By) : (S.remove n).2.off = S.off := by unfold Ds.remove; split <;> rfl
theorem sync_off (S : Ds) (n : By) : (S.sync n).2.off = S.off := by unfold Ds.sync; split; rfl; split <;> rfl
theorem rename_off (S : Ds) (f t : By) : (S.rename f t).2.off = S.off := by unfold Ds.rename; split; split; split; rfl; split <;> rfl; rfl; rfl
theorem syncNames_off (S : Ds) : S.syncNames.2.off = S.off := by unfold Ds.syncNames; split; split <;> rfl; rfl
theorem clr_off (S : Ds) (q : By) : (S.clr q).2.2.off = S.off := by unfold Ds.clr; split; rfl; exact remove_off S q
theorem beg_off (S : Ds) (q : By) : (S.beg q).2.2.off = S.off := by
  unfold Ds.beg
  split
  · split
    · exact (create_off _ _).trans (clr_off S q)
    · exact (create_off _ _).trans (clr_off S q)
  · exact clr_off S q
theorem fin_off (S : Ds) (n q d : By) : (S.fin n q d).2.off = S.off := by
  unfold Ds.fin
  split
  · split
    · split
      · rw [syncNames_off, rename_off, sync_off, append_off]
      · rw [rename_off, sync_off, append_off]
    · rw [sync_off, append_off]
  · exact append_off S q d
theorem tbk_off (S : Ds) (q : By) : (S.tbk q).2.off = S.off := by
  unfold Ds.tbk
  split
  · rw [syncNames_off, clr_off]
  · exact clr_off S q
theorem rest_off_eq (S : Ds) (c : Bool) (E : Int) (q : By) : (S.rest c E q).2.off = S.off := by
  unfold Ds.rest
  split
  · split
    · exact tbk_off S q
    · exact tbk_off S q
  · rfl
theorem put_off_eq (S : Ds) (n d : By) : (S.put n d).2.off = S.off := by
  unfold Ds.put
  split
  · split
    · unfold Ds.lay
      split
      · rw [rest_off_eq, fin_off, beg_off]
      · rw [rest_off_eq, beg_off]
    · rfl
  · rfl
end Dsk

theorem Kp.base {w wr w5 : World} {p : Nat} {S : Ds} {N : Nat} {d : By} {m : Nat} {h : Nat → Rr} {ao : Option Addr} {cap : Nat} {vo : Option Addr} {n c : Nat} {vs : List Value} (K : Kp w wr p S N d m h ao cap) (hF : Fls w5 wr.heap.size (.slice vo n c) S.files vs) (hk : Kept [] wr w5) (w' : World) (hk' : Keep (rbs m h) w5 w') : Ax (fun _ => False) w' w' p S N ∧ Fis w' vo S.files ∧ Kept [] w w' := by
  have K5 := K.keeps hk
  have hr : ∀ b, rbs m h b → b < wr.heap.size := fun b ⟨j, hj, hb⟩ => (K.fam.own j hj).blk_lt hb
  refine ⟨ax_free K5.ax (Y := fun _ => False) hk' (fun b _ hb => .inr (.inr hb)) (fun b hb => hb.elim), (Fis.of (hF.keep hk' (fun g hg hb => ?_) (fun u hu g hg hb => ?_))).1, ?_⟩
  · have := hr g hb
    have := (hF.row.lt g hg).1
    omega
  · have := hr g hb
    have := hF.new u hu g hg
    omega
  · exact ⟨hk'.os.trans K5.kept.os, hk'.tape.trans K5.kept.tape, hk'.output.trans K5.kept.output, Nat.le_trans K5.kept.size hk'.size, fun i hi _ => (hk'.block i (Nat.lt_of_lt_of_le hi K5.kept.size) (fun hb => by have := K.rnew i hb; omega)).trans (K5.kept.block i hi (by simp))⟩
theorem Al.kept {w wr w' : World} {m : Nat} {f h : Nat → Rr} {ao : Option Addr} {cap : Nat} (A : Al w wr m f h ao cap) (hk : Kept [] wr w') : Al w w' m f h ao cap :=
  ⟨⟨fun j hj => own_keeps (A.fam.own j hj) (Keep.ofNone (F := fun _ => False) hk) (fun _ _ h => h), A.fam.apart⟩, A.same, own_keeps A.all (Keep.ofNone (F := fun _ => False) hk) (fun _ _ h => h), A.bel.trans (Keep.ofNone (F := fun _ => False) hk) (fun _ h _ => h.elim)⟩
namespace Dsk
theorem put_sum {S : Ds} {n d : By} (hs : AllSafe S) (hw : S.Wf) (hon : S.on = true) (hoff : S.off ≤ 0) : AllSafe (S.put n d).2 ∧ (S.put n d).2.on = true ∧ (S.put n d).2.off ≤ 0 ∧ ((S.put n d).1 = 0 → isNm n = true ∧ fnd (S.put n d).2.files n = some (n, d)) := by
  have hof := put_off_eq S n d
  by_cases hp : isPut n = true
  · have h := put_does (d := d) hs hw hon hp
    have hnm := (isPut_nm hp).1
    generalize (S.put n d).1 = E at h ⊢
    generalize (S.put n d).2 = D at h hof ⊢
    cases h with
    | done D h1 h2 h3 h4 => exact ⟨h2, h1, by rw [hof]; exact hoff, fun _ => ⟨hnm, h4.name⟩⟩
    | full E D h0 h1 h2 h4 => exact ⟨h2, h1, by rw [hof]; exact hoff, fun h => by omega⟩
    | cut D h1 h2 => omega
  · have e : S.put n d = (51, S) := by unfold Ds.put; rw [if_neg hp]
    rw [e]
    exact ⟨hs, hon, hoff, fun h => by cases h⟩
end Dsk
theorem ErrV.zero {w : World} {v : Value} {op name : By} {n : Int} (h : ErrV w v op name n) : n = 0 ↔ v = .nilIface := by
  rcases h with ⟨h1, h2⟩ | ⟨h1, eb, h2, _⟩
  · exact ⟨fun _ => h2, fun _ => h1⟩
  · exact ⟨fun h => absurd h h1, fun h => by rw [h2] at h; cases h⟩
theorem kb_of {w wr w3 w4 : World} {p : Nat} {S D : Ds} {N M : Nat} {d : By} {m : Nat} {h : Nat → Rr} {ao : Option Addr} {cap g n c' : Nat} {ve : Value} (K : Kp w wr p S N d m h ao cap) (hk3 : Kept [] wr w3) (hrow : w3.ownsRow 0 5 1 (.slice (some ⟨g, 0, none⟩) n c') n (bys d)) (hn : d.length = n) (hnx : ¬ Xk w ao m cap h g) (hk4 : Keep (fun b => ¬ (Xk w ao m cap h b ∨ b = g)) w3 w4) (hA4 : Ax (fun b => (Xk w ao m cap h b ∨ b = g) ∨ errB ve b) w4 w4 p D M) (h1 : AllSafe D) (h2 : D.on = true) (h3 : D.off ≤ 0) : Kb w w4 p D M d m h ao cap g := by
  refine ⟨K.next ((Keep.ofNone hk3).trans hk4 (fun b hb _ hX => hb (.inl hX))) hA4 (fun b hb => .inl (.inl hb)) h1 h2 h3, ax_less hA4 (fun b hb => .inl hb), hnx, ?_⟩
  rcases hrow.2 with ⟨e, _⟩ | ⟨g', cap', cur, e, _, hg, hle, _, hsz, _⟩
  · cases e
  · cases e
    exact ⟨cur, hk4.heapOf hg (fun hn => hn (.inr rfl)), by simp at hsz; omega⟩

set_option maxHeartbeats 8000000 in
set_option maxRecDepth 100000 in
theorem keeps_walk (no : Option Addr) (nn nc : Nat) (da : Option Addr) (dn dc : Nat) (L : List By) (d : By) (w : World) (hg : Gl w) (hnl : L.length = nn) (hns : Tlk w no L) (hnn : nn ≤ 9223372036854775807) (hdl : d.length = dn) (hdc : dn ≤ dc) (hdc2 : dc ≤ 140737488351232) (hsd : Sl w da d) (hd0 : da = none → d = [] ∧ dc = 0) :
    Calls Tryz.prog 6 #[.slice no nn nc, .slice da dn dc] w fun e w' => e = .returned (.bool true) ∧ Below w.heap.size w w' := by
  have hnw := new_ok 100000 w (by decide)
  have HG := hide hg
  have HNM := hide (And.intro hnl hns)
  have HDT := hide (show d.length = dn ∧ Sl w da d ∧ (da = none → dn = 0 ∧ dc = 0) from ⟨hdl, hsd, fun h => ⟨by rw [← hdl, (hd0 h).1]; rfl, (hd0 h).2⟩⟩)
  clear hg hnl hns hdl hsd hd0
  go_enter Tryz.func6, Tryz.ntmps6
  go_upto_region 2 with (go_at_call 28; refine hnw.mono ?_; rintro e w1 ⟨v, rfl, hN1, _, hk1⟩; obtain ⟨p, A, o, rfl, hP, ho⟩ := hN1 (by decide); have HA1 : Hid (Ax (fun b => b < w.heap.size) w1 w1 p (Ds.fresh 100000) 1) := hide ⟨A, o, hP, fun b hb => ⟨Classical.byContradiction fun hn => by have := ho b hn; omega, by have := hk1.size; omega⟩, Keep.refl _ _, Bd.fresh1⟩; have HK1 := hide hk1; clear hnw hN1 hP ho hk1 A o)
  have hkn := known6_ok w1 (HG.out.kept HK1.out (by simp))
  go_upto_region 4 with (go_at_call 9; refine hkn.mono ?_; rintro e w2 ⟨rfl, hk2⟩; have HA2 := hide (HA1.out.kept hk2).here; have HK2 : Hid (Kept [] w w2) := hide (HK1.out.trans hk2 (by simp)); clear hkn hk2)
  clear HA1 HK1
  by_cases hlong : 1000 < dn
  · have hl2 : (1000 : Int) < (dn : Int) := by omega
    go_wp2
    go_ret
    exact ⟨rfl, HK2.out.below (Nat.le_refl _) (by simp)⟩
  have hl2 : ¬ (1000 : Int) < (dn : Int) := by omega
  have hdn : dn ≤ 1000 := by omega
  clear hlong
  have H0 : Hid (Kp w w2 p (Ds.fresh 100000) 1 d 0 (fun _ => rr0) none 0) := hide ⟨ax_less HA2.out (fun b hb => by rcases hb with hb | hb | ⟨j, hj, _⟩; exact hb; cases hb; omega), ⟨fun j hj => by omega, fun i j hi => by omega⟩, World.ownsRow_nil _ _ _ _, fun j hj => by omega, ⟨rfl, rfl, fun q hq => by cases hq⟩, rfl, Int.le_refl _, HK2.out, (fun b ⟨j, hj, _⟩ => by omega), fun b hb => by cases hb⟩
  clear HA2 HK2
  go_wp2
  go_loopw [7, 8] (fun rv iv wr => ∃ (i m : Nat) (h : Nat → Rr) (ao : Option Addr) (cap : Nat) (S : Ds), i ≤ 12 ∧ i ≤ nn ∧ m ≤ 3 * i ∧ iv = .int .i64 i ∧ rv = .slice ao m cap ∧ Hid (Kp w wr p S (1 + 2000 * i) d m h ao cap)) (fun rv iv wr => 12 - (intOf iv).toNat)
  case atStart => exact ⟨0, 0, fun _ => rr0, none, 0, _, by omega, by omega, by omega, rfl, rfl, H0⟩
  case round =>
    clear H0
    obtain ⟨i, m, h, ao, cap, S, hi12, hin, hm3, rfl, rfl, HK⟩ := hrel
    by_cases hi : i < nn ∧ i < 12
    · obtain ⟨hi1, hi2⟩ := hi
      have h5 : (i : Int) < (nn : Int) := by omega
      have h6 : (i : Int) < 12 := by omega
      obtain ⟨nb, noff, hno, hnc, hnl⟩ := HNM.out.2 i (by rw [HNM.out.1]; exact hi1)
      subst hno
      have HNC := hide hnc
      generalize L.getD i [] = name at hnc hnl HNC
      obtain ⟨g, c', w3, hap, hrow, hk3, hg3⟩ := run_fresh wr 28 28 5 Tryz.underlying28 Tryz.infoByte rfl da dn dc (bys d) (by rw [bys_length]; exact HDT.out.1) (fun j u hu => by
        obtain ⟨hj, rfl⟩ := bys_get hu
        exact (HDT.out.2.1.kept HK.out.kept (by simp)) j hj) HDT.out.2.2 (bys_oneCell d) (by unfold maxLen; omega) (by omega)
      have HK3 := hide hk3
      have HROW := hide hrow
      have hg3l : g < w3.heap.size := (hrow.lt g rfl).2
      have HX3 : Hid (Ax (fun b => Xk w ao m cap h b ∨ b = g) w3 w3 p S (1 + 2000 * i)) := hide (ax_free HK.out.ax (Keep.ofNone (F := fun _ => False) hk3) (fun _ _ h => h.elim) (fun b hb => by
        rcases hb with hb | hb
        · exact ⟨.inl hb, Nat.lt_of_lt_of_le (HK.out.lt b hb) hk3.size⟩
        · exact ⟨.inr (by omega), by omega⟩))
      have HNX : Hid (¬ Xk w ao m cap h g) := hide (fun hX => by have := HK.out.lt g hX; omega)
      have HSL3 : Hid (Sl w3 (some ⟨g, 0, none⟩) d) := hide ((OwnB.of hrow).sl)
      have hc3 := (HK.out.kept.trans hk3 (by simp)).cellOf HNC.out (by simp)
      clear hrow hk3 hnc
      go_upto_region 11 with (at_builtin; refine wpList_app_run rfl _ _ 28 28 rfl _ _ rfl rfl _ _ hap ?_)
      clear hap
      have hpu := put_any HX3.out name (ao := some ⟨g, 0, none⟩) (cp := c') (by omega) (by omega) (by omega) HDT.out.1 HSL3.out (by simp) (fun _ a e => by cases e; exact .inr rfl)
      have HPD : Hid (AllSafe (S.put name d).2 ∧ (S.put name d).2.on = true ∧ (S.put name d).2.off ≤ 0 ∧ ((S.put name d).1 = 0 → isNm name = true ∧ fnd (S.put name d).2.files name = some (name, d))) := hide (put_sum HK.out.safe HX3.out.wf HK.out.on HK.out.off)
      go_upto_region 12 with (go_at_call 16; refine hpu.mono ?_; rintro e w4 ⟨ve, rfl, hev, hA4, hk4⟩; have HEV := hide hev.shape; have HEZ : Hid ((S.put name d).1 = 0 ↔ ve = .nilIface) := hide hev.zero; have HKB : Hid (Kb w w4 p (S.put name d).2 (1500 + 2000 * i) d m h ao cap g) := hide (kb_of HK.out HK3.out HROW.out (by rw [HDT.out.1]) HNX.out hk4 (hA4.mono (by omega)) HPD.out.1 HPD.out.2.1 HPD.out.2.2.1); clear hpu hev hA4 hk4 hc3)
      generalize (S.put name d).1 = E at HEZ HPD
      generalize (S.put name d).2 = D at HPD HKB
      clear HK HK3 HROW HX3 HSL3
      go_wp2
      go_loopw [11] (fun kv wr => ∃ k : Nat, k ≤ dn ∧ kv = .int .i64 k ∧ Hid (Kb w wr p D (1500 + 2000 * i) d m h ao cap g)) (fun kv wr => dn - (intOf kv).toNat)
      case atStart => exact ⟨0, Nat.zero_le _, rfl, HKB⟩
      case round =>
        clear HKB
        obtain ⟨k, hk, rfl, HKB⟩ := hrel
        by_cases hkd : k < dn
        · obtain ⟨⟨u, cB⟩, fB⟩ := HKB.out.cell (k := k) (by rw [HDT.out.1]; exact hkd)
          have HN := hide (HKB.out.set (k := k) (.int .u8 7))
          clear HKB
          go_wp2
          go_roundw
          case rel => exact ⟨k + 1, by omega, by go_num, HN⟩
          case measure => simp [intOf]; omega
        · have HK5 := hide HKB.out.k
          clear HKB
          rcases HEV.out with hve | ⟨eb, hve⟩
          · have hE0 := HEZ.out.2 hve
            obtain ⟨hnm, hfn⟩ := HPD.out.2.2.2 hE0
            have HFN := hide (And.intro hnm hfn)
            subst hve
            clear HEZ HPD HEV hE0 hnm hfn
            go_wp2
            go_loopw [7, 12] (fun rv qv wr => ∃ (q m2 : Nat) (h : Nat → Rr) (ao : Option Addr) (cap : Nat) (D : Ds), q ≤ 3 ∧ Hid (m2 = m + q) ∧ qv = .int .i64 q ∧ rv = .slice ao m2 cap ∧ Hid (Kp w wr p D (1500 + 2000 * i + q) d m2 h ao cap ∧ isNm name = true ∧ fnd D.files name = some (name, d))) (fun rv qv wr => 3 - (intOf qv).toNat)
            case atStart => exact ⟨0, m, h, ao, cap, D, by omega, hide rfl, rfl, rfl, hide ⟨HK5.out, HFN.out⟩⟩
            case round =>
              clear HK5 HFN
              obtain ⟨q, m2, h, ao, cap, D, hq3, HM2, rfl, rfl, HQ⟩ := hrel
              have hm2b : m2 ≤ 36 := by have := HM2.out; omega
              by_cases hq : q < 3
              · have hq5 : (q : Int) < 3 := by omega
                obtain ⟨r1, r2, r3, r4⟩ := read_math HQ.out.1.on HQ.out.2.1 HQ.out.2.2
                have hgt := get_r HQ.out.1.ax name (by omega) (by omega) HQ.out.2.1 r1
                rw [r3, r4] at hgt
                have hcn := HQ.out.1.kept.cellOf HNC.out (by simp)
                clear r1 r2 r3 r4
                go_upto_region 21 with (go_at_call 29; refine hgt.mono ?_; rintro e w6 ⟨vg, rfl, hgr⟩; obtain ⟨bo, bc, rfl, _⟩ := own_shape hgr.row; have HGR := hide hgr; clear hgt hgr hcn)
                have HK6 : Hid (Kept [] w w6) := hide (old_kept HQ.out.1.kept HGR.out.keep)
                have hsm := same_yes bo da dn bc dc d w6 HDT.out.1 (by omega) ((own_slc HGR.out.row).1) (HDT.out.2.1.kept HK6.out (by simp))
                rw [HDT.out.1]
                go_upto_region 23 with (go_at_call 22; refine hsm.mono ?_; rintro e w7 ⟨rfl, kk, hk7⟩; have HG7 := hide (HGR.out.kept (w3 := w7) (by rw [hk7]; exact (Kept.refl [] w6).drewN _)); clear hsm hk7)
                clear HGR HK6
                have HR7 := hide (HQ.out.1.next HG7.out.keep HG7.out.ax (fun b hb => .inl hb) ⟨HQ.out.1.safe.row, HQ.out.1.safe.safe, HQ.out.1.safe.th⟩ HQ.out.1.on HQ.out.1.off).rows
                go_wp2_with (at_builtin; refine wpList_appT w7 0 rfl _ _ rfl rfl ao cap m2 1 (vals m2 h) [.slice bo dn bc] rfl rfl HR7.out rfl (by decide) (by simp [Value.oneCell']) (by omega) (Nat.zero_le _) _ rfl ?_; intro g2 c2 w8 h1 h3 h4; have HN : Hid (Kp w w8 p { D with reads := D.reads ++ [⟨name, 0, d.length⟩] } (1500 + 2000 * i + q + 1) d (m2 + 1) (upr h m2 ⟨bo, bc, d⟩) (some ⟨g2, 0, none⟩) c2 ∧ isNm name = true ∧ fnd ({ D with reads := D.reads ++ [⟨name, 0, d.length⟩] } : Ds).files name = some (name, d)) := hide ⟨HQ.out.1.add HG7.out rfl ⟨HQ.out.1.safe.row, HQ.out.1.safe.safe, HQ.out.1.safe.th⟩ HQ.out.1.on HQ.out.1.off (by rw [HDT.out.1]; exact h1) h3 h4, HQ.out.2.1, HQ.out.2.2⟩; clear h1 h3 h4)
                go_roundw
                case rel => exact ⟨q + 1, m2 + 1, _, some ⟨g2, 0, none⟩, c2, _, by omega, hide (by have := HM2.out; omega), by go_num, rfl, HN⟩
                case measure => simp [intOf]; omega
              · have hq5 : ¬ (q : Int) < 3 := by omega
                have hm2 := HM2.out
                have HN := hide (HQ.out.1.mono (M := 1 + 2000 * (i + 1)) (by omega))
                have hm9 : m2 ≤ 3 * (i + 1) := by omega
                clear hm2 HM2
                clear HQ
                go_wp2
                go_roundw
                case rel => exact ⟨i + 1, m2, h, ao, cap, D, by omega, by omega, hm9, by go_num, rfl, HN⟩
                case measure => simp [intOf]; omega
          · subst hve
            have HN := hide (HK5.out.mono (M := 1 + 2000 * (i + 1)) (by omega))
            clear HEZ HPD HEV HK5
            go_wp2
            go_roundw
            case rel => exact ⟨i + 1, m, h, ao, cap, D, by omega, by omega, by omega, by go_num, rfl, HN⟩
            case measure => simp [intOf]; omega
    · by_cases hi3 : i < nn
      · have hi4 : ¬ (i : Int) < 12 := by omega
        have hi5 : (i : Int) < (nn : Int) := by omega
        clear hi
        clear HNM HG
        have hfl := files_ax HK.out.ax (by omega)
        have HNB : Hid (S.files.length ≤ 3000000 ∧ ∀ f ∈ S.files, f.2.length ≤ 6000000) := hide (by
          have := files_small HK.out.ax.wf HK.out.ax.bd
          exact ⟨by omega, fun f hf => by have := this.2 f hf; omega⟩)
        have hm36 : m ≤ 36 := by omega
        go_wp2_with (go_at_call 17; refine hfl.mono ?_; rintro e w5 ⟨v5, vs5, rfl, hF5, hk5⟩; obtain ⟨vo, vc, rfl, _⟩ := own_shape hF5.row; have HBS := hide (HK.out.base hF5 hk5); have HK5 := hide (HK.out.keeps hk5); clear hfl hF5 hk5)
        clear HK
        have HLN : Hid (∀ j, j < m → (h j).xs = d ∧ (h j).xs.length = dn) := hide (fun j hj => ⟨HK5.out.xs j hj, by rw [HK5.out.xs j hj]; exact HDT.out.1⟩)
        have HA0 : Hid (Al w5 w5 m h h ao cap) := hide ⟨HK5.out.fam, fun _ _ => rfl, HK5.out.rows, Keep.refl _ _⟩
        clear HK5
        have HNN : Hid (1 + 2000 * i ≤ 268435456) := hide (by omega)
        generalize 1 + 2000 * i = N at HBS HNN
        generalize hwas : S.files = was at HNB HBS ⊢
        have HWAS := hide hwas
        clear hwas
        go_loopw [16] (fun v wr => ∃ (a : Nat), a ≤ m ∧ v = .int .i64 a ∧ Hid (Al w5 wr m h h ao cap)) (fun v wr => m - (intOf v).toNat)
        case atStart => exact ⟨0, Nat.zero_le _, rfl, HA0⟩
        case round =>
          clear HA0
          obtain ⟨a, ham, rfl, HA⟩ := hrel
          by_cases ha : a < m
          · have hq1 : (a : Int) < (m : Int) := by omega
            obtain ⟨ab, hab, _⟩ := own_some HA.out.all (by omega)
            subst hab
            obtain ⟨o, ho⟩ : ∃ o, (h a).o = o := ⟨_, rfl⟩
            obtain ⟨c, hc⟩ : ∃ c, (h a).c = c := ⟨_, rfl⟩
            have hv : (h a).val = .slice o dn c := by unfold Rr.val; rw [ho, hc, (HLN.out a ha).2]
            have ca : wr.cell? ⟨ab, a, none⟩ = some (.slice o dn c) := by rw [HA.out.all.cellAt a (by omega), vals_at m h a ha, hv]
            have hs1 : Sl wr o d := by have := (HA.out.fam.own a ha).sl; rw [ho, (HLN.out a ha).1] at this; exact this
            have hsm := same_yes o da dn c dc d wr HDT.out.1 (by omega) hs1 (HDT.out.2.1.kept ((HBS.out wr HA.out.bel).2.2) (by simp))
            clear ho hc hv hs1
            go_wp2_with (go_at_call 22; refine hsm.mono ?_; rintro e w7 ⟨rfl, kk, hk7⟩; have HN : Hid (Al w5 w7 m h h (some ⟨ab, 0, none⟩) cap) := hide (HA.out.kept (by rw [hk7]; exact (Kept.refl [] wr).drewN _)); clear hsm hk7)
            clear HA
            go_roundw
            case rel => exact ⟨a + 1, by omega, by go_num, HN⟩
            case measure => simp [intOf]; omega
          · have hq1 : ¬ (a : Int) < (m : Int) := by omega
            have H0 : Hid (Al w5 wr m h h ao cap ∧ ∀ j, j < 0 → Mkw j dn (h j).xs (h j).xs.length) := hide ⟨HA.out, fun j hj => by omega⟩
            clear HA
            go_wp2
            go_loopw [17] (fun v wr => ∃ (i : Nat) (h2 : Nat → Rr), i ≤ m ∧ v = .int .i64 i ∧ Hid (Al w5 wr m h h2 ao cap ∧ ∀ j, j < i → Mkw j dn (h2 j).xs (h2 j).xs.length)) (fun v _ => m - (intOf v).toNat)
            case atStart => exact ⟨0, h, Nat.zero_le _, rfl, H0⟩
            case round =>
              clear H0 ha hq1 ham
              obtain ⟨a, h2, ham, rfl, HI⟩ := hrel
              by_cases ha : a < m
              · have hq1 : (a : Int) < (m : Int) := by omega
                obtain ⟨ab, hab, _⟩ := own_some HI.out.1.all (by omega)
                subst hab
                obtain ⟨o, ho⟩ : ∃ o, (h a).o = o := ⟨_, rfl⟩
                obtain ⟨c, hc⟩ : ∃ c, (h a).c = c := ⟨_, rfl⟩
                have HV : Hid ((h a).val = .slice o dn c ∧ (h a).o = o) := hide ⟨by unfold Rr.val; rw [ho, hc, (HLN.out a ha).2], ho⟩
                have H1 : Hid (Al w5 wr m h h2 (some ⟨ab, 0, none⟩) cap ∧ (∀ j, j < a → Mkw j dn (h2 j).xs (h2 j).xs.length) ∧ Mkw a dn (h2 a).xs 0) := hide ⟨HI.out.1, HI.out.2, fun t ht => by omega⟩
                have ca0 : wr.cell? ⟨ab, a, none⟩ = some (.slice o dn c) := by rw [HI.out.1.all.cellAt a (by omega), vals_at m h a ha, HV.out.1]
                clear ho hc HI
                go_wp2
                go_loopw [18] (fun v wr => ∃ (k : Nat) (h2 : Nat → Rr), k ≤ dn ∧ v = .int .i64 k ∧ Hid (Al w5 wr m h h2 (some ⟨ab, 0, none⟩) cap ∧ (∀ j, j < a → Mkw j dn (h2 j).xs (h2 j).xs.length) ∧ Mkw a dn (h2 a).xs k)) (fun v _ => dn - (intOf v).toNat)
                case atStart => exact ⟨0, h2, Nat.zero_le _, rfl, H1⟩
                case round =>
                  clear H1 ca0
                  obtain ⟨k, h2, hkn, rfl, HK⟩ := hrel
                  have ca : wr.cell? ⟨ab, a, none⟩ = some (.slice o dn c) := by rw [HK.out.1.all.cellAt a (by omega), vals_at m h a ha, HV.out.1]
                  by_cases hk : k < dn
                  · have hq2 : (k : Int) < (dn : Int) := by omega
                    have hl2 : (h2 a).xs.length = dn := (HK.out.1.len ha).trans (HLN.out a ha).2
                    obtain ⟨g, hg, _⟩ := (HK.out.1.fam.own a ha).opens (by omega)
                    have hgo : o = some ⟨g, 0, none⟩ := by rw [← HV.out.2, ← HK.out.1.os ha, hg]
                    subst hgo
                    have gc := (HK.out.1.fam.own a ha).cellAt (k := k) hg (by omega)
                    have gf := (HK.out.1.fam.own a ha).frozenAt hg k
                    generalize ((h2 a).xs.getD k 0).toNat = old at gc
                    obtain ⟨x, hx⟩ : ∃ x, UInt8.ofNat a = x := ⟨_, rfl⟩
                    have hw8 := num_i a (by omega)
                    rw [hx] at hw8
                    have HN : Hid (Al w5 (wr.setCell ⟨g, k, none⟩ (.int .u8 x.toNat)) m h (upr h2 a ⟨(h2 a).o, (h2 a).c, (h2 a).xs.set k x⟩) (some ⟨ab, 0, none⟩) cap ∧ (∀ j, j < a → Mkw j dn (upr h2 a ⟨(h2 a).o, (h2 a).c, (h2 a).xs.set k x⟩ j).xs (upr h2 a ⟨(h2 a).o, (h2 a).c, (h2 a).xs.set k x⟩ j).xs.length) ∧ Mkw a dn (upr h2 a ⟨(h2 a).o, (h2 a).c, (h2 a).xs.set k x⟩ a).xs (k + 1)) := by
                      refine hide ⟨HK.out.1.put ha HV.out.2 x, fun j hj => ?_, ?_⟩
                      · rw [upr_other _ _ _ _ (by omega)]; exact HK.out.2.1 j hj
                      · rw [upr_same, ← hx]; exact HK.out.2.2.set (by omega) hk
                    clear hg hx hl2 HK
                    go_wp2
                    go_roundw
                    case rel => exact ⟨k + 1, _, by omega, by go_num, HN⟩
                    case measure => simp [intOf]; omega
                  · have hq2 : ¬ ((k : Int) < (dn : Int)) := by omega
                    have HN : Hid (Al w5 wr m h h2 (some ⟨ab, 0, none⟩) cap ∧ ∀ j, j < a + 1 → Mkw j dn (h2 j).xs (h2 j).xs.length) := hide ⟨HK.out.1, fun j hj => by
                      by_cases e : j = a
                      · subst e; rw [(HK.out.1.len ha).trans (HLN.out j ha).2]; exact (show k = dn by omega) ▸ HK.out.2.2
                      · exact HK.out.2.1 j (by omega)⟩
                    clear HK
                    go_wp2
                    go_roundw
                    case rel => exact ⟨a + 1, h2, by omega, by go_num, HN⟩
                    case measure => simp [intOf]; omega
              · have hq1 : ¬ ((a : Int) < (m : Int)) := by omega
                have ham2 : a = m := by omega
                have HM : Hid ((∀ j, j < m → (h2 j).val = (h j).val) ∧ ∀ j, j < m → Mkw j dn (h2 j).xs (h2 j).xs.length) := hide ⟨HI.out.1.same, fun j hj => HI.out.2 j (by omega)⟩
                have H3 : Hid (Lgr w5 wr m h h2 ao cap 0 h none 0 dn) := hide ⟨⟨HI.out.1.fam, fun j hj => by omega, fun j _ hj => by omega, fun j _ hj => by omega, fun j hj => by omega⟩, HI.out.1.all, World.ownsRow_nil _ _ _ _, fun k hk => by simp [Value.ownBlock] at hk, HI.out.1.bel, fun j hj => by omega, fun j hj => by omega, fun k hk => by cases hk⟩
                clear HI ha ham2
                go_wp2
                clear hq1 ham
                go_loopw [19, 20] (fun v3 v6 wr => ∃ (i : Nat) (lf : Nat → Rr) (lo : Option Addr) (lc : Nat), i ≤ m ∧ v3 = .slice lo i lc ∧ v6 = .int .i64 i ∧ Hid (Lgr w5 wr m h h2 ao cap i lf lo lc dn)) (fun _ v6 _ => m - (intOf v6).toNat)
                case atStart => exact ⟨0, h, none, 0, Nat.zero_le _, rfl, rfl, H3⟩
                case round =>
                  clear H3
                  obtain ⟨a, lf, lo, lc, ham, rfl, rfl, HG⟩ := hrel
                  by_cases ha : a < m
                  · have hq3 : (a : Int) < (m : Int) := by omega
                    obtain ⟨ab, hab, _⟩ := own_some HG.out.all (by omega)
                    subst hab
                    obtain ⟨o, ho⟩ : ∃ o, (h a).o = o := ⟨_, rfl⟩
                    obtain ⟨c, hc⟩ : ∃ c, (h a).c = c := ⟨_, rfl⟩
                    have HV : Hid ((h a).val = .slice o dn c) := hide (by unfold Rr.val; rw [ho, hc, (HLN.out a ha).2])
                    clear ho hc
                    have ca : wr.cell? ⟨ab, a, none⟩ = some (.slice o dn c) := by rw [HG.out.all.cellAt a (by omega), vals_at m h a ha, HV.out]
                    have hl2 : (h2 a).xs.length = dn := by have := HM.out.1 a ha; rw [HV.out] at this; unfold Rr.val at this; injection this
                    have HS : Hid (Lin w5 wr m h h2 (some ⟨ab, 0, none⟩) cap a lf lo lc dn o c (h2 a).xs ∧ (h2 a).xs.length = dn) := hide (HG.out.start ha (HM.out.1 a ha) ((HM.out.1 a ha).trans HV.out) (HM.out.2 a ha) (by omega))
                    clear HG hl2
                    go_wp2
                    go_loopw [21, 22] (fun v7 v8 wr => ∃ (k : Nat) (q : Option Addr) (qc : Nat) (xs : List UInt8), k ≤ 70 ∧ v7 = .slice q (dn + k) qc ∧ v8 = .int .i64 k ∧ Hid (Lin w5 wr m h h2 (some ⟨ab, 0, none⟩) cap a lf lo lc dn q qc xs ∧ xs.length = dn + k)) (fun _ v8 _ => 70 - (intOf v8).toNat)
                    case atStart => exact ⟨0, o, c, (h2 a).xs, by omega, rfl, rfl, HS⟩
                    case round =>
                      clear HS ca
                      obtain ⟨k, q, qc, xs, hk24, rfl, rfl, HK⟩ := hrel
                      by_cases hk : k < 70
                      · have hq4 : (k : Int) < 70 := by omega
                        obtain ⟨x, hx⟩ : ∃ x, UInt8.ofNat (100 + a) = x := ⟨_, rfl⟩
                        have hw8 := num_100 a (by omega)
                        rw [hx] at hw8
                        have HX := hide hx
                        clear hx
                        go_wp2_with (first
                          | (at_builtin; refine wpList_appR wr 0 rfl _ _ rfl rfl q qc xs x (dn + k) HK.out.2 rfl rfl HK.out.1.at_ (by omega) (Nat.zero_le _) ?_; intro g c2 w2 h1 h2' h3 h4; have HN : Hid (Lin w5 w2 m h h2 (some ⟨ab, 0, none⟩) cap a lf lo lc dn (some ⟨g, 0, none⟩) c2 (xs ++ [x]) ∧ (xs ++ [x]).length = dn + (k + 1)) := hide ⟨by rw [← HX.out] at h1 h3 h4 ⊢; exact HK.out.1.app ha h1 h2' h3 h4, by rw [List.length_append, HK.out.2]; rfl⟩; clear h1 h2' h3 h4)
                          | go_in)
                        go_roundw
                        case rel => exact ⟨k + 1, some ⟨g, 0, none⟩, c2, xs ++ [x], by omega, rfl, by go_num, HN⟩
                        case measure => simp [intOf]; omega
                      · have hk2 : k = 70 := by omega
                        subst hk2
                        go_wp2_with (first
                          | (at_builtin; refine wpList_appT wr 0 rfl _ _ rfl rfl lo lc a 1 (vals a lf) [.slice q (dn + 70) qc] rfl rfl HK.out.1.longer rfl (by decide) (by simp [Value.oneCell']) (by omega) (Nat.zero_le _) _ rfl ?_; intro g c2 w2 h1 h3 h4; have HN : Hid (Lgr w5 w2 m h h2 (some ⟨ab, 0, none⟩) cap (a + 1) (upr lf a ⟨q, qc, xs⟩) (some ⟨g, 0, none⟩) c2 dn) := hide (HK.out.1.next ha (by rw [HK.out.2, (HLN.out a ha).2]) (by rw [show (Rr.mk q qc xs).val = .slice q (dn + 70) qc by unfold Rr.val; rw [HK.out.2]]; exact h1) h3 h4); clear h1 h3 h4)
                          | go_in)
                        go_roundw
                        case rel => exact ⟨a + 1, _, some ⟨g, 0, none⟩, c2, by omega, rfl, by go_num, HN⟩
                        case measure => simp [intOf]; omega
                  · have ham3 : a = m := by omega
                    subst ham3
                    have hq3 : ¬ ((a : Int) < (a : Int)) := by omega
                    clear ha
                    go_wp2
                    go_loopw [23] (fun v wr => ∃ (i : Nat), i ≤ a ∧ v = .int .i64 i ∧ Hid (Lgr w5 wr a h h2 ao cap a lf lo lc dn)) (fun v _ => a - (intOf v).toNat)
                    case atStart => exact ⟨0, Nat.zero_le _, rfl, HG⟩
                    case round =>
                      clear HG hq3
                      obtain ⟨e, hea, rfl, HG⟩ := hrel
                      by_cases he : e < a
                      · have hq3 : (e : Int) < (a : Int) := by omega
                        obtain ⟨ab, hab, _⟩ := own_some HG.out.all (by omega)
                        subst hab
                        obtain ⟨lb, hlb, _⟩ := own_some HG.out.longer (by omega)
                        subst hlb
                        obtain ⟨o, ho⟩ : ∃ o, (h e).o = o := ⟨_, rfl⟩
                        obtain ⟨c, hc⟩ : ∃ c, (h e).c = c := ⟨_, rfl⟩
                        have hv : (h e).val = .slice o dn c := by unfold Rr.val; rw [ho, hc, (HLN.out e he).2]
                        have hll := HG.out.len e he
                        rw [(HLN.out e he).2] at hll
                        obtain ⟨lq, hlq⟩ : ∃ o, (lf e).o = o := ⟨_, rfl⟩
                        obtain ⟨qc, hqc⟩ : ∃ c, (lf e).c = c := ⟨_, rfl⟩
                        have hv2 : (lf e).val = .slice lq (dn + 70) qc := by unfold Rr.val; rw [hlq, hqc, hll]
                        have ca : wr.cell? ⟨ab, e, none⟩ = some (.slice o dn c) := by rw [HG.out.all.cellAt e (by omega), vals_at a h e he, hv]
                        have cl : wr.cell? ⟨lb, e, none⟩ = some (.slice lq (dn + 70) qc) := by rw [HG.out.longer.cellAt e (by omega), vals_at a lf e he, hv2]
                        have hhl : (h2 e).xs.length = dn := by have := HM.out.1 e he; rw [hv] at this; unfold Rr.val at this; injection this
                        have hho : (h2 e).o = o := by have := HM.out.1 e he; rw [hv] at this; unfold Rr.val at this; injection this
                        have s1 := (HG.out.lx.fam.own e he).sl
                        rw [hho] at s1
                        have s2 := (HG.out.lx.own e he).sl
                        rw [hlq] at s2
                        have m1 := HM.out.2 e he
                        rw [hhl] at m1
                        have m2 := HG.out.mks e he
                        rw [hll] at m2
                        have hr1 := rowIs_ok o dn c e dn _ wr hhl (by omega) (by omega) (by omega) s1 m1
                        have hr2 := rowIs_ok lq (dn + 70) qc e dn _ wr hll (by omega) (by omega) (by omega) s2 m2
                        clear ho hc hv hll hlq hqc hv2 hhl hho s1 s2 m1 m2
                        go_wp2_with (first
                          | (go_at_call 30; have Ha := hr1; refine hr1.mono ?_; rintro e' w7 ⟨rfl, hww⟩; subst hww; clear Ha hr1)
                          | (go_at_call 30; refine hr2.mono ?_; rintro e' w7 ⟨rfl, hww⟩; subst hww; clear hr2))
                        go_roundw
                        case rel => exact ⟨e + 1, by omega, by go_num, HG⟩
                        case measure => simp [intOf]; omega
                      · have hq3 : ¬ (e : Int) < (a : Int) := by omega
                        obtain ⟨hA8, hF8, hK8⟩ := HBS.out wr HG.out.bel
                        have hf8 := files_ax hA8 (by have := HNN.out; omega)
                        rw [HWAS.out] at hf8
                        have HK8 := hide hK8
                        have HF8 := hide hF8
                        clear hA8 hF8 hK8 HG HBS HM HLN HWAS
                        go_wp2_with (first
                          | (go_at_call 17; refine hf8.mono ?_; rintro e' w8 ⟨v8, vs8, rfl, hF9, hk9⟩; obtain ⟨fo, fc, rfl, _⟩ := own_shape hF9.row; have HK9 : Hid (Kept [] w w8) := hide (HK8.out.trans hk9 (by simp)); have hfy := files6_yes vo fo was.length vc fc was w8 rfl (by have := HNB.out.1; omega) (fun f hf => by have := HNB.out.2 f hf; omega) (HF8.out.kept hk9) (Fis.of hF9).1; clear hf8 hF9 hk9)
                          | (go_at_call 20; refine hfy.mono ?_; rintro e' w9 ⟨rfl, k9, hw9⟩; have HK10 : Hid (Kept [] w w9) := hide (HK9.out.trans (by rw [hw9]; exact (Kept.refl [] w8).drewN _) (by simp)); clear hfy hw9))
                        go_ret
                        exact ⟨rfl, HK10.out.below (Nat.le_refl _) (by simp)⟩
      · have hi5 : ¬ (i : Int) < (nn : Int) := by omega
        clear hi
        clear HNM HG
        have hfl := files_ax HK.out.ax (by omega)
        have HNB : Hid (S.files.length ≤ 3000000 ∧ ∀ f ∈ S.files, f.2.length ≤ 6000000) := hide (by
          have := files_small HK.out.ax.wf HK.out.ax.bd
          exact ⟨by omega, fun f hf => by have := this.2 f hf; omega⟩)
        have hm36 : m ≤ 36 := by omega
        go_wp2_with (go_at_call 17; refine hfl.mono ?_; rintro e w5 ⟨v5, vs5, rfl, hF5, hk5⟩; obtain ⟨vo, vc, rfl, _⟩ := own_shape hF5.row; have HBS := hide (HK.out.base hF5 hk5); have HK5 := hide (HK.out.keeps hk5); clear hfl hF5 hk5)
        clear HK
        have HLN : Hid (∀ j, j < m → (h j).xs = d ∧ (h j).xs.length = dn) := hide (fun j hj => ⟨HK5.out.xs j hj, by rw [HK5.out.xs j hj]; exact HDT.out.1⟩)
        have HA0 : Hid (Al w5 w5 m h h ao cap) := hide ⟨HK5.out.fam, fun _ _ => rfl, HK5.out.rows, Keep.refl _ _⟩
        clear HK5
        have HNN : Hid (1 + 2000 * i ≤ 268435456) := hide (by omega)
        generalize 1 + 2000 * i = N at HBS HNN
        generalize hwas : S.files = was at HNB HBS ⊢
        have HWAS := hide hwas
        clear hwas
        go_loopw [16] (fun v wr => ∃ (a : Nat), a ≤ m ∧ v = .int .i64 a ∧ Hid (Al w5 wr m h h ao cap)) (fun v wr => m - (intOf v).toNat)
        case atStart => exact ⟨0, Nat.zero_le _, rfl, HA0⟩
        case round =>
          clear HA0
          obtain ⟨a, ham, rfl, HA⟩ := hrel
          by_cases ha : a < m
          · have hq1 : (a : Int) < (m : Int) := by omega
            obtain ⟨ab, hab, _⟩ := own_some HA.out.all (by omega)
            subst hab
            obtain ⟨o, ho⟩ : ∃ o, (h a).o = o := ⟨_, rfl⟩
            obtain ⟨c, hc⟩ : ∃ c, (h a).c = c := ⟨_, rfl⟩
            have hv : (h a).val = .slice o dn c := by unfold Rr.val; rw [ho, hc, (HLN.out a ha).2]
            have ca : wr.cell? ⟨ab, a, none⟩ = some (.slice o dn c) := by rw [HA.out.all.cellAt a (by omega), vals_at m h a ha, hv]
            have hs1 : Sl wr o d := by have := (HA.out.fam.own a ha).sl; rw [ho, (HLN.out a ha).1] at this; exact this
            have hsm := same_yes o da dn c dc d wr HDT.out.1 (by omega) hs1 (HDT.out.2.1.kept ((HBS.out wr HA.out.bel).2.2) (by simp))
            clear ho hc hv hs1
            go_wp2_with (go_at_call 22; refine hsm.mono ?_; rintro e w7 ⟨rfl, kk, hk7⟩; have HN : Hid (Al w5 w7 m h h (some ⟨ab, 0, none⟩) cap) := hide (HA.out.kept (by rw [hk7]; exact (Kept.refl [] wr).drewN _)); clear hsm hk7)
            clear HA
            go_roundw
            case rel => exact ⟨a + 1, by omega, by go_num, HN⟩
            case measure => simp [intOf]; omega
          · have hq1 : ¬ (a : Int) < (m : Int) := by omega
            have H0 : Hid (Al w5 wr m h h ao cap ∧ ∀ j, j < 0 → Mkw j dn (h j).xs (h j).xs.length) := hide ⟨HA.out, fun j hj => by omega⟩
            clear HA
            go_wp2
            go_loopw [17] (fun v wr => ∃ (i : Nat) (h2 : Nat → Rr), i ≤ m ∧ v = .int .i64 i ∧ Hid (Al w5 wr m h h2 ao cap ∧ ∀ j, j < i → Mkw j dn (h2 j).xs (h2 j).xs.length)) (fun v _ => m - (intOf v).toNat)
            case atStart => exact ⟨0, h, Nat.zero_le _, rfl, H0⟩
            case round =>
              clear H0 ha hq1 ham
              obtain ⟨a, h2, ham, rfl, HI⟩ := hrel
              by_cases ha : a < m
              · have hq1 : (a : Int) < (m : Int) := by omega
                obtain ⟨ab, hab, _⟩ := own_some HI.out.1.all (by omega)
                subst hab
                obtain ⟨o, ho⟩ : ∃ o, (h a).o = o := ⟨_, rfl⟩
                obtain ⟨c, hc⟩ : ∃ c, (h a).c = c := ⟨_, rfl⟩
                have HV : Hid ((h a).val = .slice o dn c ∧ (h a).o = o) := hide ⟨by unfold Rr.val; rw [ho, hc, (HLN.out a ha).2], ho⟩
                have H1 : Hid (Al w5 wr m h h2 (some ⟨ab, 0, none⟩) cap ∧ (∀ j, j < a → Mkw j dn (h2 j).xs (h2 j).xs.length) ∧ Mkw a dn (h2 a).xs 0) := hide ⟨HI.out.1, HI.out.2, fun t ht => by omega⟩
                have ca0 : wr.cell? ⟨ab, a, none⟩ = some (.slice o dn c) := by rw [HI.out.1.all.cellAt a (by omega), vals_at m h a ha, HV.out.1]
                clear ho hc HI
                go_wp2
                go_loopw [18] (fun v wr => ∃ (k : Nat) (h2 : Nat → Rr), k ≤ dn ∧ v = .int .i64 k ∧ Hid (Al w5 wr m h h2 (some ⟨ab, 0, none⟩) cap ∧ (∀ j, j < a → Mkw j dn (h2 j).xs (h2 j).xs.length) ∧ Mkw a dn (h2 a).xs k)) (fun v _ => dn - (intOf v).toNat)
                case atStart => exact ⟨0, h2, Nat.zero_le _, rfl, H1⟩
                case round =>
                  clear H1 ca0
                  obtain ⟨k, h2, hkn, rfl, HK⟩ := hrel
                  have ca : wr.cell? ⟨ab, a, none⟩ = some (.slice o dn c) := by rw [HK.out.1.all.cellAt a (by omega), vals_at m h a ha, HV.out.1]
                  by_cases hk : k < dn
                  · have hq2 : (k : Int) < (dn : Int) := by omega
                    have hl2 : (h2 a).xs.length = dn := (HK.out.1.len ha).trans (HLN.out a ha).2
                    obtain ⟨g, hg, _⟩ := (HK.out.1.fam.own a ha).opens (by omega)
                    have hgo : o = some ⟨g, 0, none⟩ := by rw [← HV.out.2, ← HK.out.1.os ha, hg]
                    subst hgo
                    have gc := (HK.out.1.fam.own a ha).cellAt (k := k) hg (by omega)
                    have gf := (HK.out.1.fam.own a ha).frozenAt hg k
                    generalize ((h2 a).xs.getD k 0).toNat = old at gc
                    obtain ⟨x, hx⟩ : ∃ x, UInt8.ofNat a = x := ⟨_, rfl⟩
                    have hw8 := num_i a (by omega)
                    rw [hx] at hw8
                    have HN : Hid (Al w5 (wr.setCell ⟨g, k, none⟩ (.int .u8 x.toNat)) m h (upr h2 a ⟨(h2 a).o, (h2 a).c, (h2 a).xs.set k x⟩) (some ⟨ab, 0, none⟩) cap ∧ (∀ j, j < a → Mkw j dn (upr h2 a ⟨(h2 a).o, (h2 a).c, (h2 a).xs.set k x⟩ j).xs (upr h2 a ⟨(h2 a).o, (h2 a).c, (h2 a).xs.set k x⟩ j).xs.length) ∧ Mkw a dn (upr h2 a ⟨(h2 a).o, (h2 a).c, (h2 a).xs.set k x⟩ a).xs (k + 1)) := by
                      refine hide ⟨HK.out.1.put ha HV.out.2 x, fun j hj => ?_, ?_⟩
                      · rw [upr_other _ _ _ _ (by omega)]; exact HK.out.2.1 j hj
                      · rw [upr_same, ← hx]; exact HK.out.2.2.set (by omega) hk
                    clear hg hx hl2 HK
                    go_wp2
                    go_roundw
                    case rel => exact ⟨k + 1, _, by omega, by go_num, HN⟩
                    case measure => simp [intOf]; omega
                  · have hq2 : ¬ ((k : Int) < (dn : Int)) := by omega
                    have HN : Hid (Al w5 wr m h h2 (some ⟨ab, 0, none⟩) cap ∧ ∀ j, j < a + 1 → Mkw j dn (h2 j).xs (h2 j).xs.length) := hide ⟨HK.out.1, fun j hj => by
                      by_cases e : j = a
                      · subst e; rw [(HK.out.1.len ha).trans (HLN.out j ha).2]; exact (show k = dn by omega) ▸ HK.out.2.2
                      · exact HK.out.2.1 j (by omega)⟩
                    clear HK
                    go_wp2
                    go_roundw
                    case rel => exact ⟨a + 1, h2, by omega, by go_num, HN⟩
                    case measure => simp [intOf]; omega
              · have hq1 : ¬ ((a : Int) < (m : Int)) := by omega
                have ham2 : a = m := by omega
                have HM : Hid ((∀ j, j < m → (h2 j).val = (h j).val) ∧ ∀ j, j < m → Mkw j dn (h2 j).xs (h2 j).xs.length) := hide ⟨HI.out.1.same, fun j hj => HI.out.2 j (by omega)⟩
                have H3 : Hid (Lgr w5 wr m h h2 ao cap 0 h none 0 dn) := hide ⟨⟨HI.out.1.fam, fun j hj => by omega, fun j _ hj => by omega, fun j _ hj => by omega, fun j hj => by omega⟩, HI.out.1.all, World.ownsRow_nil _ _ _ _, fun k hk => by simp [Value.ownBlock] at hk, HI.out.1.bel, fun j hj => by omega, fun j hj => by omega, fun k hk => by cases hk⟩
                clear HI ha ham2
                go_wp2
                clear hq1 ham
                go_loopw [19, 20] (fun v3 v6 wr => ∃ (i : Nat) (lf : Nat → Rr) (lo : Option Addr) (lc : Nat), i ≤ m ∧ v3 = .slice lo i lc ∧ v6 = .int .i64 i ∧ Hid (Lgr w5 wr m h h2 ao cap i lf lo lc dn)) (fun _ v6 _ => m - (intOf v6).toNat)
                case atStart => exact ⟨0, h, none, 0, Nat.zero_le _, rfl, rfl, H3⟩
                case round =>
                  clear H3
                  obtain ⟨a, lf, lo, lc, ham, rfl, rfl, HG⟩ := hrel
                  by_cases ha : a < m
                  · have hq3 : (a : Int) < (m : Int) := by omega
                    obtain ⟨ab, hab, _⟩ := own_some HG.out.all (by omega)
                    subst hab
                    obtain ⟨o, ho⟩ : ∃ o, (h a).o = o := ⟨_, rfl⟩
                    obtain ⟨c, hc⟩ : ∃ c, (h a).c = c := ⟨_, rfl⟩
                    have HV : Hid ((h a).val = .slice o dn c) := hide (by unfold Rr.val; rw [ho, hc, (HLN.out a ha).2])
                    clear ho hc
                    have ca : wr.cell? ⟨ab, a, none⟩ = some (.slice o dn c) := by rw [HG.out.all.cellAt a (by omega), vals_at m h a ha, HV.out]
                    have hl2 : (h2 a).xs.length = dn := by have := HM.out.1 a ha; rw [HV.out] at this; unfold Rr.val at this; injection this
                    have HS : Hid (Lin w5 wr m h h2 (some ⟨ab, 0, none⟩) cap a lf lo lc dn o c (h2 a).xs ∧ (h2 a).xs.length = dn) := hide (HG.out.start ha (HM.out.1 a ha) ((HM.out.1 a ha).trans HV.out) (HM.out.2 a ha) (by omega))
                    clear HG hl2
                    go_wp2
                    go_loopw [21, 22] (fun v7 v8 wr => ∃ (k : Nat) (q : Option Addr) (qc : Nat) (xs : List UInt8), k ≤ 70 ∧ v7 = .slice q (dn + k) qc ∧ v8 = .int .i64 k ∧ Hid (Lin w5 wr m h h2 (some ⟨ab, 0, none⟩) cap a lf lo lc dn q qc xs ∧ xs.length = dn + k)) (fun _ v8 _ => 70 - (intOf v8).toNat)
                    case atStart => exact ⟨0, o, c, (h2 a).xs, by omega, rfl, rfl, HS⟩
                    case round =>
                      clear HS ca
                      obtain ⟨k, q, qc, xs, hk24, rfl, rfl, HK⟩ := hrel
                      by_cases hk : k < 70
                      · have hq4 : (k : Int) < 70 := by omega
                        obtain ⟨x, hx⟩ : ∃ x, UInt8.ofNat (100 + a) = x := ⟨_, rfl⟩
                        have hw8 := num_100 a (by omega)
                        rw [hx] at hw8
                        have HX := hide hx
                        clear hx
                        go_wp2_with (first
                          | (at_builtin; refine wpList_appR wr 0 rfl _ _ rfl rfl q qc xs x (dn + k) HK.out.2 rfl rfl HK.out.1.at_ (by omega) (Nat.zero_le _) ?_; intro g c2 w2 h1 h2' h3 h4; have HN : Hid (Lin w5 w2 m h h2 (some ⟨ab, 0, none⟩) cap a lf lo lc dn (some ⟨g, 0, none⟩) c2 (xs ++ [x]) ∧ (xs ++ [x]).length = dn + (k + 1)) := hide ⟨by rw [← HX.out] at h1 h3 h4 ⊢; exact HK.out.1.app ha h1 h2' h3 h4, by rw [List.length_append, HK.out.2]; rfl⟩; clear h1 h2' h3 h4)
                          | go_in)
                        go_roundw
                        case rel => exact ⟨k + 1, some ⟨g, 0, none⟩, c2, xs ++ [x], by omega, rfl, by go_num, HN⟩
                        case measure => simp [intOf]; omega
                      · have hk2 : k = 70 := by omega
                        subst hk2
                        go_wp2_with (first
                          | (at_builtin; refine wpList_appT wr 0 rfl _ _ rfl rfl lo lc a 1 (vals a lf) [.slice q (dn + 70) qc] rfl rfl HK.out.1.longer rfl (by decide) (by simp [Value.oneCell']) (by omega) (Nat.zero_le _) _ rfl ?_; intro g c2 w2 h1 h3 h4; have HN : Hid (Lgr w5 w2 m h h2 (some ⟨ab, 0, none⟩) cap (a + 1) (upr lf a ⟨q, qc, xs⟩) (some ⟨g, 0, none⟩) c2 dn) := hide (HK.out.1.next ha (by rw [HK.out.2, (HLN.out a ha).2]) (by rw [show (Rr.mk q qc xs).val = .slice q (dn + 70) qc by unfold Rr.val; rw [HK.out.2]]; exact h1) h3 h4); clear h1 h3 h4)
                          | go_in)
                        go_roundw
                        case rel => exact ⟨a + 1, _, some ⟨g, 0, none⟩, c2, by omega, rfl, by go_num, HN⟩
                        case measure => simp [intOf]; omega
                  · have ham3 : a = m := by omega
                    subst ham3
                    have hq3 : ¬ ((a : Int) < (a : Int)) := by omega
                    clear ha
                    go_wp2
                    go_loopw [23] (fun v wr => ∃ (i : Nat), i ≤ a ∧ v = .int .i64 i ∧ Hid (Lgr w5 wr a h h2 ao cap a lf lo lc dn)) (fun v _ => a - (intOf v).toNat)
                    case atStart => exact ⟨0, Nat.zero_le _, rfl, HG⟩
                    case round =>
                      clear HG hq3
                      obtain ⟨e, hea, rfl, HG⟩ := hrel
                      by_cases he : e < a
                      · have hq3 : (e : Int) < (a : Int) := by omega
                        obtain ⟨ab, hab, _⟩ := own_some HG.out.all (by omega)
                        subst hab
                        obtain ⟨lb, hlb, _⟩ := own_some HG.out.longer (by omega)
                        subst hlb
                        obtain ⟨o, ho⟩ : ∃ o, (h e).o = o := ⟨_, rfl⟩
                        obtain ⟨c, hc⟩ : ∃ c, (h e).c = c := ⟨_, rfl⟩
                        have hv : (h e).val = .slice o dn c := by unfold Rr.val; rw [ho, hc, (HLN.out e he).2]
                        have hll := HG.out.len e he
                        rw [(HLN.out e he).2] at hll
                        obtain ⟨lq, hlq⟩ : ∃ o, (lf e).o = o := ⟨_, rfl⟩
                        obtain ⟨qc, hqc⟩ : ∃ c, (lf e).c = c := ⟨_, rfl⟩
                        have hv2 : (lf e).val = .slice lq (dn + 70) qc := by unfold Rr.val; rw [hlq, hqc, hll]
                        have ca : wr.cell? ⟨ab, e, none⟩ = some (.slice o dn c) := by rw [HG.out.all.cellAt e (by omega), vals_at a h e he, hv]
                        have cl : wr.cell? ⟨lb, e, none⟩ = some (.slice lq (dn + 70) qc) := by rw [HG.out.longer.cellAt e (by omega), vals_at a lf e he, hv2]
                        have hhl : (h2 e).xs.length = dn := by have := HM.out.1 e he; rw [hv] at this; unfold Rr.val at this; injection this
                        have hho : (h2 e).o = o := by have := HM.out.1 e he; rw [hv] at this; unfold Rr.val at this; injection this
                        have s1 := (HG.out.lx.fam.own e he).sl
                        rw [hho] at s1
                        have s2 := (HG.out.lx.own e he).sl
                        rw [hlq] at s2
                        have m1 := HM.out.2 e he
                        rw [hhl] at m1
                        have m2 := HG.out.mks e he
                        rw [hll] at m2
                        have hr1 := rowIs_ok o dn c e dn _ wr hhl (by omega) (by omega) (by omega) s1 m1
                        have hr2 := rowIs_ok lq (dn + 70) qc e dn _ wr hll (by omega) (by omega) (by omega) s2 m2
                        clear ho hc hv hll hlq hqc hv2 hhl hho s1 s2 m1 m2
                        go_wp2_with (first
                          | (go_at_call 30; have Ha := hr1; refine hr1.mono ?_; rintro e' w7 ⟨rfl, hww⟩; subst hww; clear Ha hr1)
                          | (go_at_call 30; refine hr2.mono ?_; rintro e' w7 ⟨rfl, hww⟩; subst hww; clear hr2))
                        go_roundw
                        case rel => exact ⟨e + 1, by omega, by go_num, HG⟩
                        case measure => simp [intOf]; omega
                      · have hq3 : ¬ (e : Int) < (a : Int) := by omega
                        obtain ⟨hA8, hF8, hK8⟩ := HBS.out wr HG.out.bel
                        have hf8 := files_ax hA8 (by have := HNN.out; omega)
                        rw [HWAS.out] at hf8
                        have HK8 := hide hK8
                        have HF8 := hide hF8
                        clear hA8 hF8 hK8 HG HBS HM HLN HWAS
                        go_wp2_with (first
                          | (go_at_call 17; refine hf8.mono ?_; rintro e' w8 ⟨v8, vs8, rfl, hF9, hk9⟩; obtain ⟨fo, fc, rfl, _⟩ := own_shape hF9.row; have HK9 : Hid (Kept [] w w8) := hide (HK8.out.trans hk9 (by simp)); have hfy := files6_yes vo fo was.length vc fc was w8 rfl (by have := HNB.out.1; omega) (fun f hf => by have := HNB.out.2 f hf; omega) (HF8.out.kept hk9) (Fis.of hF9).1; clear hf8 hF9 hk9)
                          | (go_at_call 20; refine hfy.mono ?_; rintro e' w9 ⟨rfl, k9, hw9⟩; have HK10 : Hid (Kept [] w w9) := hide (HK9.out.trans (by rw [hw9]; exact (Kept.refl [] w8).drewN _) (by simp)); clear hfy hw9))
                        go_ret
                        exact ⟨rfl, HK10.out.below (Nat.le_refl _) (by simp)⟩
end Go.Proofs.YtemlbmamcbmnjaaGreatDoor
