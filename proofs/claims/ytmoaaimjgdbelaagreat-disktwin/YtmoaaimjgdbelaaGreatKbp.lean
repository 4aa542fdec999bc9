/-
  Contracts: slices.Clone at changes of bytes, thing.twin. (Written by tools/kb.py.)
  With: Kb, Kc.
-/
import Derived.Test.YtmoaaimjgdbelaaGreatHep
import Derived.Test.YtmoaaimjgdbelaaGreatGvp
import Derived.Test.YtmoaaimjgdbelaaGreatOlp
import Derived.Test.YtmoaaimjgdbelaaGreatHgp
import Derived.Test.YtmoaaimjgdbelaaGreatRfap
import Derived.Test.YtmoaaimjgdbelaaGreatGpp
namespace Go.Proofs.YtmoaaimjgdbelaaGreat
open Go.RowKit Dsk
set_option linter.unusedVariables false
set_option linter.unusedSimpArgs false
theorem Tryz.infoCh2 : (Tryz.prog.info? 185).map (fun i => (i.zero, i.size, i.bytes)) = some (some .nilIface, 1, 16) := by kernel_rfl

set_option maxHeartbeats 400000 in
set_option maxRecDepth 100000 in
theorem cloneC_nil (w : World) :
    Calls Tryz.prog 115 #[.slice none 0 0] w fun e w' => e = .returned (.slice none 0 0) ∧ w' = w := by
  have hnil := fun (w : World) (a : Option Addr) (n c : Nat) => Lib.run_eql_slice_nil (P := Tryz.prog) w 79 185 a n c 0 0 Tryz.underlying79
  go_enter Tryz.func115, Tryz.ntmps115
  go_wp2
  go_ret
  exact ⟨rfl, rfl⟩

set_option maxHeartbeats 400000 in
set_option maxRecDepth 100000 in
theorem cloneC_some (ad : Addr) (cap m : Nat) (xs : List Value) (w : World) (hx : xs.length = m * 1) (h1 : ∀ u ∈ xs, u.oneCell' = true) (hm : m ≤ 1073741824) (hc : ∀ j u, xs[j]? = some u → (w.alloc (.cells #[] 185)).cell? (ad.add j) = some u) :
    Calls Tryz.prog 115 #[.slice (some ad) m cap] w fun e w' => ∃ v, e = .returned v ∧ w'.ownsRow w.heap.size 185 1 v m xs ∧ Kept [] w w' := by
  obtain ⟨i0, hi, hz0, hz1, hz2⟩ := info_parts Tryz.infoCh2
  have hnil := fun (w : World) (a : Option Addr) (n c : Nat) => Lib.run_eql_slice_nil (P := Tryz.prog) w 79 185 a n c 0 0 Tryz.underlying79
  go_enter Tryz.func115, Tryz.ntmps115
  go_wp2_with (at_builtin; refine wpList_append_own _ rfl _ _ 79 rfl w.heap.size 185 i0 .nilIface 1 16 Tryz.underlying79 hi hz0 hz1 hz2 rfl (by decide) _ 0 [] rfl (World.ownsRow_made w #[] 0 (Nat.le_refl _) (by decide) rfl) ad m cap xs rfl hx hc h1 ?c3 ?c4 ?c5 ?_)
  case c3 => unfold maxLen; omega
  case c4 => omega
  case c5 => simp
  intro v' w1 hown hgrow hnn
  have hk : Kept [] w w1 := ((Kept.refl [] w).alloc _).grown hgrow (by intro k hk hlt; simp [Value.ownBlock] at hk; omega)
  obtain ⟨bo, bc, rfl, _⟩ := own_shape hown
  have HOW := hide hown
  clear hown hgrow hnn hnil hc
  go_wp2
  go_ret
  exact ⟨_, rfl, HOW.out, hk⟩

theorem cloneC_ok (v : Value) (n : Nat) (xs : List Value) (w : World) (h : w.ownsRow 0 185 1 v n xs) (h1 : ∀ u ∈ xs, u.oneCell' = true) (hm : n ≤ 1073741824) :
    Calls Tryz.prog 115 #[v] w fun e w' => ∃ v', e = .returned v' ∧ w'.ownsRow w.heap.size 185 1 v' n xs ∧ Kept [] w w' := by
  have hx := h.1
  have hcl := fun g => h.cells (g := g)
  rcases h.2 with ⟨rfl, rfl⟩ | ⟨g, cap, cur, rfl, _⟩
  · have : xs = [] := List.eq_nil_of_length_eq_zero (by omega)
    subst this
    refine (cloneC_nil w).mono ?_
    rintro e w' ⟨rfl, rfl⟩
    exact ⟨_, rfl, World.ownsRow_nil _ _ _ _, Kept.refl _ _⟩
  · have hk := (Kept.refl [] w).alloc (.cells #[] 185)
    exact cloneC_some ⟨g, 0, none⟩ cap n xs w hx h1 hm (fun j u hu => hk.cellOf (hcl g rfl j u hu) (by simp))
theorem encCh_one1 (c : Ch) : (encCh c).oneCell' = true := by cases c <;> rfl
/-- A thing that is new since w. -/
structure NewTh (w w' : World) (b : Nat) (rv sv : Value) (t : Th) : Prop where
  cells : w'.heap[b]? = some (.cells #[encStr t.safe, rv, sv] 81 (0, 0))
  row : w'.ownsRow 0 185 1 rv t.row.length (t.row.map encCh)
  shown : OwnB w' sv t.shown.length t.shown
  nb : w.heap.size ≤ b
  nr : ∀ g, rv.ownBlock = some g → w.heap.size ≤ g
  ns : ∀ g, sv.ownBlock = some g → w.heap.size ≤ g
theorem NewTh.at {w w' : World} {b : Nat} {rv sv : Value} {t : Th} (h : NewTh w w' b rv sv t) (o : Lab) (l : Nat) : ThAt w' (o.ext w w' l) l b rv sv t :=
  ⟨h.cells, h.row, h.shown, Lab.ext_new h.nb (Array.getElem?_eq_some_iff.1 h.cells).1, fun g hg => Lab.ext_new (h.nr g hg) (h.row.lt g hg).2, fun g hg => Lab.ext_new (h.ns g hg) (h.shown.lt hg)⟩

set_option maxHeartbeats 1600000 in
set_option maxRecDepth 100000 in
theorem thTwin_ok {w : World} {o : Lab} {l b : Nat} {rv sv : Value} {t : Th} (h : ThAt w o l b rv sv t) (hr : t.row.length ≤ 1073741824) (hs : t.shown.length ≤ 1073741824) :
    Calls Tryz.prog 105 #[.pointer (some ⟨b, 0, none⟩)] w fun e w' => ∃ b' rv' sv', e = .returned (.pointer (some ⟨b', 0, none⟩)) ∧ NewTh w w' b' rv' sv' t ∧ Kept [] w w' := by
  have k0 : w.cell? ⟨b, 0, none⟩ = some (encStr t.safe) := by rw [cell_of_row w _ 0 _ _ _ h.cells]; rfl
  have k1 : w.cell? ⟨b, 1, none⟩ = some rv := by rw [cell_of_row w _ 1 _ _ _ h.cells]; rfl
  have k2 : w.cell? ⟨b, 2, none⟩ = some sv := by rw [cell_of_row w _ 2 _ _ _ h.cells]; rfl
  obtain ⟨ro, rc, rfl, _⟩ := own_shape h.row
  obtain ⟨so, sc, rfl, hsc, _, hs0, _⟩ := h.shown.shape
  have HC := hide (fun (v : World) (hk : Kept [] w v) => cloneC_ok _ _ _ v (own_keeps h.row (Keep.ofNone (F := fun _ => False) hk) (fun _ _ h => h)) (fun u hu => by obtain ⟨c, _, rfl⟩ := List.mem_map.1 hu; exact encCh_one1 c) hr)
  have HB := hide (fun (v : World) (hk : Kept [] w v) => cloneB_ok so t.shown.length sc t.shown v rfl (h.shown.kept hk).sl hs0 hs)
  clear h hsc
  go_enter Tryz.func105, Tryz.ntmps105
  go_upto_region 1 with (fail)
  refine wp_region_held_drew (S := fun v => Kept [] w v) (by kernel_rfl) ((Kept.refl [] w).drew) (fun h0 => ?_)
  generalize World.drew w = v0 at h0 ⊢
  refine wpAnyH_take (i := 0) (v := (.pointer (some ⟨b, 0, none⟩))) rfl (by kernel_rfl) (by kernel_rfl) (by kernel_rfl) (fun _ _ _ h => h) (Or.inl ⟨by rfl, fun w hSw => by go_simp⟩) h0 ?_
  try simp only [List.getElem_toArray, List.getElem_cons_zero, List.getElem_cons_succ, Act.put, List.setIfInBounds_toArray, List.set_cons_zero, List.set_cons_succ]
  refine wpAnyH_take (i := 1) (v := (.pointer (some ⟨b, 0, none⟩))) rfl (by kernel_rfl) (by kernel_rfl) (by kernel_rfl) (fun _ _ _ h => h) (Or.inl ⟨by rfl, fun w hSw => by go_simp⟩) h0 ?_
  try simp only [List.getElem_toArray, List.getElem_cons_zero, List.getElem_cons_succ, Act.put, List.setIfInBounds_toArray, List.set_cons_zero, List.set_cons_succ]
  refine wpAnyH_take (i := 2) (v := (.pointer (some ⟨b, 0, none⟩))) rfl (by kernel_rfl) (by kernel_rfl) (by kernel_rfl) (fun _ _ _ h => h) (Or.inl ⟨by rfl, fun w hSw => by go_simp⟩) h0 ?_
  try simp only [List.getElem_toArray, List.getElem_cons_zero, List.getElem_cons_succ, Act.put, List.setIfInBounds_toArray, List.set_cons_zero, List.set_cons_succ]
  refine wpAnyH_take (i := 3) (v := (encStr t.safe)) rfl (by kernel_rfl) (by kernel_rfl) (by kernel_rfl) (fun _ _ _ h => h) (Or.inl ⟨by rfl, fun w hSw => by have c := Kept.cellOf hSw k0 (by simp); go_simp⟩) h0 ?_
  try simp only [List.getElem_toArray, List.getElem_cons_zero, List.getElem_cons_succ, Act.put, List.setIfInBounds_toArray, List.set_cons_zero, List.set_cons_succ]
  refine wpAnyH_take (i := 4) (v := (.pointer (some ⟨b, 0, none⟩))) rfl (by kernel_rfl) (by kernel_rfl) (by kernel_rfl) (fun _ _ _ h => h) (Or.inl ⟨by rfl, fun w hSw => by go_simp⟩) h0 ?_
  try simp only [List.getElem_toArray, List.getElem_cons_zero, List.getElem_cons_succ, Act.put, List.setIfInBounds_toArray, List.set_cons_zero, List.set_cons_succ]
  refine wpAnyH_take (i := 5) (v := (.pointer (some ⟨b, 0, none⟩))) rfl (by kernel_rfl) (by kernel_rfl) (by kernel_rfl) (fun _ _ _ h => h) (Or.inl ⟨by rfl, fun w hSw => by go_simp⟩) h0 ?_
  try simp only [List.getElem_toArray, List.getElem_cons_zero, List.getElem_cons_succ, Act.put, List.setIfInBounds_toArray, List.set_cons_zero, List.set_cons_succ]
  refine wpAnyH_take (i := 6) (v := (.pointer (some ⟨b, 1, none⟩))) rfl (by kernel_rfl) (by kernel_rfl) (by kernel_rfl) (fun _ _ _ h => h) (Or.inl ⟨by rfl, fun w hSw => by go_simp⟩) h0 ?_
  try simp only [List.getElem_toArray, List.getElem_cons_zero, List.getElem_cons_succ, Act.put, List.setIfInBounds_toArray, List.set_cons_zero, List.set_cons_succ]
  refine wpAnyH_take (i := 7) (v := (.slice ro t.row.length rc)) rfl (by kernel_rfl) (by kernel_rfl) (by kernel_rfl) (fun _ _ _ h => h) (Or.inl ⟨by rfl, fun w hSw => by have c := Kept.cellOf hSw k1 (by simp); go_simp⟩) h0 ?_
  try simp only [List.getElem_toArray, List.getElem_cons_zero, List.getElem_cons_succ, Act.put, List.setIfInBounds_toArray, List.set_cons_zero, List.set_cons_succ]
  refine wpAnyH_take (i := 9) (v := (.pointer (some ⟨b, 0, none⟩))) rfl (by kernel_rfl) (by kernel_rfl) (by kernel_rfl) (fun _ _ _ h => h) (Or.inl ⟨by rfl, fun w hSw => by go_simp⟩) h0 ?_
  try simp only [List.getElem_toArray, List.getElem_cons_zero, List.getElem_cons_succ, Act.put, List.setIfInBounds_toArray, List.set_cons_zero, List.set_cons_succ]
  refine wpAnyH_take (i := 10) (v := (.pointer (some ⟨b, 0, none⟩))) rfl (by kernel_rfl) (by kernel_rfl) (by kernel_rfl) (fun _ _ _ h => h) (Or.inl ⟨by rfl, fun w hSw => by go_simp⟩) h0 ?_
  try simp only [List.getElem_toArray, List.getElem_cons_zero, List.getElem_cons_succ, Act.put, List.setIfInBounds_toArray, List.set_cons_zero, List.set_cons_succ]
  refine wpAnyH_take (i := 11) (v := (.pointer (some ⟨b, 2, none⟩))) rfl (by kernel_rfl) (by kernel_rfl) (by kernel_rfl) (fun _ _ _ h => h) (Or.inl ⟨by rfl, fun w hSw => by go_simp⟩) h0 ?_
  try simp only [List.getElem_toArray, List.getElem_cons_zero, List.getElem_cons_succ, Act.put, List.setIfInBounds_toArray, List.set_cons_zero, List.set_cons_succ]
  refine wpAnyH_take (i := 12) (v := (.slice so t.shown.length sc)) rfl (by kernel_rfl) (by kernel_rfl) (by kernel_rfl) (fun _ _ _ h => h) (Or.inl ⟨by rfl, fun w hSw => by have c := Kept.cellOf hSw k2 (by simp); go_simp⟩) h0 ?_
  try simp only [List.getElem_toArray, List.getElem_cons_zero, List.getElem_cons_succ, Act.put, List.setIfInBounds_toArray, List.set_cons_zero, List.set_cons_succ]
  refine wpAnyH_ready (rs := [8]) (by kernel_rfl) (by simp) (AllReadyH.cons (i := 8) rfl (fun K hK => ?_) AllReadyH.nil)
  rw [if_pos (by rfl)]
  go_simp
  refine (HC.out _ h0).mono ?_
  rintro e v1 ⟨rv1, rfl, ho1, hq1⟩
  have h1 : Kept [] w v1 := h0.trans hq1 (by simp)
  have hz1 := h0.size
  refine hK.out _ _ h1 (fun h1 => ?_)
  clear hK K hq1 h0
  try simp only [List.getElem_toArray, List.getElem_cons_zero, List.getElem_cons_succ, Act.put, List.setIfInBounds_toArray, List.set_cons_zero, List.set_cons_succ]
  refine wpAnyH_ready (rs := [13]) (by kernel_rfl) (by simp) (AllReadyH.cons (i := 13) rfl (fun K hK => ?_) AllReadyH.nil)
  rw [if_pos (by rfl)]
  go_simp
  refine (HB.out _ h1).mono ?_
  rintro e v2 ⟨sv2, rfl, ho2, hq2, hg2⟩
  have h2 : Kept [] w v2 := h1.trans hq2 (by simp)
  have hz2 := h1.size
  have ho1' := own_keeps ho1 (Keep.ofNone (F := fun _ => False) hq2) (fun _ _ h => h)
  refine hK.out _ _ h2 (fun h2 => ?_)
  clear hK K hq2 h1 ho1
  try simp only [List.getElem_toArray, List.getElem_cons_zero, List.getElem_cons_succ, Act.put, List.setIfInBounds_toArray, List.set_cons_zero, List.set_cons_succ]
  obtain ⟨ro1, rc1, rfl, _⟩ := own_shape ho1'
  obtain ⟨so2, sc2, rfl, _⟩ := ho2.shape
  refine wpAnyH_take (i := 14) (v := (.agg #[encStr t.safe, .slice ro1 t.row.length rc1, .slice so2 t.shown.length sc2])) rfl (by kernel_rfl) (by kernel_rfl) (by kernel_rfl) (fun _ _ _ h => h) (Or.inl ⟨by rfl, fun w hSw => by go_simp⟩) h2 ?_
  try simp only [List.getElem_toArray, List.getElem_cons_zero, List.getElem_cons_succ, Act.put, List.setIfInBounds_toArray, List.set_cons_zero, List.set_cons_succ]
  refine wpAnyH_ready (rs := [15]) (by kernel_rfl) (by simp) (AllReadyH.cons (i := 15) rfl (fun K hK => ?_) AllReadyH.nil)
  rw [if_pos (by rfl)]
  go_simp
  refine hK.out _ _ (h2.alloc _) (fun h3 => ?_)
  clear hK K
  try simp only [List.getElem_toArray, List.getElem_cons_zero, List.getElem_cons_succ, Act.put, List.setIfInBounds_toArray, List.set_cons_zero, List.set_cons_succ]
  refine wpAnyH_take (i := 16) (v := (.pointer (some ⟨v2.heap.size, 0, none⟩))) rfl (by kernel_rfl) (by kernel_rfl) (by kernel_rfl) (fun _ _ _ h => h) (Or.inl ⟨by rfl, fun w hSw => by go_simp⟩) h3 ?_
  try simp only [List.getElem_toArray, List.getElem_cons_zero, List.getElem_cons_succ, Act.put, List.setIfInBounds_toArray, List.set_cons_zero, List.set_cons_succ]
  refine wpAnyH_done (by kernel_rfl) ?_ _
  have hz3 := h2.size
  have HN : Hid (NewTh w (v2.alloc (.cells #[encStr t.safe, .slice ro1 t.row.length rc1, .slice so2 t.shown.length sc2] 81)) v2.heap.size (.slice ro1 t.row.length rc1) (.slice so2 t.shown.length sc2) t) := hide ⟨(MapKept.heap_alloc v2 _).1, own_keeps (ownsRow_base_a ho1' (Nat.zero_le _)) (Keep.ofNone (F := fun _ => False) ((Kept.refl [] v2).alloc _)) (fun _ _ h => h), ho2.kept ((Kept.refl [] v2).alloc _), hz3, fun g hg => Nat.le_trans hz1 (ho1'.lt g hg).1, fun g hg => Nat.le_trans hz2 (hg2 g hg)⟩
  have HK3 := hide h3
  clear h3 h2 ho1' ho2 hg2 HB HC
  go_wp2
  go_ret
  exact ⟨_, _, _, rfl, HN.out, HK3.out⟩
end Go.Proofs.YtmoaaimjgdbelaaGreat

namespace Go.Proofs.YtmoaaimjgdbelaaGreat
open Go.RowKit Dsk
set_option linter.unusedVariables false
set_option linter.unusedSimpArgs false

set_option maxHeartbeats 1600000 in
set_option maxRecDepth 100000 in
theorem gvTwin_ok (f t : By) (w : World) : Calls Tryz.prog 161 #[.agg #[encStr f, encStr t]] w fun e w' => e = .returned (.iface 141 (.agg #[encStr f, encStr t])) ∧ Kept [] w w' := by
  obtain ⟨w1, hw1⟩ : ∃ w1, w1 = w.alloc (.cells #[encStr f, encStr t] 141) := ⟨_, rfl⟩
  have hk1 : Kept [] w w1 := by rw [hw1]; exact (Kept.refl [] w).alloc _
  have hb1 : w1.heap[w.heap.size]? = some (.cells #[encStr f, encStr t] 141 (0, 0)) := by rw [hw1]; exact (MapKept.heap_alloc w _).1
  have i0 : w1.cell? ⟨w.heap.size, 0, none⟩ = some (encStr f) := by rw [cell_of_row w1 _ 0 _ _ _ hb1]; rfl
  have i1 : w1.cell? ⟨w.heap.size, 1, none⟩ = some (encStr t) := by rw [cell_of_row w1 _ 1 _ _ _ hb1]; rfl
  clear hb1
  go_enter Tryz.func161, Tryz.ntmps161
  go_upto_region 1 with (fail)
  rw [← hw1]
  clear hw1
  go_wp2
  go_ret
  exact ⟨rfl, hk1⟩
set_option maxHeartbeats 1600000 in
set_option maxRecDepth 100000 in
theorem tkTwin_ok (f : By) (w : World) : Calls Tryz.prog 163 #[.agg #[encStr f]] w fun e w' => e = .returned (.iface 146 (.agg #[encStr f])) ∧ Kept [] w w' := by
  obtain ⟨w1, hw1⟩ : ∃ w1, w1 = w.alloc (.cells #[encStr f] 146) := ⟨_, rfl⟩
  have hk1 : Kept [] w w1 := by rw [hw1]; exact (Kept.refl [] w).alloc _
  have hb1 : w1.heap[w.heap.size]? = some (.cells #[encStr f] 146 (0, 0)) := by rw [hw1]; exact (MapKept.heap_alloc w _).1
  have i0 : w1.cell? ⟨w.heap.size, 0, none⟩ = some (encStr f) := by rw [cell_of_row w1 _ 0 _ _ _ hb1]; rfl
  clear hb1
  go_enter Tryz.func163, Tryz.ntmps163
  go_upto_region 1 with (fail)
  rw [← hw1]
  clear hw1
  go_wp2
  go_ret
  exact ⟨rfl, hk1⟩
theorem NewTh.base {w v w' : World} {b : Nat} {rv sv : Value} {t : Th} (h : NewTh v w' b rv sv t) (hw : w.heap.size ≤ v.heap.size) : NewTh w w' b rv sv t :=
  ⟨h.cells, h.row, h.shown, Nat.le_trans hw h.nb, fun g hg => Nat.le_trans hw (h.nr g hg), fun g hg => Nat.le_trans hw (h.ns g hg)⟩
set_option maxHeartbeats 1600000 in
set_option maxRecDepth 100000 in
theorem mkTwin_ok (n : By) (b : Nat) (t : Th) (w : World) (ht : ∀ v, Kept [] w v → Calls Tryz.prog 105 #[.pointer (some ⟨b, 0, none⟩)] v fun e w' => ∃ b' rv' sv', e = .returned (.pointer (some ⟨b', 0, none⟩)) ∧ NewTh v w' b' rv' sv' t ∧ Kept [] v w') :
    Calls Tryz.prog 159 #[.agg #[encStr n, .pointer (some ⟨b, 0, none⟩)]] w fun e w' => ∃ b' rv' sv', e = .returned (.iface 122 (.agg #[encStr n, .pointer (some ⟨b', 0, none⟩)])) ∧ NewTh w w' b' rv' sv' t ∧ Kept [] w w' := by
  obtain ⟨w1, hw1⟩ : ∃ w1, w1 = w.alloc (.cells #[encStr n, .pointer (some ⟨b, 0, none⟩)] 122) := ⟨_, rfl⟩
  have hk1 : Kept [] w w1 := by rw [hw1]; exact (Kept.refl [] w).alloc _
  have hb1 : w1.heap[w.heap.size]? = some (.cells #[encStr n, .pointer (some ⟨b, 0, none⟩)] 122 (0, 0)) := by rw [hw1]; exact (MapKept.heap_alloc w _).1
  have i0 : w1.cell? ⟨w.heap.size, 0, none⟩ = some (encStr n) := by rw [cell_of_row w1 _ 0 _ _ _ hb1]; rfl
  have i1 : w1.cell? ⟨w.heap.size, 1, none⟩ = some (.pointer (some ⟨b, 0, none⟩)) := by rw [cell_of_row w1 _ 1 _ _ _ hb1]; rfl
  have HT := hide (fun (v : World) (hk : Kept [] w1 v) => ht v (hk1.trans hk (by simp)))
  have hsz : w.heap.size ≤ w1.heap.size := hk1.size
  generalize hqe : w.heap.size = q at i0 i1
  clear hb1 ht
  go_enter Tryz.func159, Tryz.ntmps159
  go_upto_region 1 with (fail)
  rw [← hw1]
  clear hw1
  refine wp_region_held_drew (S := fun v => Kept [] w1 v) (by kernel_rfl) ((Kept.refl [] w1).drew) (fun h0 => ?_)
  generalize World.drew w1 = v0 at h0 ⊢
  refine wpAnyH_take (i := 0) (v := (.pointer (some ⟨q, 0, none⟩))) rfl (by kernel_rfl) (by kernel_rfl) (by kernel_rfl) (fun _ _ _ h => h) (Or.inl ⟨by rfl, fun w hSw => by go_simp⟩) h0 ?_
  try simp only [List.getElem_toArray, List.getElem_cons_zero, List.getElem_cons_succ, Act.put, List.setIfInBounds_toArray, List.set_cons_zero, List.set_cons_succ]
  refine wpAnyH_take (i := 1) (v := (encStr n)) rfl (by kernel_rfl) (by kernel_rfl) (by kernel_rfl) (fun _ _ _ h => h) (Or.inl ⟨by rfl, fun w hSw => by have c := Kept.cellOf hSw i0 (by simp); go_simp⟩) h0 ?_
  try simp only [List.getElem_toArray, List.getElem_cons_zero, List.getElem_cons_succ, Act.put, List.setIfInBounds_toArray, List.set_cons_zero, List.set_cons_succ]
  refine wpAnyH_take (i := 2) (v := (.pointer (some ⟨q, 1, none⟩))) rfl (by kernel_rfl) (by kernel_rfl) (by kernel_rfl) (fun _ _ _ h => h) (Or.inl ⟨by rfl, fun w hSw => by go_simp⟩) h0 ?_
  try simp only [List.getElem_toArray, List.getElem_cons_zero, List.getElem_cons_succ, Act.put, List.setIfInBounds_toArray, List.set_cons_zero, List.set_cons_succ]
  refine wpAnyH_take (i := 3) (v := (.pointer (some ⟨b, 0, none⟩))) rfl (by kernel_rfl) (by kernel_rfl) (by kernel_rfl) (fun _ _ _ h => h) (Or.inl ⟨by rfl, fun w hSw => by have c := Kept.cellOf hSw i1 (by simp); go_simp⟩) h0 ?_
  try simp only [List.getElem_toArray, List.getElem_cons_zero, List.getElem_cons_succ, Act.put, List.setIfInBounds_toArray, List.set_cons_zero, List.set_cons_succ]
  refine wpAnyH_ready (rs := [4]) (by kernel_rfl) (by simp) (AllReadyH.cons (i := 4) rfl (fun K hK => ?_) AllReadyH.nil)
  rw [if_pos (by rfl)]
  go_simp
  refine (HT.out _ h0).mono ?_
  rintro e v1 ⟨b1, rv1, sv1, rfl, ho1, hq1⟩
  have h1 : Kept [] w1 v1 := h0.trans hq1 (by simp)
  have hz1 := h0.size
  refine hK.out _ _ h1 (fun h1 => ?_)
  clear hK K hq1
  try simp only [List.getElem_toArray, List.getElem_cons_zero, List.getElem_cons_succ, Act.put, List.setIfInBounds_toArray, List.set_cons_zero, List.set_cons_succ]
  refine wpAnyH_take (i := 5) (v := (.agg #[encStr n, .pointer (some ⟨b1, 0, none⟩)])) rfl (by kernel_rfl) (by kernel_rfl) (by kernel_rfl) (fun _ _ _ h => h) (Or.inl ⟨by rfl, fun w hSw => by go_simp⟩) h1 ?_
  try simp only [List.getElem_toArray, List.getElem_cons_zero, List.getElem_cons_succ, Act.put, List.setIfInBounds_toArray, List.set_cons_zero, List.set_cons_succ]
  refine wpAnyH_take (i := 6) (v := (.iface 122 (.agg #[encStr n, .pointer (some ⟨b1, 0, none⟩)]))) rfl (by kernel_rfl) (by kernel_rfl) (by kernel_rfl) (fun _ _ _ h => h) (Or.inl ⟨by rfl, fun w hSw => by go_simp⟩) h1 ?_
  try simp only [List.getElem_toArray, List.getElem_cons_zero, List.getElem_cons_succ, Act.put, List.setIfInBounds_toArray, List.set_cons_zero, List.set_cons_succ]
  refine wpAnyH_take (i := 7) (v := (.iface 122 (.agg #[encStr n, .pointer (some ⟨b1, 0, none⟩)]))) rfl (by kernel_rfl) (by kernel_rfl) (by kernel_rfl) (fun _ _ _ h => h) (Or.inl ⟨by rfl, fun w hSw => by go_simp⟩) h1 ?_
  try simp only [List.getElem_toArray, List.getElem_cons_zero, List.getElem_cons_succ, Act.put, List.setIfInBounds_toArray, List.set_cons_zero, List.set_cons_succ]
  refine wpAnyH_done (by kernel_rfl) ?_ _
  have HN := hide (ho1.base (w := w) (Nat.le_trans hsz hz1))
  have HK1 := hide (hk1.trans h1 (by simp))
  clear ho1 h1 h0 HT
  go_wp2
  go_ret
  exact ⟨_, _, _, rfl, HN.out, HK1.out⟩
end Go.Proofs.YtmoaaimjgdbelaaGreat
