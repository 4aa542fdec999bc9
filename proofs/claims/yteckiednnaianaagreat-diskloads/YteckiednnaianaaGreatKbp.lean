import Derived.Test.YteckiednnaianaaGreatHep
import Derived.Test.YteckiednnaianaaGreatGvp
import Derived.Test.YteckiednnaianaaGreatOlp
import Derived.Test.YteckiednnaianaaGreatHgp
import Derived.Test.YteckiednnaianaaGreatHlp
import Derived.Test.YteckiednnaianaaGreatGpp
import Derived.Test.YteckiednnaianaaGreatGxp
import Derived.Test.YteckiednnaianaaGreatHap
namespace Go.Proofs.YteckiednnaianaaGreat
section
open Go.RowKit Dsk
set_option linter.unusedVariables false
set_option linter.unusedSimpArgs false
theorem Tryz.infoCh2 : (Tryz.prog.info? 174).map (fun i => (i.zero, i.size, i.bytes)) = some (some .nilIface, 1, 16) := by kernel_rfl
set_option maxHeartbeats 400000 in
set_option maxRecDepth 100000 in
theorem cloneC_nil (w : World) :
  Calls Tryz.prog 119 #[.slice none 0 0] w fun e w' => e = .returned (.slice none 0 0) ∧ w' = w := by
 have hnil := fun (w : World) (a : Option Addr) (n c : Nat) => Lib.run_eql_slice_nil (P := Tryz.prog) w 65 174 a n c 0 0 Tryz.underlying65
 go_enter Tryz.func119, Tryz.ntmps119
 go_wp2
 go_ret
 exact ⟨rfl, rfl⟩
set_option maxHeartbeats 400000 in
set_option maxRecDepth 100000 in
theorem cloneC_some (ad : Addr) (cap m : Nat) (xs : List Value) (w : World) (hx : xs.length = m * 1) (h1 : ∀ u ∈ xs, u.oneCell' = true) (hm : m ≤ 1073741824) (hc : ∀ j u, xs[j]? = some u → (w.alloc (.cells #[] 174)).cell? (ad.add j) = some u) :
  Calls Tryz.prog 119 #[.slice (some ad) m cap] w fun e w' => ∃ v, e = .returned v ∧ w'.ownsRow w.heap.size 174 1 v m xs ∧ Kept [] w w' := by
 obtain ⟨i0, hi, hz0, hz1, hz2⟩ := info_parts Tryz.infoCh2
 have hnil := fun (w : World) (a : Option Addr) (n c : Nat) => Lib.run_eql_slice_nil (P := Tryz.prog) w 65 174 a n c 0 0 Tryz.underlying65
 go_enter Tryz.func119, Tryz.ntmps119
 go_wp2_with (at_builtin; refine wpList_append_own _ rfl _ _ 65 rfl w.heap.size 174 i0 .nilIface 1 16 Tryz.underlying65 hi hz0 hz1 hz2 rfl (by decide) _ 0 [] rfl (World.ownsRow_made w #[] 0 (Nat.le_refl _) (by decide) rfl) ad m cap xs rfl hx hc h1 ?c3 ?c4 ?c5 ?_)
 case c3 => unfold maxLen; omega
 case c4 => omega
 case c5 => simp
 intro v' w1 hown hgrow hnn
 have hk : Kept [] w w1 := ((Kept.refl [] w).alloc _).grown hgrow (by intro k hk hlt; simp [Value.ownBlock] at hk; omega)
 obtain ⟨bo, bc, rfl, _⟩ := own_shape hown
 have HOW := hide hown
 clear hown hgrow hnn hnil hc
 go_wp2
 go_ret
 exact ⟨_, rfl, HOW.out, hk⟩
theorem cloneC_ok (v : Value) (n : Nat) (xs : List Value) (w : World) (h : w.ownsRow 0 174 1 v n xs) (h1 : ∀ u ∈ xs, u.oneCell' = true) (hm : n ≤ 1073741824) :
  Calls Tryz.prog 119 #[v] w fun e w' => ∃ v', e = .returned v' ∧ w'.ownsRow w.heap.size 174 1 v' n xs ∧ Kept [] w w' := by
 have hx := h.1
 have hcl := fun g => h.cells (g := g)
 rcases h.2 with ⟨rfl, rfl⟩ | ⟨g, cap, cur, rfl, _⟩
 ·have : xs = [] := List.eq_nil_of_length_eq_zero (by omega)
  subst this
  refine (cloneC_nil w).mono ?_
  rintro e w' ⟨rfl, rfl⟩
  exact ⟨_, rfl, World.ownsRow_nil _ _ _ _, Kept.refl _ _⟩
 ·have hk := (Kept.refl [] w).alloc (.cells #[] 174)
  exact cloneC_some ⟨g, 0, none⟩ cap n xs w hx h1 hm (fun j u hu => hk.cellOf (hcl g rfl j u hu) (by simp))
theorem encCh_one1 (c : Ch) : (encCh c).oneCell' = true := by cases c <;> rfl
structure NewTh (w w' : World) (b : Nat) (rv sv : Value) (t : Th) : Prop where
 cells : w'.heap[b]? = some (.cells #[encStr t.safe, rv, sv] 67 (0, 0))
 row : w'.ownsRow 0 174 1 rv t.row.length (t.row.map encCh)
 shown : OwnB w' sv t.shown.length t.shown
 nb : w.heap.size ≤ b
 nr : ∀ g, rv.ownBlock = some g → w.heap.size ≤ g
 ns : ∀ g, sv.ownBlock = some g → w.heap.size ≤ g
theorem NewTh.at {w w' : World} {b : Nat} {rv sv : Value} {t : Th} (h : NewTh w w' b rv sv t) (o : Lab) (l : Nat) : ThAt w' (o.ext w w' l) l b rv sv t :=
 ⟨h.cells, h.row, h.shown, Lab.ext_new h.nb (Array.getElem?_eq_some_iff.1 h.cells).1, fun g hg => Lab.ext_new (h.nr g hg) (h.row.lt g hg).2, fun g hg => Lab.ext_new (h.ns g hg) (h.shown.lt hg)⟩
set_option maxHeartbeats 1600000 in
set_option maxRecDepth 100000 in
theorem thTwin_ok {w : World} {o : Lab} {l b : Nat} {rv sv : Value} {t : Th} (h : ThAt w o l b rv sv t) (hr : t.row.length ≤ 1073741824) (hs : t.shown.length ≤ 1073741824) :
  Calls Tryz.prog 114 #[.pointer (some ⟨b, 0, none⟩)] w fun e w' => ∃ b' rv' sv', e = .returned (.pointer (some ⟨b', 0, none⟩)) ∧ NewTh w w' b' rv' sv' t ∧ Kept [] w w' := by
 have k0 : w.cell? ⟨b, 0, none⟩ = some (encStr t.safe) := by rw [cell_of_row w _ 0 _ _ _ h.cells]; rfl
 have k1 : w.cell? ⟨b, 1, none⟩ = some rv := by rw [cell_of_row w _ 1 _ _ _ h.cells]; rfl
 have k2 : w.cell? ⟨b, 2, none⟩ = some sv := by rw [cell_of_row w _ 2 _ _ _ h.cells]; rfl
 obtain ⟨ro, rc, rfl, _⟩ := own_shape h.row
 obtain ⟨so, sc, rfl, hsc, _, hs0, _⟩ := h.shown.shape
 have HC := hide (fun (v : World) (hk : Kept [] w v) => cloneC_ok _ _ _ v (own_keeps h.row (Keep.ofNone (F := fun _ => False) hk) (fun _ _ h => h)) (fun u hu => by obtain ⟨c, _, rfl⟩ := List.mem_map.1 hu; exact encCh_one1 c) hr)
 have HB := hide (fun (v : World) (hk : Kept [] w v) => cloneB_ok so t.shown.length sc t.shown v rfl (h.shown.kept hk).sl hs0 hs)
 clear h hsc
 go_enter Tryz.func114, Tryz.ntmps114
 go_upto_region 1 with (fail)
 refine wp_region_held_drew (S := fun v => Kept [] w v) (by kernel_rfl) ((Kept.refl [] w).drew) (fun h0 => ?_)
 generalize World.drew w = v0 at h0 ⊢
 refine wpAnyH_take (i := 0) (v := (.pointer (some ⟨b, 0, none⟩))) rfl (by kernel_rfl) (by kernel_rfl) (by kernel_rfl) (fun _ _ _ h => h) (Or.inl ⟨by rfl, fun w hSw => by go_simp⟩) h0 ?_
 try simp only [z1, z2, z3, z4, z5, z6, z7, z8]
 refine wpAnyH_take (i := 1) (v := (.pointer (some ⟨b, 0, none⟩))) rfl (by kernel_rfl) (by kernel_rfl) (by kernel_rfl) (fun _ _ _ h => h) (Or.inl ⟨by rfl, fun w hSw => by go_simp⟩) h0 ?_
 try simp only [z1, z2, z3, z4, z5, z6, z7, z8]
 refine wpAnyH_take (i := 2) (v := (.pointer (some ⟨b, 0, none⟩))) rfl (by kernel_rfl) (by kernel_rfl) (by kernel_rfl) (fun _ _ _ h => h) (Or.inl ⟨by rfl, fun w hSw => by go_simp⟩) h0 ?_
 try simp only [z1, z2, z3, z4, z5, z6, z7, z8]
 refine wpAnyH_take (i := 3) (v := (encStr t.safe)) rfl (by kernel_rfl) (by kernel_rfl) (by kernel_rfl) (fun _ _ _ h => h) (Or.inl ⟨by rfl, fun w hSw => by have c := Kept.cellOf hSw k0 (by simp); go_simp⟩) h0 ?_
 try simp only [z1, z2, z3, z4, z5, z6, z7, z8]
 refine wpAnyH_take (i := 4) (v := (.pointer (some ⟨b, 0, none⟩))) rfl (by kernel_rfl) (by kernel_rfl) (by kernel_rfl) (fun _ _ _ h => h) (Or.inl ⟨by rfl, fun w hSw => by go_simp⟩) h0 ?_
 try simp only [z1, z2, z3, z4, z5, z6, z7, z8]
 refine wpAnyH_take (i := 5) (v := (.pointer (some ⟨b, 0, none⟩))) rfl (by kernel_rfl) (by kernel_rfl) (by kernel_rfl) (fun _ _ _ h => h) (Or.inl ⟨by rfl, fun w hSw => by go_simp⟩) h0 ?_
 try simp only [z1, z2, z3, z4, z5, z6, z7, z8]
 refine wpAnyH_take (i := 6) (v := (.pointer (some ⟨b, 1, none⟩))) rfl (by kernel_rfl) (by kernel_rfl) (by kernel_rfl) (fun _ _ _ h => h) (Or.inl ⟨by rfl, fun w hSw => by go_simp⟩) h0 ?_
 try simp only [z1, z2, z3, z4, z5, z6, z7, z8]
 refine wpAnyH_take (i := 7) (v := (.slice ro t.row.length rc)) rfl (by kernel_rfl) (by kernel_rfl) (by kernel_rfl) (fun _ _ _ h => h) (Or.inl ⟨by rfl, fun w hSw => by have c := Kept.cellOf hSw k1 (by simp); go_simp⟩) h0 ?_
 try simp only [z1, z2, z3, z4, z5, z6, z7, z8]
 refine wpAnyH_take (i := 9) (v := (.pointer (some ⟨b, 0, none⟩))) rfl (by kernel_rfl) (by kernel_rfl) (by kernel_rfl) (fun _ _ _ h => h) (Or.inl ⟨by rfl, fun w hSw => by go_simp⟩) h0 ?_
 try simp only [z1, z2, z3, z4, z5, z6, z7, z8]
 refine wpAnyH_take (i := 10) (v := (.pointer (some ⟨b, 0, none⟩))) rfl (by kernel_rfl) (by kernel_rfl) (by kernel_rfl) (fun _ _ _ h => h) (Or.inl ⟨by rfl, fun w hSw => by go_simp⟩) h0 ?_
 try simp only [z1, z2, z3, z4, z5, z6, z7, z8]
 refine wpAnyH_take (i := 11) (v := (.pointer (some ⟨b, 2, none⟩))) rfl (by kernel_rfl) (by kernel_rfl) (by kernel_rfl) (fun _ _ _ h => h) (Or.inl ⟨by rfl, fun w hSw => by go_simp⟩) h0 ?_
 try simp only [z1, z2, z3, z4, z5, z6, z7, z8]
 refine wpAnyH_take (i := 12) (v := (.slice so t.shown.length sc)) rfl (by kernel_rfl) (by kernel_rfl) (by kernel_rfl) (fun _ _ _ h => h) (Or.inl ⟨by rfl, fun w hSw => by have c := Kept.cellOf hSw k2 (by simp); go_simp⟩) h0 ?_
 try simp only [z1, z2, z3, z4, z5, z6, z7, z8]
 refine wpAnyH_ready (rs := [8]) (by kernel_rfl) (by simp) (AllReadyH.cons (i := 8) rfl (fun K hK => ?_) AllReadyH.nil)
 rw [if_pos (by rfl)]
 go_simp
 refine (HC.out _ h0).mono ?_
 rintro e v1 ⟨rv1, rfl, ho1, hq1⟩
 have h1 : Kept [] w v1 := h0.trans hq1 (by simp)
 have hz1 := h0.size
 refine hK.out _ _ h1 (fun h1 => ?_)
 clear hK K hq1 h0
 try simp only [z1, z2, z3, z4, z5, z6, z7, z8]
 refine wpAnyH_ready (rs := [13]) (by kernel_rfl) (by simp) (AllReadyH.cons (i := 13) rfl (fun K hK => ?_) AllReadyH.nil)
 rw [if_pos (by rfl)]
 go_simp
 refine (HB.out _ h1).mono ?_
 rintro e v2 ⟨sv2, rfl, ho2, hq2, hg2⟩
 have h2 : Kept [] w v2 := h1.trans hq2 (by simp)
 have hz2 := h1.size
 have ho1' := own_keeps ho1 (Keep.ofNone (F := fun _ => False) hq2) (fun _ _ h => h)
 refine hK.out _ _ h2 (fun h2 => ?_)
 clear hK K hq2 h1 ho1
 try simp only [z1, z2, z3, z4, z5, z6, z7, z8]
 obtain ⟨ro1, rc1, rfl, _⟩ := own_shape ho1'
 obtain ⟨so2, sc2, rfl, _⟩ := ho2.shape
 refine wpAnyH_take (i := 14) (v := (.agg #[encStr t.safe, .slice ro1 t.row.length rc1, .slice so2 t.shown.length sc2])) rfl (by kernel_rfl) (by kernel_rfl) (by kernel_rfl) (fun _ _ _ h => h) (Or.inl ⟨by rfl, fun w hSw => by go_simp⟩) h2 ?_
 try simp only [z1, z2, z3, z4, z5, z6, z7, z8]
 refine wpAnyH_ready (rs := [15]) (by kernel_rfl) (by simp) (AllReadyH.cons (i := 15) rfl (fun K hK => ?_) AllReadyH.nil)
 rw [if_pos (by rfl)]
 go_simp
 refine hK.out _ _ (h2.alloc _) (fun h3 => ?_)
 clear hK K
 try simp only [z1, z2, z3, z4, z5, z6, z7, z8]
 refine wpAnyH_take (i := 16) (v := (.pointer (some ⟨v2.heap.size, 0, none⟩))) rfl (by kernel_rfl) (by kernel_rfl) (by kernel_rfl) (fun _ _ _ h => h) (Or.inl ⟨by rfl, fun w hSw => by go_simp⟩) h3 ?_
 try simp only [z1, z2, z3, z4, z5, z6, z7, z8]
 refine wpAnyH_done (by kernel_rfl) ?_ _
 have hz3 := h2.size
 have HN : Hid (NewTh w (v2.alloc (.cells #[encStr t.safe, .slice ro1 t.row.length rc1, .slice so2 t.shown.length sc2] 67)) v2.heap.size (.slice ro1 t.row.length rc1) (.slice so2 t.shown.length sc2) t) := hide ⟨(MapKept.heap_alloc v2 _).1, own_keeps (ownsRow_base_a ho1' (Nat.zero_le _)) (Keep.ofNone (F := fun _ => False) ((Kept.refl [] v2).alloc _)) (fun _ _ h => h), ho2.kept ((Kept.refl [] v2).alloc _), hz3, fun g hg => Nat.le_trans hz1 (ho1'.lt g hg).1, fun g hg => Nat.le_trans hz2 (hg2 g hg)⟩
 have HK3 := hide h3
 clear h3 h2 ho1' ho2 hg2 HB HC
 go_wp2
 go_ret
 exact ⟨_, _, _, rfl, HN.out, HK3.out⟩
open Go.RowKit Dsk
set_option linter.unusedVariables false
set_option linter.unusedSimpArgs false
set_option maxHeartbeats 1600000 in
set_option maxRecDepth 100000 in
theorem gvTwin_ok (f t : By) (w : World) : Calls Tryz.prog 157 #[.agg #[encStr f, encStr t]] w fun e w' => e = .returned (.iface 124 (.agg #[encStr f, encStr t])) ∧ Kept [] w w' := by
 obtain ⟨w1, hw1⟩ : ∃ w1, w1 = w.alloc (.cells #[encStr f, encStr t] 124) := ⟨_, rfl⟩
 have hk1 : Kept [] w w1 := by rw [hw1]; exact (Kept.refl [] w).alloc _
 have hb1 : w1.heap[w.heap.size]? = some (.cells #[encStr f, encStr t] 124 (0, 0)) := by rw [hw1]; exact (MapKept.heap_alloc w _).1
 have i0 : w1.cell? ⟨w.heap.size, 0, none⟩ = some (encStr f) := by rw [cell_of_row w1 _ 0 _ _ _ hb1]; rfl
 have i1 : w1.cell? ⟨w.heap.size, 1, none⟩ = some (encStr t) := by rw [cell_of_row w1 _ 1 _ _ _ hb1]; rfl
 clear hb1
 go_enter Tryz.func157, Tryz.ntmps157
 go_upto_region 1 with (fail)
 rw [← hw1]
 clear hw1
 go_wp2
 go_ret
 exact ⟨rfl, hk1⟩
set_option maxHeartbeats 1600000 in
set_option maxRecDepth 100000 in
theorem tkTwin_ok (f : By) (w : World) : Calls Tryz.prog 159 #[.agg #[encStr f]] w fun e w' => e = .returned (.iface 132 (.agg #[encStr f])) ∧ Kept [] w w' := by
 obtain ⟨w1, hw1⟩ : ∃ w1, w1 = w.alloc (.cells #[encStr f] 132) := ⟨_, rfl⟩
 have hk1 : Kept [] w w1 := by rw [hw1]; exact (Kept.refl [] w).alloc _
 have hb1 : w1.heap[w.heap.size]? = some (.cells #[encStr f] 132 (0, 0)) := by rw [hw1]; exact (MapKept.heap_alloc w _).1
 have i0 : w1.cell? ⟨w.heap.size, 0, none⟩ = some (encStr f) := by rw [cell_of_row w1 _ 0 _ _ _ hb1]; rfl
 clear hb1
 go_enter Tryz.func159, Tryz.ntmps159
 go_upto_region 1 with (fail)
 rw [← hw1]
 clear hw1
 go_wp2
 go_ret
 exact ⟨rfl, hk1⟩
theorem NewTh.base {w v w' : World} {b : Nat} {rv sv : Value} {t : Th} (h : NewTh v w' b rv sv t) (hw : w.heap.size ≤ v.heap.size) : NewTh w w' b rv sv t :=
 ⟨h.cells, h.row, h.shown, Nat.le_trans hw h.nb, fun g hg => Nat.le_trans hw (h.nr g hg), fun g hg => Nat.le_trans hw (h.ns g hg)⟩
set_option maxHeartbeats 1600000 in
set_option maxRecDepth 100000 in
theorem mkTwin_ok (n : By) (b : Nat) (t : Th) (w : World) (ht : ∀ v, Kept [] w v → Calls Tryz.prog 114 #[.pointer (some ⟨b, 0, none⟩)] v fun e w' => ∃ b' rv' sv', e = .returned (.pointer (some ⟨b', 0, none⟩)) ∧ NewTh v w' b' rv' sv' t ∧ Kept [] v w') :
  Calls Tryz.prog 155 #[.agg #[encStr n, .pointer (some ⟨b, 0, none⟩)]] w fun e w' => ∃ b' rv' sv', e = .returned (.iface 121 (.agg #[encStr n, .pointer (some ⟨b', 0, none⟩)])) ∧ NewTh w w' b' rv' sv' t ∧ Kept [] w w' := by
 obtain ⟨w1, hw1⟩ : ∃ w1, w1 = w.alloc (.cells #[encStr n, .pointer (some ⟨b, 0, none⟩)] 121) := ⟨_, rfl⟩
 have hk1 : Kept [] w w1 := by rw [hw1]; exact (Kept.refl [] w).alloc _
 have hb1 : w1.heap[w.heap.size]? = some (.cells #[encStr n, .pointer (some ⟨b, 0, none⟩)] 121 (0, 0)) := by rw [hw1]; exact (MapKept.heap_alloc w _).1
 have i0 : w1.cell? ⟨w.heap.size, 0, none⟩ = some (encStr n) := by rw [cell_of_row w1 _ 0 _ _ _ hb1]; rfl
 have i1 : w1.cell? ⟨w.heap.size, 1, none⟩ = some (.pointer (some ⟨b, 0, none⟩)) := by rw [cell_of_row w1 _ 1 _ _ _ hb1]; rfl
 have HT := hide (fun (v : World) (hk : Kept [] w1 v) => ht v (hk1.trans hk (by simp)))
 have hsz : w.heap.size ≤ w1.heap.size := hk1.size
 generalize hqe : w.heap.size = q at i0 i1
 clear hb1 ht
 go_enter Tryz.func155, Tryz.ntmps155
 go_upto_region 1 with (fail)
 rw [← hw1]
 clear hw1
 refine wp_region_held_drew (S := fun v => Kept [] w1 v) (by kernel_rfl) ((Kept.refl [] w1).drew) (fun h0 => ?_)
 generalize World.drew w1 = v0 at h0 ⊢
 refine wpAnyH_take (i := 0) (v := (.pointer (some ⟨q, 0, none⟩))) rfl (by kernel_rfl) (by kernel_rfl) (by kernel_rfl) (fun _ _ _ h => h) (Or.inl ⟨by rfl, fun w hSw => by go_simp⟩) h0 ?_
 try simp only [z1, z2, z3, z4, z5, z6, z7, z8]
 refine wpAnyH_take (i := 1) (v := (encStr n)) rfl (by kernel_rfl) (by kernel_rfl) (by kernel_rfl) (fun _ _ _ h => h) (Or.inl ⟨by rfl, fun w hSw => by have c := Kept.cellOf hSw i0 (by simp); go_simp⟩) h0 ?_
 try simp only [z1, z2, z3, z4, z5, z6, z7, z8]
 refine wpAnyH_take (i := 2) (v := (.pointer (some ⟨q, 1, none⟩))) rfl (by kernel_rfl) (by kernel_rfl) (by kernel_rfl) (fun _ _ _ h => h) (Or.inl ⟨by rfl, fun w hSw => by go_simp⟩) h0 ?_
 try simp only [z1, z2, z3, z4, z5, z6, z7, z8]
 refine wpAnyH_take (i := 3) (v := (.pointer (some ⟨b, 0, none⟩))) rfl (by kernel_rfl) (by kernel_rfl) (by kernel_rfl) (fun _ _ _ h => h) (Or.inl ⟨by rfl, fun w hSw => by have c := Kept.cellOf hSw i1 (by simp); go_simp⟩) h0 ?_
 try simp only [z1, z2, z3, z4, z5, z6, z7, z8]
 refine wpAnyH_ready (rs := [4]) (by kernel_rfl) (by simp) (AllReadyH.cons (i := 4) rfl (fun K hK => ?_) AllReadyH.nil)
 rw [if_pos (by rfl)]
 go_simp
 refine (HT.out _ h0).mono ?_
 rintro e v1 ⟨b1, rv1, sv1, rfl, ho1, hq1⟩
 have h1 : Kept [] w1 v1 := h0.trans hq1 (by simp)
 have hz1 := h0.size
 refine hK.out _ _ h1 (fun h1 => ?_)
 clear hK K hq1
 try simp only [z1, z2, z3, z4, z5, z6, z7, z8]
 refine wpAnyH_take (i := 5) (v := (.agg #[encStr n, .pointer (some ⟨b1, 0, none⟩)])) rfl (by kernel_rfl) (by kernel_rfl) (by kernel_rfl) (fun _ _ _ h => h) (Or.inl ⟨by rfl, fun w hSw => by go_simp⟩) h1 ?_
 try simp only [z1, z2, z3, z4, z5, z6, z7, z8]
 refine wpAnyH_take (i := 6) (v := (.iface 121 (.agg #[encStr n, .pointer (some ⟨b1, 0, none⟩)]))) rfl (by kernel_rfl) (by kernel_rfl) (by kernel_rfl) (fun _ _ _ h => h) (Or.inl ⟨by rfl, fun w hSw => by go_simp⟩) h1 ?_
 try simp only [z1, z2, z3, z4, z5, z6, z7, z8]
 refine wpAnyH_take (i := 7) (v := (.iface 121 (.agg #[encStr n, .pointer (some ⟨b1, 0, none⟩)]))) rfl (by kernel_rfl) (by kernel_rfl) (by kernel_rfl) (fun _ _ _ h => h) (Or.inl ⟨by rfl, fun w hSw => by go_simp⟩) h1 ?_
 try simp only [z1, z2, z3, z4, z5, z6, z7, z8]
 refine wpAnyH_done (by kernel_rfl) ?_ _
 have HN := hide (ho1.base (w := w) (Nat.le_trans hsz hz1))
 have HK1 := hide (hk1.trans h1 (by simp))
 clear ho1 h1 h0 HT
 go_wp2
 go_ret
 exact ⟨_, _, _, rfl, HN.out, HK1.out⟩
end

section
open Go.RowKit Dsk
set_option linter.unusedVariables false
set_option linter.unusedSimpArgs false
namespace Dsk
theorem Nm.Up.ext {l l' : Nm} (h : l.Up) (h' : l'.Up) (hm : ∀ p, p ∈ l ↔ p ∈ l') : l = l' := by
 induction l generalizing l' with
 | nil =>
  cases l' with
  | nil => rfl
  | cons y s => exact absurd ((hm y).2 (by simp)) (by simp)
 | cons x r ih =>
  cases l' with
  | nil => exact absurd ((hm x).1 (by simp)) (by simp)
  | cons y s =>
   have hx := List.pairwise_cons.1 h
   have hy := List.pairwise_cons.1 h'
   have e : x = y := by
    rcases List.mem_cons.1 ((hm x).1 (by simp)) with e | e
    ·exact e
    ·rcases List.mem_cons.1 ((hm y).2 (by simp)) with e2 | e2
     ·exact e2.symm
     ·have a1 := hy.1 x e
      have a2 := hx.1 y e2
      have := before_trans a1 a2
      rw [before_irrefl] at this
      cases this
   subst e
   congr 1
   refine ih hx.2 hy.2 (fun p => ?_)
   have hp := hm p
   simp only [List.mem_cons] at hp
   constructor
   ·intro hr
    rcases hp.1 (.inr hr) with e | e
    ·have := hx.1 p hr; rw [e, before_irrefl] at this; cases this
    ·exact e
   ·intro hr
    rcases hp.2 (.inr hr) with e | e
    ·have := hy.1 p hr; rw [e, before_irrefl] at this; cases this
    ·exact e
def notLeft (left : Lit → Bool) (l : Nm) : Nm := l.filter (fun p => !left (.string p.1))
theorem notLeft_none {left : Lit → Bool} {l : Nm} (h : ∀ p ∈ l, left (.string p.1) = true) : notLeft left l = [] := List.filter_eq_nil_iff.2 (fun p hp => by simp [h p hp])
theorem notLeft_all {left : Lit → Bool} {l : Nm} (h : ∀ k, left k = false) : notLeft left l = l := List.filter_eq_self.2 (fun p hp => by simp [h])
theorem notLeft_step {left : Lit → Bool} {l : Nm} (hu : l.Up) {n : By} {k : Nat} (hm : (n, k) ∈ l) (hl : left (.string n) = true) : (notLeft left l).put n k = notLeft (fun z => left z && !z.sameKey (.string n)) l := by
 have u1 : (notLeft left l).Up := hu.filter _
 refine Nm.Up.ext (u1.put n k) (hu.filter _) (fun p => ?_)
 rw [Nm.mem_put]
 simp only [notLeft, List.mem_filter, same_str, Bool.not_and, Bool.not_not, Bool.or_eq_true, Bool.not_eq_true', beq_iff_eq]
 constructor
 ·rintro (rfl | ⟨⟨h1, h2⟩, h3⟩)
  ·exact ⟨hm, .inr rfl⟩
  ·exact ⟨h1, .inl h2⟩
 ·rintro ⟨h1, h2⟩
  by_cases e : p.1 = n
  ·left
   have : p.2 = k := hu.uniq (n := n) (j := p.2) (k := k) (by rw [← e]; exact h1) hm
   rw [← this, ← e]
  ·right
   exact ⟨⟨h1, h2.resolve_right e⟩, e⟩
theorem notLeft_len (left : Lit → Bool) (l : Nm) : (notLeft left l).length ≤ l.length := List.length_filter_le _ _
end Dsk
structure TwA (S : Ds) (w wr : World) (db mb rb : Nat) (left : Lit → Bool) (A : Nat → Nat) (o : Lab) : Prop where
 keep : Kept [] w wr
 dir : wr.heap[db]? = some (.cells #[.map (some mb), .slice none 0 0, .map none] 59 (0, 0))
 res : wr.heap[rb]? = some (.cells #[.map none, .slice none 0 0, .map none] 59 (0, 0))
 map : Mp wr mb A ((notLeft left S.safe).ren S.rho)
 th : ∀ p ∈ S.safe, left (.string p.1) = false → Tg wr o (S.rho p.2 + 2) (A (S.rho p.2)) (S.th p.2)
 lim : ∀ b, o b ≠ 0 → w.heap.size ≤ b ∧ b < wr.heap.size
 lm : o mb = 1
 nd : o db = 0
 nr : o rb = 0
 ge : w.heap.size ≤ mb
theorem safe_rho {S : Ds} (hw : S.Wf) {p q : By × Nat} (hp : p ∈ S.safe) (hq : q ∈ S.safe) (h : S.rho p.2 = S.rho q.2) : p = q := by
 have e := Ds.rho_inj (Ds.safe_lives hp) (Ds.safe_lives hq) h
 have hn : S.safe.ids.Nodup := (List.nodup_append.1 hw.nodup).1
 obtain ⟨i, hi, e1⟩ := List.mem_iff_getElem.1 hp
 obtain ⟨j, hj, e2⟩ := List.mem_iff_getElem.1 hq
 have h1 : S.safe.ids[i]'(by simpa [Nm.ids] using hi) = p.2 := by simp [Nm.ids, e1]
 have h2 : S.safe.ids[j]'(by simpa [Nm.ids] using hj) = q.2 := by simp [Nm.ids, e2]
 have : i = j := (List.getElem_inj hn).1 (by rw [h1, h2, e])
 subst this
 rw [← e1, ← e2]
theorem Tg.keep {F : Nat → Prop} {w w' : World} {o : Lab} {l b : Nat} {t : Th} (h : Tg w o l b t) (hk : Keep F w w') (hF : ∀ g, o g = l → ¬ F g) : Tg w' o l b t := by
 obtain ⟨rv, sv, h⟩ := h
 exact ⟨rv, sv, h.keep hk hF⟩
theorem Tg.relab {w : World} {o o' : Lab} {l b : Nat} {t : Th} (h : Tg w o l b t) (ho : ∀ g, g < w.heap.size → o' g = o g) : Tg w o' l b t := by
 obtain ⟨rv, sv, h⟩ := h
 exact ⟨rv, sv, h.relab ho⟩
theorem TwA.step {S : Ds} {w wr v v1 w5 : World} {db mb rb r : Nat} {left : Lit → Bool} {A : Nat → Nat} {o : Lab} (h : TwA S w wr db mb rb left A o) (hw : S.Wf) {n : By} {k : Nat} (hm : (n, k) ∈ S.safe) (hl : left (.string n) = true)
  (hor : o r = 0) (hrge : w.heap.size ≤ r) (hrd : r ≠ db ∧ r ≠ rb ∧ r ≠ mb) (hK : Keep (· = r) wr v) {b1 : Nat} {rv sv : Value} (hn : NewTh v v1 b1 rv sv (S.th k)) (hk1 : Kept [] v v1) (hM : Mp w5 mb (upd A (S.rho k) b1) (((notLeft left S.safe).ren S.rho).put n (S.rho k))) (hK5 : Keep (· = mb) v1 w5) :
  TwA S w w5 db mb rb (fun z => left z && !z.sameKey (.string n)) (upd A (S.rho k) b1) (o.ext v v1 (S.rho k + 2)) := by
 have hz1 := hK.size
 have hz2 := hk1.size
 have hz3 := hK5.size
 have hz0 := h.keep.size
 have kA : Keep (fun b => b = r ∨ b = mb) wr w5 := ((hK.mono (fun b e _ => .inl e)).kept hk1).trans hK5 (fun b e _ => .inr e)
 have hdl := (Array.getElem?_eq_some_iff.1 h.dir).1
 have hrl := (Array.getElem?_eq_some_iff.1 h.res).1
 have hml := h.map.lt
 have hmd : mb ≠ db := map_ne h.map h.dir (by simp)
 have hmr : mb ≠ rb := map_ne h.map h.res (by simp)
 have old : ∀ b, b < wr.heap.size → o.ext v v1 (S.rho k + 2) b = o b := fun b hb => Lab.ext_old (by omega)
 refine ⟨⟨kA.os.trans h.keep.os, kA.tape.trans h.keep.tape, kA.output.trans h.keep.output, Nat.le_trans h.keep.size kA.size, fun i hi _ => (kA.block i (by omega) (fun e => by have := h.ge; rcases e with e | e <;> omega)).trans (h.keep.block i hi (by simp))⟩, kA.heapOf h.dir (fun e => by rcases e with e | e; exact hrd.1 e.symm; exact hmd e.symm), kA.heapOf h.res (fun e => by rcases e with e | e; exact hrd.2.1 e.symm; exact hmr e.symm), ?_, fun p hp hlp => ?_, fun b hb => ?_, by rw [old mb hml]; exact h.lm, by rw [old db hdl]; exact h.nd, by rw [old rb hrl]; exact h.nr, h.ge⟩
 ·rw [← notLeft_step hw.up hm hl, ← Nm.ren_put]
  exact hM
 ·by_cases e : p = (n, k)
  ·subst e
   rw [upd_same]
   have h5 : ThAt v1 (o.ext v v1 (S.rho k + 2)) (S.rho k + 2) b1 rv sv (S.th k) := hn.at o _
   exact ⟨rv, sv, h5.keep hK5 (fun g hg e2 => by
    rw [e2, old mb hml, h.lm] at hg
    omega)⟩
  ·have hne : S.rho p.2 ≠ S.rho k := fun e2 => e (safe_rho hw hp hm e2)
   rw [upd_other _ _ hne]
   have hlp2 : left (.string p.1) = false := by
    simp only [same_str, Bool.and_eq_false_iff, Bool.not_eq_false'] at hlp
    rcases hlp with h1 | h1
    ·exact h1
    ·simp only [beq_iff_eq] at h1
     exfalso
     apply e
     have : p.2 = k := hw.up.uniq (n := n) (j := p.2) (k := k) (by rw [← h1]; exact hp) hm
     rw [← this, ← h1]
   have h5 := (h.th p hp hlp2).keep kA (fun g hg e2 => by
    rcases e2 with e2 | e2
    ·rw [e2, hor] at hg; omega
    ·rw [e2, h.lm] at hg; omega)
   obtain ⟨rv3, sv3, h3⟩ := h.th p hp hlp2
   obtain ⟨rv5, sv5, h6⟩ := h5
   refine ⟨rv3, sv3, ?_⟩
   have h7 := h3.keep kA (fun g hg e2 => by
    rcases e2 with e2 | e2
    ·rw [e2, hor] at hg; omega
    ·rw [e2, h.lm] at hg; omega)
   exact ⟨h7.cells, h7.row, h7.shown, (old _ h3.lt).trans h3.lb, fun g hg => (old g (h3.row.lt g hg).2).trans (h3.lr g hg), fun g hg => (old g (h3.shown.lt hg)).trans (h3.ls g hg)⟩
 ·by_cases hb1 : b < v.heap.size
  ·rw [Lab.ext_old hb1] at hb
   have := h.lim b hb
   exact ⟨this.1, by omega⟩
  ·by_cases hb2 : b < v1.heap.size
   ·exact ⟨by omega, by omega⟩
   ·simp [Lab.ext, hb1, hb2] at hb
open Go.RowKit Dsk
set_option linter.unusedVariables false
set_option linter.unusedSimpArgs false
structure TwB (S : Ds) (w wr : World) (db mb mh rb : Nat) (rv : Value) (j : Nat) (A : Nat → Nat) (o : Lab) : Prop where
 keep : Kept [] w wr
 dir : wr.heap[db]? = some (.cells #[.map (some mb), rv, .map (some mh)] 59 (0, 0))
 res : wr.heap[rb]? = some (.cells #[.map none, .slice none 0 0, .map none] 59 (0, 0))
 ne : mb ≠ mh
 mapS : Mp wr mb A (S.safe.ren S.rho)
 mapH : Mp wr mh A (Dsk.runN (S.safe.ren S.rho) ((S.row.take j).map (Nc.ren S.rho)))
 row : wr.ownsRow 0 164 1 rv ((S.row.take j).map (Nc.ren S.rho)).length (((S.row.take j).map (Nc.ren S.rho)).map (encNc A))
 th : ∀ k ∈ S.safe.ids ++ madeN (S.row.take j), Tg wr o (S.rho k + 2) (A (S.rho k)) (S.th k)
 lim : ∀ b, o b ≠ 0 → w.heap.size ≤ b ∧ b < wr.heap.size
 lm : o mb = 1
 lh : o mh = 1
 lr : ∀ g, rv.ownBlock = some g → o g = 1
 nd : o db = 0
 nr : o rb = 0
 gd : w.heap.size ≤ db
 dr : rb ≠ db
 gr : w.heap.size ≤ rb
theorem NewTh.relt {v v1 : World} {b1 : Nat} {rv sv : Value} {t : Th} (h : NewTh v v1 b1 rv sv t) (o : Lab) (l : Nat) : Tg v1 (o.ext v v1 l) l b1 t := ⟨rv, sv, h.at o l⟩
theorem encNc_ren_congr {A A' : Nat → Nat} {f : Nat → Nat} {l : List Nc} (h : ∀ k ∈ madeN l, A' (f k) = A (f k)) : (l.map (Nc.ren f)).map (encNc A') = (l.map (Nc.ren f)).map (encNc A) := by
 rw [List.map_map, List.map_map]
 apply List.map_congr_left
 intro c hc
 cases c with
 | mk n k =>
  have : k ∈ madeN l := List.mem_flatMap.2 ⟨_, hc, by simp [Nc.made]⟩
  simp only [Function.comp_def, Nc.ren, encNc, h k this]
 | gv a b => rfl
 | tk n => rfl
theorem TwB.thing {S : Ds} {w wr v1 : World} {db mb mh rb j : Nat} {rv : Value} {A : Nat → Nat} {o : Lab} (h : TwB S w wr db mb mh rb rv j A o) {k b1 : Nat} (hk : k ∈ S.lives) (hnk : k ∉ S.safe.ids ++ madeN (S.row.take j)) (hsub : ∀ i ∈ S.safe.ids ++ madeN (S.row.take j), i ∈ S.lives) {r1 s1 : Value} (hn : NewTh wr v1 b1 r1 s1 (S.th k)) (hk1 : Kept [] wr v1) :
  TwB S w v1 db mb mh rb rv j (upd A (S.rho k) b1) (o.ext wr v1 (S.rho k + 2)) ∧ Tg v1 (o.ext wr v1 (S.rho k + 2)) (S.rho k + 2) (upd A (S.rho k) b1 (S.rho k)) (S.th k) := by
 have old : ∀ b, b < wr.heap.size → o.ext wr v1 (S.rho k + 2) b = o b := fun b hb => Lab.ext_old hb
 have kF : Keep (fun _ => False) wr v1 := Keep.ofNone hk1
 have hA : ∀ i ∈ S.safe.ids ++ madeN (S.row.take j), upd A (S.rho k) b1 (S.rho i) = A (S.rho i) := fun i hi => upd_other _ _ (fun e => hnk (by rw [← Ds.rho_inj (hsub i hi) hk e]; exact hi))
 have hml := h.mapS.lt
 have hhl := h.mapH.lt
 have hdl := (Array.getElem?_eq_some_iff.1 h.dir).1
 have hrl := (Array.getElem?_eq_some_iff.1 h.res).1
 have hz := hk1.size
 refine ⟨⟨h.keep.trans hk1 (by simp), kF.heapOf h.dir (fun h => h), kF.heapOf h.res (fun h => h), h.ne, (h.mapS.keep kF (fun h => h)).congr (fun i hi => ?_), (h.mapH.keep kF (fun h => h)).congr (fun i hi => ?_), ?_, fun i hi => ?_, fun b hb => ?_, by rw [old mb hml]; exact h.lm, by rw [old mh hhl]; exact h.lh, fun g hg => by rw [old g (h.row.lt g hg).2]; exact h.lr g hg, by rw [old db hdl]; exact h.nd, by rw [old rb hrl]; exact h.nr, h.gd, h.dr, h.gr⟩, ?_⟩
 ·rw [Nm.ren_ids] at hi
  obtain ⟨i', hi', rfl⟩ := List.mem_map.1 hi
  exact hA i' (List.mem_append_left _ hi')
 ·rw [ren_run, Nm.ren_ids] at hi
  obtain ⟨i', hi', rfl⟩ := List.mem_map.1 hi
  exact hA i' (runN_ids_sub _ hi')
 ·rw [encNc_ren_congr (fun i hi => hA i (List.mem_append_right _ hi))]
  exact own_keeps h.row kF (fun _ _ h => h)
 ·rw [hA i hi]
  exact ((h.th i hi).relab old).keep kF (fun _ _ h => h)
 ·by_cases hb1 : b < wr.heap.size
  ·rw [old b hb1] at hb
   have := h.lim b hb
   exact ⟨this.1, by omega⟩
  ·by_cases hb2 : b < v1.heap.size
   ·exact ⟨by have := h.keep.size; omega, hb2⟩
   ·simp [Lab.ext, hb1, hb2] at hb
 ·rw [upd_same]
  exact hn.relt o _
theorem TwB.change {S : Ds} {w wr w5 : World} {db mb mh rb j : Nat} {rv rv5 : Value} {A : Nat → Nat} {o : Lab} (h : TwB S w wr db mb mh rb rv j A o) {c : Nc} (hc : S.row[j]? = some c) (ht : ∀ k ∈ c.made, Tg wr o (S.rho k + 2) (A (S.rho k)) (S.th k))
  (hQ : w5.heap[db]? = some (.cells ((#[.map (some mb), rv, .map (some mh)] : Array Value).setIfInBounds (0 + 1) rv5) 59 (0, 0))) (hrow : w5.ownsRow 0 164 1 rv5 ((S.row.take j).map (Nc.ren S.rho) ++ [c.ren S.rho]).length (((S.row.take j).map (Nc.ren S.rho) ++ [c.ren S.rho]).map (encNc A))) (hM : Mp w5 mh A ((c.ren S.rho).apply (Dsk.runN (S.safe.ren S.rho) ((S.row.take j).map (Nc.ren S.rho)))))
  (hK : Keep (fun b => b = db ∨ b = mh ∨ rv.ownBlock = some b) wr w5) (hr5 : ∀ g, rv5.ownBlock = some g → rv.ownBlock = some g ∨ wr.heap.size ≤ g) : TwB S w w5 db mb mh rb rv5 (j + 1) A (o.ext wr w5 1) := by
 have old : ∀ b, b < wr.heap.size → o.ext wr w5 1 b = o b := fun b hb => Lab.ext_old hb
 have hml := h.mapS.lt
 have hhl := h.mapH.lt
 have hdl := (Array.getElem?_eq_some_iff.1 h.dir).1
 have hrl := (Array.getElem?_eq_some_iff.1 h.res).1
 have hz := hK.size
 have hmd : mb ≠ db := map_ne h.mapS h.dir (by simp)
 have htk : S.row.take (j + 1) = S.row.take j ++ [c] := by rw [List.take_add_one, hc]; rfl
 have hge : ∀ b, (b = db ∨ b = mh ∨ rv.ownBlock = some b) → w.heap.size ≤ b := fun b hb => by
  rcases hb with e | e | e
  ·rw [e]; exact h.gd
  ·rw [e]; exact (h.lim mh (by rw [h.lh]; decide)).1
  ·exact (h.lim b (by rw [h.lr b e]; decide)).1
 have hmF : ¬ (mb = db ∨ mb = mh ∨ rv.ownBlock = some mb) := fun e => by
  rcases e with e | e | e
  ·exact hmd e
  ·exact h.ne e
  ·exact own_nmap h.row h.mapS.blk e
 have hrF : ¬ (rb = db ∨ rb = mh ∨ rv.ownBlock = some rb) := fun e => by
  rcases e with e | e | e
  ·exact h.dr e
  ·exact map_ne h.mapH h.res (by simp) e.symm
  ·exact own_ne h.row h.res (by decide) e
 have hthF : ∀ (k : Nat) (g : Nat), o g = S.rho k + 2 → ¬ (g = db ∨ g = mh ∨ rv.ownBlock = some g) := fun k g hg e => by
  rcases e with e | e | e
  ·rw [e, h.nd] at hg; omega
  ·rw [e, h.lh] at hg; omega
  ·rw [h.lr g e] at hg; omega
 refine ⟨⟨hK.os.trans h.keep.os, hK.tape.trans h.keep.tape, hK.output.trans h.keep.output, Nat.le_trans h.keep.size hK.size, fun i hi _ => (hK.block i (by have := h.keep.size; omega) (fun e => by have := hge i e; omega)).trans (h.keep.block i hi (by simp))⟩, hQ, hK.heapOf h.res hrF, h.ne, h.mapS.keep hK hmF, ?_, ?_, fun k hk => ?_, fun b hb => ?_, by rw [old mb hml]; exact h.lm, by rw [old mh hhl]; exact h.lh, fun g hg => ?_, by rw [old db hdl]; exact h.nd, by rw [old rb hrl]; exact h.nr, h.gd, h.dr, h.gr⟩
 ·rw [htk, List.map_append, List.map_cons, List.map_nil, runN_snoc]
  exact hM
 ·rw [htk, List.map_append, List.map_cons, List.map_nil]
  exact hrow
 ·have hk2 : Tg wr o (S.rho k + 2) (A (S.rho k)) (S.th k) := by
   rw [htk, madeN_snoc, ← List.append_assoc] at hk
   rcases List.mem_append.1 hk with hk | hk
   ·exact h.th k hk
   ·exact ht k hk
  exact (hk2.relab old).keep hK (fun g hg => by
   by_cases hlt : g < wr.heap.size
   ·rw [old g hlt] at hg; exact hthF k g hg
   ·intro e
    have : g < wr.heap.size := by
     rcases e with e | e | e
     ·rw [e]; exact hdl
     ·rw [e]; exact hhl
     ·exact (h.row.lt g e).2
    exact hlt this)
 ·by_cases hb1 : b < wr.heap.size
  ·rw [old b hb1] at hb
   have := h.lim b hb
   exact ⟨this.1, by omega⟩
  ·by_cases hb2 : b < w5.heap.size
   ·exact ⟨by have := h.keep.size; omega, hb2⟩
   ·simp [Lab.ext, hb1, hb2] at hb
 ·rcases hr5 g hg with e | e
  ·rw [old g (h.row.lt g e).2]; exact h.lr g e
  ·exact Lab.ext_new e (hrow.lt g hg).2
open Go.RowKit Dsk
set_option linter.unusedVariables false
set_option linter.unusedSimpArgs false
theorem TwA.toB {S : Ds} {w wr w5 w6 : World} {db mb rb : Nat} {left : Lit → Bool} {A : Nat → Nat} {o : Lab} (h : TwA S w wr db mb rb left A o) (hl : ∀ k, left k = false) (hM : Mp w5 wr.heap.size A (S.safe.ren S.rho)) (hk : Kept [] wr w5) (hw6 : w6 = w5.setCell ⟨db, 2, none⟩ (.map (some wr.heap.size))) (hd5 : w5.heap[db]? = some (.cells #[.map (some mb), .slice none 0 0, .map none] 59 (0, 0))) (gd : w.heap.size ≤ db) (dr : rb ≠ db) (gr : w.heap.size ≤ rb) :
  TwB S w w6 db mb wr.heap.size rb (.slice none 0 0) 0 A (o.ext wr w5 1) := by
 have hK6 : Keep (· = db) w5 w6 := by rw [hw6]; exact (Keep.refl (· = db) w5).setCell (p := ⟨db, 2, none⟩) (fun _ => rfl) _
 have hd6 : w6.heap[db]? = some (.cells (#[.map (some mb), .slice none 0 0, .map none].setIfInBounds 2 (.map (some wr.heap.size))) 59 (0, 0)) := by rw [hw6]; exact heap_setCell_same w5 db 2 _ _ _ hd5
 have old : ∀ b, b < wr.heap.size → o.ext wr w5 1 b = o b := fun b hb => Lab.ext_old hb
 have hml := h.map.lt
 have hdl := (Array.getElem?_eq_some_iff.1 h.dir).1
 have hrl := (Array.getElem?_eq_some_iff.1 h.res).1
 have hhl := hM.lt
 have hz := hk.size
 have hz6 := hK6.size
 have hmd : mb ≠ db := map_ne h.map h.dir (by simp)
 have hA6 : Keep (· = db) wr w6 := (Keep.ofNone hk).trans hK6 (fun i e _ => e)
 have hmS : Mp wr mb A (S.safe.ren S.rho) := by have := h.map; rw [notLeft_all hl] at this; exact this
 refine ⟨⟨hA6.os.trans h.keep.os, hA6.tape.trans h.keep.tape, hA6.output.trans h.keep.output, Nat.le_trans h.keep.size hA6.size, fun i hi _ => (hA6.block i (by have := h.keep.size; omega) (fun e => by omega)).trans (h.keep.block i hi (by simp))⟩, hd6, hA6.heapOf h.res dr, by omega, hmS.keep hA6 hmd, hM.keep hK6 (by omega), World.ownsRow_nil _ _ _ _, fun k hk2 => ?_, fun b hb => ?_, by rw [old mb hml]; exact h.lm, Lab.ext_new (Nat.le_refl _) hhl, by simp [Value.ownBlock], by rw [old db hdl]; exact h.nd, by rw [old rb hrl]; exact h.nr, gd, dr, gr⟩
 ·simp only [List.take_zero] at hk2
  have hk3 : k ∈ S.safe.ids := by simpa [madeN] using hk2
  obtain ⟨q, hq, rfl⟩ := List.mem_map.1 hk3
  refine ((h.th q hq (hl _)).relab old).keep hA6 (fun g hg e => ?_)
  rw [e, old db hdl, h.nd] at hg
  omega
 ·by_cases hb1 : b < wr.heap.size
  ·rw [old b hb1] at hb
   have := h.lim b hb
   exact ⟨this.1, by omega⟩
  ·by_cases hb2 : b < w5.heap.size
   ·exact ⟨by have := h.keep.size; omega, by omega⟩
   ·simp [Lab.ext, hb1, hb2] at hb
theorem TwB.kept {S : Ds} {w wr v1 : World} {db mb mh rb j : Nat} {rv : Value} {A : Nat → Nat} {o : Lab} (h : TwB S w wr db mb mh rb rv j A o) (hk1 : Kept [] wr v1) : TwB S w v1 db mb mh rb rv j A o := by
 have kF : Keep (fun _ => False) wr v1 := Keep.ofNone hk1
 exact ⟨h.keep.trans hk1 (by simp), kF.heapOf h.dir (fun h => h), kF.heapOf h.res (fun h => h), h.ne, h.mapS.keep kF (fun h => h), h.mapH.keep kF (fun h => h), own_keeps h.row kF (fun _ _ h => h), fun k hk => (h.th k hk).keep kF (fun _ _ h => h), fun b hb => ⟨(h.lim b hb).1, Nat.lt_of_lt_of_le (h.lim b hb).2 hk1.size⟩, h.lm, h.lh, h.lr, h.nd, h.nr, h.gd, h.dr, h.gr⟩
theorem okN_at {l : Nm} {r : List Nc} (h : okN l r) {j : Nat} {c : Nc} (hc : r[j]? = some c) : c.ok (Dsk.runN l (r.take j)) := by
 have h1 := okN_take l r (j + 1) h
 rw [List.take_add_one, hc] at h1
 exact ((okN_snoc l (r.take j) c).1 h1).2
theorem short_ren {S : Ds} (hw : S.Wf) {c : Nc} (hc : c ∈ S.row) (f : Nat → Nat) : ncShort (c.ren f) := by
 have h := hw.nmr c hc
 cases c with
 | mk n k => exact isNm_len h
 | gv a b => exact ⟨isNm_len h.1, isNm_len h.2⟩
 | tk n => exact isNm_len h
theorem TwB.doChange {S : Ds} {w wr : World} {db mb mh rb j : Nat} {rv : Value} {A : Nat → Nat} {o : Lab} {N : Nat} (h : TwB S w wr db mb mh rb rv j A o) (hw : S.Wf) (hB : S.Bd N) (hN : N ≤ 268435456) {c : Nc} (hc : S.row[j]? = some c) (ht : ∀ k ∈ c.made, Tg wr o (S.rho k + 2) (A (S.rho k)) (S.th k)) :
  Calls Tryz.prog 70 #[.pointer (some ⟨db, 0, none⟩), encNc A (c.ren S.rho)] wr fun e w' => e = .returned (.tuple #[]) ∧ ∃ rv5 o5, TwB S w w' db mb mh rb rv5 (j + 1) A o5 := by
 have hb := hB.nm
 have hlen : ((S.row.take j).map (Nc.ren S.rho)).length ≤ S.row.length := by simp; omega
 have hrl := runN_len (S.safe.ren S.rho) ((S.row.take j).map (Nc.ren S.rho))
 rw [Nm.ren_len] at hrl
 refine (dirChange_ok (c.ren S.rho) db 0 mh 59 _ rv A _ ((S.row.take j).map (Nc.ren S.rho)) wr h.dir (by decide) rfl rfl h.row h.mapH ?_ (short_ren hw (List.mem_of_getElem? hc) _) (by omega) (by omega)).mono ?_
 ·rw [ren_run]
  exact Nc.ren_ok _ _ (okN_at hw.ok hc)
 ·rintro e w' ⟨rfl, rv5, h1, h2, h3, h4, h5⟩
  exact ⟨rfl, rv5, _, h.change hc ht h1 h2 h3 h4 h5⟩
end

end Go.Proofs.YteckiednnaianaaGreat
