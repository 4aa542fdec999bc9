import Derived.Test.YteckiednnaianaaGreatKbp
import Derived.Deep.CutRange
import Derived.Test.YteckiednnaianaaGreatHap
import Derived.Laws.Rows
import Derived.Test.YteckiednnaianaaGreatHlp
namespace Go.Proofs.YteckiednnaianaaGreat
section
open Go.RowKit Dsk
set_option linter.unusedVariables false
set_option linter.unusedSimpArgs false
theorem ret_row {P : Program} {fn : Func} {p : Tmp} {ty : TypeId} {R : Ending → World → Prop} {a : Act} {w : World} (h : fn.results = #[.cell p ty]) (hd : a.defers = []) (g : Nat) (t : TypeId) (cs : Array Value) (fr : Nat × Nat) (d : TypeDesc)
  (hp : a.tmps.getD p undef = .pointer (some ⟨g, 0, none⟩)) (hg : w.heap[g]? = some (.cells cs t fr)) (hu : P.underlying ty = some d) (hx : (match d with | .struct _ | .array _ _ => true | _ => false) = true) (hi : (P.info? ty).map (·.size) = some cs.size)
  (hR : R (.returned (.agg cs)) w) : bodyPost P fn R .ret a w :=
 bodyPost_ret (results_cell_row h a.tmps w g t cs fr d hp hg hu hx hi) hd hR
theorem ranges_keep {k : TypeId} {H : Type} {R : Value → Option (DataW H × List MemPlace)} {b r n : Nat} {D : DataW H} {left : Lit → Bool} {cnt : Nat} {P : Program} {w w' : World} {m : Nat} (h : w.ranges P k R b r n D left cnt) (hK : Keep (· = m) w w') (hb : b ≠ m) (hr : r ≠ m) : w'.ranges P k R b r n D left cnt :=
 h.kept (row := some m) ⟨hK.os, hK.tape, hK.output, hK.size, fun i hi hn => hK.block i hi (fun e => hn (by rw [e]))⟩ (by simpa using hb) (by simpa using hr)
structure Tw0 (S : Ds) (w w3 : World) (db mb rb : Nat) : Prop where
 keep : Kept [] w w3
 dir : w3.heap[db]? = some (.cells #[.map (some mb), .slice none 0 0, .map none] 59 (0, 0))
 res : w3.heap[rb]? = some (.cells #[.map none, .slice none 0 0, .map none] 59 (0, 0))
 map : Mp w3 mb (fun _ => 0) []
 gm : w.heap.size ≤ mb
 gd : w.heap.size ≤ db
 dr : rb ≠ db
 gr : w.heap.size ≤ rb
theorem Tw0.start {S : Ds} {w w3 w4 : World} {db mb rb r : Nat} {left : Lit → Bool} (h : Tw0 S w w3 db mb rb) (hl : ∀ p ∈ S.safe, left (.string p.1) = true) (hK : Keep (· = r) w3 w4) (hr : w3.heap.size ≤ r) : TwA S w w4 db mb rb left (fun _ => 0) (fun b => if b = mb then 1 else 0) := by
 have hml := h.map.lt
 have hdl := (Array.getElem?_eq_some_iff.1 h.dir).1
 have hrl := (Array.getElem?_eq_some_iff.1 h.res).1
 have hmd : mb ≠ db := map_ne h.map h.dir (by simp)
 have hmr : mb ≠ rb := map_ne h.map h.res (by simp)
 have hz := hK.size
 have hz0 := h.keep.size
 refine ⟨⟨hK.os.trans h.keep.os, hK.tape.trans h.keep.tape, hK.output.trans h.keep.output, Nat.le_trans h.keep.size hK.size, fun i hi _ => (hK.block i (by omega) (fun e => by omega)).trans (h.keep.block i hi (by simp))⟩, hK.heapOf h.dir (fun e => by omega), hK.heapOf h.res (fun e => by omega), ?_, fun p hp hlp => (by rw [hl p hp] at hlp; cases hlp), fun b hb => ?_, by simp, by simp [Ne.symm hmd], by simp [Ne.symm hmr], h.gm⟩
 ·rw [notLeft_none hl]
  exact h.map.keep hK (fun e => by omega)
 ·by_cases e : b = mb
  ·rw [e]; exact ⟨h.gm, by omega⟩
  ·simp [e] at hb
set_option maxHeartbeats 4000000 in
set_option maxRecDepth 100000 in
theorem dirTwin_ok {w : World} {p : Nat} {S : Ds} {A : Nat → Nat} {o : Lab} {ms mh : Nat} {rv sv : Value} {N : Nat} (h : PDx w p S A o ms mh rv sv) (hB : S.Bd N) (hN : N ≤ 268435456) : Calls Tryz.prog 107 #[.pointer (some ⟨p, 2, none⟩)] w fun e w' => ∃ mb mh' rv' A' o' db rb w9, e = .returned (.agg #[.map (some mb), rv', .map (some mh')]) ∧ TwB S w w9 db mb mh' rb rv' S.row.length A' o' ∧ Keep (· = rb) w9 w' := by
 have c2 : w.cell? ⟨p, 2, none⟩ = some (.map (some ms)) := by rw [cell_of_row w _ 2 _ _ _ h.cells]; rfl
 have c3 : w.cell? ⟨p, 3, none⟩ = some rv := by rw [cell_of_row w _ 3 _ _ _ h.cells]; rfl
 have HP := hide (And.intro h hB)
 have hmm := @run_makeMap Tryz.prog
 have hpl := (Array.getElem?_eq_some_iff.1 h.cells).1
 have hmsl := h.safe.lt
 obtain ⟨w3, hw3⟩ : ∃ w3, w3 = ((w.alloc (.cells #[.map none, .slice none 0 0, .map none] 59)).alloc (.map #[] 0)).alloc (.cells #[.map (some (w.heap.size + 1)), .slice none 0 0, .map none] 59) := ⟨_, rfl⟩
 have s1 : (w.alloc (.cells #[.map none, .slice none 0 0, .map none] 59)).heap.size = w.heap.size + 1 := by simp
 have s2 : ((w.alloc (.cells #[.map none, .slice none 0 0, .map none] 59)).alloc (.map #[] 0)).heap.size = w.heap.size + 1 + 1 := by simp
 have k1 : Kept [] w (w.alloc (.cells #[.map none, .slice none 0 0, .map none] 59)) := (Kept.refl [] w).alloc _
 have k2 : Kept [] (w.alloc (.cells #[.map none, .slice none 0 0, .map none] 59)) ((w.alloc (.cells #[.map none, .slice none 0 0, .map none] 59)).alloc (.map #[] 0)) := (Kept.refl [] _).alloc _
 have k3 : Kept [] ((w.alloc (.cells #[.map none, .slice none 0 0, .map none] 59)).alloc (.map #[] 0)) w3 := by rw [hw3]; exact (Kept.refl [] _).alloc _
 have hd3 : w3.heap[w.heap.size + 1 + 1]? = some (.cells #[.map (some (w.heap.size + 1)), .slice none 0 0, .map none] 59 (0, 0)) := by
  have := (MapKept.heap_alloc ((w.alloc (.cells #[.map none, .slice none 0 0, .map none] 59)).alloc (.map #[] 0)) (.cells #[.map (some (w.heap.size + 1)), .slice none 0 0, .map none] 59)).1
  rw [s2, ← hw3] at this
  exact this
 have hr3 : w3.heap[w.heap.size]? = some (.cells #[.map none, .slice none 0 0, .map none] 59 (0, 0)) := by
  have h1 := (MapKept.heap_alloc w (.cells #[.map none, .slice none 0 0, .map none] 59)).1
  rw [k3.block _ (by omega) (by simp), k2.block _ (by omega) (by simp)]
  exact h1
 have hm3 : Mp w3 (w.heap.size + 1) (fun _ => 0) [] := by
  have := World.ownsMap_made (H := Unit) (w.alloc (.cells #[.map none, .slice none 0 0, .map none] 59)) Tryz.prog 9 ptrElem
  rw [s1] at this
  exact (show Mp _ (w.heap.size + 1) (fun _ => 0) [] from this).keep (Keep.ofNone (F := fun _ => False) k3) (fun h => h)
 have h30 : Tw0 S w w3 (w.heap.size + 1 + 1) (w.heap.size + 1) w.heap.size := ⟨(k1.trans k2 (by simp)).trans k3 (by simp), hd3, hr3, hm3, by omega, by omega, by omega, by omega⟩
 have H30 := hide h30
 have hk3 := h30.keep
 have hown : w3.ownsMap Tryz.prog 9 ptrElem ms S.safe.length (nmD A S.safe) := h.safe.keep (Keep.ofNone (F := fun _ => False) hk3) (fun h => h)
 have c2' := hk3.cellOf c2 (by simp)
 clear h hB h30 hd3 hr3 hm3 k1 k2 k3 s1 s2
 go_enter Tryz.func107, Tryz.ntmps107
 go_upto_region 2 with (fail)
 rw [← hw3]
 clear hw3
 generalize hrb : w.heap.size = rb at H30 ⊢
 generalize hmb : rb + 1 = mb at H30 ⊢
 generalize hdb : mb + 1 = db at H30 ⊢
 have e1 := H30.out.dir
 go_wp2_with (at_range; refine wpList_range_own _ rfl _ 56 rfl 9 63 Tryz.keyed Tryz.underlying56 ptrElem ms S.safe.length (nmD A S.safe) rfl hown ?_; intro w4 hrg hgr hsz)
 have HR0 : Hid (w4.ranges Tryz.prog 9 ptrElem ms w3.heap.size S.safe.length (nmD A S.safe) (Maps.has (nmD A S.safe)) (Maps.size (nmD A S.safe)) ∧ TwA S w w4 db mb rb (Maps.has (nmD A S.safe)) (fun _ => 0) (fun b => if b = mb then 1 else 0)) := hide ⟨hrg, H30.out.start (fun q hq => by
  rw [nmD, Maps.has_eq]
  simp only [List.any_map, List.any_eq_true]
  exact ⟨q, hq, by show (Lit.string q.1).sameKey (.string q.1) = true; rw [same_str]; simp⟩) ((Keep.refl (· = w3.heap.size) w3).grown hgr (by simp)) (Nat.le_refl _)⟩
 have hmr := H30.out.map.lt
 have hz3 := hk3.size
 clear hrg hgr hown c2' hsz
 generalize hr : w3.heap.size = r at *
 have hrm : r ≠ mb := by omega
 have hdl := (Array.getElem?_eq_some_iff.1 H30.out.dir).1
 have hrl := (Array.getElem?_eq_some_iff.1 H30.out.res).1
 have hrd : r ≠ db := by omega
 have hrr : r ≠ rb := by omega
 have HG := hide (And.intro H30.out.gd (And.intro H30.out.dr H30.out.gr))
 clear H30 e1
 go_frame
 go_loopw [4, 5] (fun _ _ wr => ∃ (left : Lit → Bool) (cnt : Nat) (A1 : Nat → Nat) (o1 : Lab), Hid (wr.ranges Tryz.prog 9 ptrElem ms r S.safe.length (nmD A S.safe) left cnt ∧ TwA S w wr db mb rb left A1 o1 ∧ o1 r = 0 ∧ r < wr.heap.size)) (fun _ _ wr => wr.rangeLeft ms r)
 case atStart => exact ⟨_, _, _, _, hide ⟨HR0.out.1, HR0.out.2, by simp [hrm], HR0.out.1.lt⟩⟩
 case round =>
  clear HR0
  obtain ⟨left, cnt, A1, o1, HR⟩ := hrel
  have hrg := HR.out.1
  go_wp2_with (first
   | (at_next; refine wpList_next_ranges _ rfl _ rfl 9 Tryz.keyed ptrElem encStr mkP (fun key kl hk => by obtain ⟨x, hx, _⟩ := Maps.keyOf_str Tryz.underlying9 hk; exact ⟨x, hx⟩) mkP_inv ms r S.safe.length _ _ _ rfl hrg ?_ ?_)
   | go_in)
  ·intro _ hl0
   clear hrg
   have hA := HR.out.2.1
   have hmS : Mp wr mb A1 (S.safe.ren S.rho) := by have := hA.map; rw [notLeft_all hl0] at this; exact this
   have hmc := mapsClone_ok mb A1 (S.safe.ren S.rho) wr hmS
   have hd := hA.dir
   have e0 : wr.cell? ⟨db, 0, none⟩ = some (.map (some mb)) := by rw [cell_of_row wr _ 0 _ _ _ hd]; rfl
   have HA := hide hA
   clear hA hmS HR
   go_upto_region 7 with (go_at_call 65; refine hmc.mono ?_; rintro e w5 ⟨rfl, hM5, hk5, hz5⟩; clear hmc; have hd5 : w5.heap[db]? = some (.cells #[.map (some mb), .slice none 0 0, .map none] 59 (0, 0)) := (Keep.ofNone (F := fun _ => False) hk5).heapOf hd (fun h => h); have q2 : w5.cell? ⟨db, 2, none⟩ = some (.map none) := (by rw [cell_of_row w5 _ 2 _ _ _ hd5]; rfl); have f2 : w5.frozen? ⟨db, 2, none⟩ = false := frozen_of_row w5 db 2 _ _ hd5)
   obtain ⟨w6, hw6⟩ : ∃ w6, w6 = w5.setCell ⟨db, 2, none⟩ (.map (some wr.heap.size)) := ⟨_, rfl⟩
   have HB := hide (HA.out.toB hl0 hM5 hk5 hw6 hd5 HG.out.1 HG.out.2.1 HG.out.2.2)
   rw [← hw6]
   clear hw6 hM5 hk5 hz5 hd5 q2 f2 e0 hd HA
   generalize wr.heap.size = mh1 at HB ⊢
   obtain ⟨ro, rc, rfl, _⟩ := own_shape HP.out.1.row
   have c36 := HB.out.keep.cellOf c3 (by simp)
   go_upto_region 8 with (fail)
   generalize hn : S.row.length = n at *
   have HN := hide hn
   clear hn c36
   have H6 : Hid (∃ A1 o1, TwB S w w6 db mb mh1 rb (.slice none 0 0) 0 A1 o1) := hide ⟨_, _, HB.out⟩
   clear HB
   have hnb : n ≤ 268435456 := by have := HP.out.2.nm; rw [HN.out] at this; omega
   go_loopw [34, 7] (fun i _ wx => ∃ j : Nat, j ≤ n ∧ i = .int .i64 j ∧ ∃ rvj : Value, Hid (∃ A1 o1, TwB S w wx db mb mh1 rb rvj j A1 o1)) (fun i _ wx => n - (intOf i).toNat)
   case atStart => exact ⟨0, Nat.zero_le _, rfl, _, H6⟩
   case round =>
    clear H6
    obtain ⟨j, hj, rfl, rvj, HJ⟩ := hrel
    obtain ⟨A2, o2, hJ⟩ := HJ.out
    clear HJ
    have hwf := HP.out.1.wf
    by_cases hlt2 : j < n
    ·have hjr : j < S.row.length := by rw [HN.out]; exact hlt2
     obtain ⟨c, hc⟩ : ∃ c, S.row[j]? = some c := ⟨_, List.getElem?_eq_getElem hjr⟩
     obtain ⟨g, rfl⟩ : ∃ g, ro = some ⟨g, 0, none⟩ := by
      rcases HP.out.1.row.2 with ⟨e, e2⟩ | ⟨g, cap, cur, e, _⟩
      ·omega
      ·injection e with e _ _; exact ⟨g, e⟩
     have hcell : w.cell? ⟨g, j, none⟩ = some (encNc A c) := by
      have := HP.out.1.row.cells (g := g) rfl j (encNc A c) (by simp [hc])
      rwa [add0] at this
     have hcx := hJ.keep.cellOf hcell (by simp)
     have hjl : (j : Int) < (n : Int) := by omega
     have hsub : ∀ i ∈ S.safe.ids ++ madeN (S.row.take j), i ∈ S.lives := fun i hi => by
      rcases List.mem_append.1 hi with h | h
      ·exact List.mem_append_left _ h
      ·exact List.mem_append_right _ ((Ds.made_take S.row j).subset h)
     have hB := HP.out.2
     cases c with
     | mk nm k =>
      as_aux_lemma =>
       simp only [encNc] at hcx
       have hm : ∀ w : World, (method 326 121 (.agg #[encStr nm, .pointer (some ⟨A k, 0, none⟩)]) "freight/disk.twin").run Tryz.prog w = .ok (155, .agg #[encStr nm, .pointer (some ⟨A k, 0, none⟩)]) w := fun _ => by kernel_rfl
       have hna : ∀ w : World, (nilAhead 326 121 (.agg #[encStr nm, .pointer (some ⟨A k, 0, none⟩)]) "freight/disk.twin").run Tryz.prog w = .ok (some false) w := fun _ => by kernel_rfl
       have hkm : k ∈ madeN S.row := List.mem_flatMap.2 ⟨_, List.mem_of_getElem? hc, by simp [Nc.made]⟩
       have hkl : k ∈ S.lives := List.mem_append_right _ hkm
       have hkn : k < S.nx := hwf.lt k hkl
       obtain ⟨rv1, sv1, ht⟩ := HP.out.1.th k hkn
       have hbt := hB.th k hkn
       have hbl := hB.len hwf hkn
       have hnk : k ∉ S.safe.ids ++ madeN (S.row.take j) := fun hi => by
        have hnd := hwf.nodup
        have hsp : madeN S.row = madeN (S.row.take j) ++ madeN (S.row.drop j) := by rw [← madeN_append, List.take_append_drop]
        rw [hsp, ← List.append_assoc] at hnd
        have hkd : k ∈ madeN (S.row.drop j) := by
         refine List.mem_flatMap.2 ⟨.mk nm k, ?_, by simp [Nc.made]⟩
         rw [List.drop_eq_getElem_cons hjr]
         have : S.row[j] = .mk nm k := by rw [List.getElem?_eq_getElem hjr] at hc; injection hc
         rw [this]
         simp
        exact (List.nodup_append.1 hnd).2.2 k hi k hkd rfl
       have hmk := mkTwin_ok nm (A k) (S.th k) wr (fun v hv => thTwin_ok (ht.keep (Keep.ofNone (F := fun _ => False) (hJ.keep.trans hv (by simp))) (fun _ _ h => h)) (by omega) (by omega))
       have HST := hide (fun (v1 : World) (b1 : Nat) (r1 s1 : Value) (g1 : NewTh wr v1 b1 r1 s1 (S.th k)) (g2 : Kept [] wr v1) => show Calls Tryz.prog 70 #[.pointer (some ⟨db, 0, none⟩), .iface 121 (.agg #[encStr nm, .pointer (some ⟨b1, 0, none⟩)])] v1 fun e w' => e = .returned (.tuple #[]) ∧ ∃ rv5, Hid (∃ A1 o1, TwB S w w' db mb mh1 rb rv5 (j + 1) A1 o1) from by
        obtain ⟨hT, hTg⟩ := hJ.thing hkl hnk hsub g1 g2
        have h5 := hT.doChange hwf hB hN hc (fun i hi => by simp only [Nc.made, List.mem_singleton] at hi; subst hi; exact hTg)
        have e : encNc (upd A2 (S.rho k) b1) ((Nc.mk nm k).ren S.rho) = .iface 121 (.agg #[encStr nm, .pointer (some ⟨b1, 0, none⟩)]) := by simp [Nc.ren, encNc, upd_same]
        rw [e] at h5
        exact h5.mono (fun e w' ⟨h1, rv5, o5, h2⟩ => ⟨h1, rv5, hide ⟨_, o5, h2⟩⟩))
       clear hJ ht hbt hbl hnk hkm hkl hkn hcell hsub hc
       go_wp2_with (first
        | (go_at_call 155; refine hmk.mono ?_; rintro e v1 ⟨b1, r1, s1, rfl, g1, g2⟩; have hch := HST.out v1 b1 r1 s1 g1 g2; clear hmk HST g1 g2 hcx)
        | (go_at_call 70; refine hch.mono ?_; rintro e w7 ⟨rfl, rv7, H7⟩; clear hch))
       refine ⟨⟨j + 1, by omega, by go_num, rv7, H7⟩, by simp [intOf]; omega⟩
     | gv f t =>
      as_aux_lemma =>
       simp only [encNc] at hcx
       have hm : ∀ w : World, (method 326 124 (.agg #[encStr f, encStr t]) "freight/disk.twin").run Tryz.prog w = .ok (157, .agg #[encStr f, encStr t]) w := fun _ => by kernel_rfl
       have hna : ∀ w : World, (nilAhead 326 124 (.agg #[encStr f, encStr t]) "freight/disk.twin").run Tryz.prog w = .ok (some false) w := fun _ => by kernel_rfl
       have hmk := gvTwin_ok f t wr
       have HST := hide (fun (v1 : World) (g2 : Kept [] wr v1) => show Calls Tryz.prog 70 #[.pointer (some ⟨db, 0, none⟩), .iface 124 (.agg #[encStr f, encStr t])] v1 fun e w' => e = .returned (.tuple #[]) ∧ ∃ rv5, Hid (∃ A1 o1, TwB S w w' db mb mh1 rb rv5 (j + 1) A1 o1) from by
        have h5 := (hJ.kept g2).doChange hwf hB hN hc (fun i hi => by simp [Nc.made] at hi)
        exact h5.mono (fun e w' ⟨h1, rv5, o5, h2⟩ => ⟨h1, rv5, hide ⟨_, o5, h2⟩⟩))
       clear hJ hcell hsub hc
       go_wp2_with (first
        | (go_at_call 157; refine hmk.mono ?_; rintro e v1 ⟨rfl, g2⟩; have hch := HST.out v1 g2; clear hmk HST g2 hcx)
        | (go_at_call 70; refine hch.mono ?_; rintro e w7 ⟨rfl, rv7, H7⟩; clear hch))
       refine ⟨⟨j + 1, by omega, by go_num, rv7, H7⟩, by simp [intOf]; omega⟩
     | tk f =>
      as_aux_lemma =>
       simp only [encNc] at hcx
       have hm : ∀ w : World, (method 326 132 (.agg #[encStr f]) "freight/disk.twin").run Tryz.prog w = .ok (159, .agg #[encStr f]) w := fun _ => by kernel_rfl
       have hna : ∀ w : World, (nilAhead 326 132 (.agg #[encStr f]) "freight/disk.twin").run Tryz.prog w = .ok (some false) w := fun _ => by kernel_rfl
       have hmk := tkTwin_ok f wr
       have HST := hide (fun (v1 : World) (g2 : Kept [] wr v1) => show Calls Tryz.prog 70 #[.pointer (some ⟨db, 0, none⟩), .iface 132 (.agg #[encStr f])] v1 fun e w' => e = .returned (.tuple #[]) ∧ ∃ rv5, Hid (∃ A1 o1, TwB S w w' db mb mh1 rb rv5 (j + 1) A1 o1) from by
        have h5 := (hJ.kept g2).doChange hwf hB hN hc (fun i hi => by simp [Nc.made] at hi)
        exact h5.mono (fun e w' ⟨h1, rv5, o5, h2⟩ => ⟨h1, rv5, hide ⟨_, o5, h2⟩⟩))
       clear hJ hcell hsub hc
       go_wp2_with (first
        | (go_at_call 159; refine hmk.mono ?_; rintro e v1 ⟨rfl, g2⟩; have hch := HST.out v1 g2; clear hmk HST g2 hcx)
        | (go_at_call 70; refine hch.mono ?_; rintro e w7 ⟨rfl, rv7, H7⟩; clear hch))
       refine ⟨⟨j + 1, by omega, by go_num, rv7, H7⟩, by simp [intOf]; omega⟩
    ·have hjn : j = n := by omega
     subst hjn
     obtain ⟨ro2, rc2, rfl, _⟩ := own_shape hJ.row
     have HJ := hide hJ
     have hd := hJ.dir
     have hrs := hJ.res
     have d0 : wr.cell? ⟨db, 0, none⟩ = some (.map (some mb)) := by rw [cell_of_row wr _ 0 _ _ _ hd]; rfl
     have d1 : wr.cell? ⟨db, 1, none⟩ = some (.slice ro2 ((S.row.take j).map (Nc.ren S.rho)).length rc2) := by rw [cell_of_row wr _ 1 _ _ _ hd]; rfl
     have d2 : wr.cell? ⟨db, 2, none⟩ = some (.map (some mh1)) := by rw [cell_of_row wr _ 2 _ _ _ hd]; rfl
     have r0 : wr.cell? ⟨rb, 0, none⟩ = some (.map none) := by rw [cell_of_row wr _ 0 _ _ _ hrs]; rfl
     have r1 : wr.cell? ⟨rb, 1, none⟩ = some (.slice none 0 0) := by rw [cell_of_row wr _ 1 _ _ _ hrs]; rfl
     have r2 : wr.cell? ⟨rb, 2, none⟩ = some (.map none) := by rw [cell_of_row wr _ 2 _ _ _ hrs]; rfl
     have f0 : wr.frozen? ⟨rb, 0, none⟩ = false := frozen_of_row wr rb 0 _ _ hrs
     have f1 : wr.frozen? ⟨rb, 1, none⟩ = false := frozen_of_row wr rb 1 _ _ hrs
     have f2 : wr.frozen? ⟨rb, 2, none⟩ = false := frozen_of_row wr rb 2 _ _ hrs
     generalize hql : ((S.row.take j).map (Nc.ren S.rho)).length = ql at *
     clear hJ
     go_wp2
     have x1 := heap_setCell_same wr rb 0 _ _ (.map (some mb)) hrs
     have x2 := heap_setCell_same (wr.setCell ⟨rb, 0, none⟩ (.map (some mb))) rb 1 _ _ (.slice ro2 ql rc2) x1
     have x3 := heap_setCell_same ((wr.setCell ⟨rb, 0, none⟩ (.map (some mb))).setCell ⟨rb, 1, none⟩ (.slice ro2 ql rc2)) rb 2 _ _ (.map (some mh1)) x2
     have hKr : Keep (· = rb) wr (((wr.setCell ⟨rb, 0, none⟩ (.map (some mb))).setCell ⟨rb, 1, none⟩ (.slice ro2 ql rc2)).setCell ⟨rb, 2, none⟩ (.map (some mh1))) := (((Keep.refl (· = rb) wr).setCell (p := ⟨rb, 0, none⟩) (fun _ => rfl) _).setCell (p := ⟨rb, 1, none⟩) (fun _ => rfl) _).setCell (p := ⟨rb, 2, none⟩) (fun _ => rfl) _
     refine ret_row rfl rfl rb 59 #[.map (some mb), .slice ro2 ql rc2, .map (some mh1)] (0, 0) _ rfl x3 Tryz.underlying59 rfl (by kernel_rfl) ?_
     exact ⟨mb, mh1, .slice ro2 ql rc2, A2, o2, db, rb, wr, rfl, by rw [HN.out]; exact HJ.out, hKr⟩
  ·intro x c kl yd yp w2 cnt2 hkey hlk hv hat hrg2 hlt hgr2 hsz2 hen
   obtain ⟨x', ex, rfl, _⟩ := Maps.keyOf_str Tryz.underlying9 hkey
   obtain rfl : x = x' := encStr_inj ex
   obtain ⟨k, hg, rfl⟩ := came (y := (yd, yp)) hv hat
   have hwf := HP.out.1.wf
   have hm := (Nm.get_some hwf.up).1 hg
   have hK2 : Keep (· = r) wr w2 := (Keep.refl (· = r) wr).grown hgr2 (fun j e _ => by injection e with e; exact e.symm)
   have hA := HR.out.2.1
   have hkw : Kept [] w w2 := ⟨hK2.os.trans hA.keep.os, hK2.tape.trans hA.keep.tape, hK2.output.trans hA.keep.output, Nat.le_trans hA.keep.size hK2.size, fun i hi _ => (hK2.block i (Nat.lt_of_lt_of_le hi hA.keep.size) (fun e => by omega)).trans (hA.keep.block i hi (by simp))⟩
   have hkn : k < S.nx := hwf.lt k (List.mem_append_left _ (List.mem_map.2 ⟨_, hm, rfl⟩))
   obtain ⟨rv1, sv1, ht⟩ := HP.out.1.th k hkn
   have hbt := HP.out.2.th k hkn
   have hbl := HP.out.2.len hwf hkn
   have HT := hide (fun (v : World) (hv : Kept [] w2 v) => thTwin_ok (ht.keep (Keep.ofNone (F := fun _ => False) (hkw.trans hv (by simp))) (fun _ _ h => h)) (by omega) (by omega))
   have hd2 : w2.heap[db]? = some (.cells #[.map (some mb), .slice none 0 0, .map none] 59 (0, 0)) := hK2.heapOf hA.dir (Ne.symm hrd)
   have e2 : w2.cell? ⟨db, 0, none⟩ = some (.map (some mb)) := by rw [cell_of_row w2 _ 0 _ _ _ hd2]; rfl
   have hmd : mb ≠ db := map_ne hA.map hA.dir (by simp)
   have hM2 : Mp w2 mb A1 ((notLeft left S.safe).ren S.rho) := hA.map.keep hK2 (Ne.symm hrm)
   have hml := hM2.lt
   have hsl := HP.out.2.nm
   have hnl := notLeft_len left S.safe
   have hxl : x.length ≤ 112 := isNm_len (hwf.nm _ hm)
   have hor := HR.out.2.2.1
   have hrl2 := HR.out.2.2.2
   have hwr := hA.keep.size
   have hnk : ∀ i ∈ ((notLeft left S.safe).ren S.rho).ids, i ≠ S.rho k := fun i hi e => by
    rw [Nm.ren_ids] at hi
    obtain ⟨j, hj, rfl⟩ := List.mem_map.1 hi
    obtain ⟨q, hq, rfl⟩ := List.mem_map.1 hj
    simp only [notLeft, List.mem_filter] at hq
    have := safe_rho hwf hq.1 hm e
    rw [this, hlk] at hq
    simp at hq
   have FIN : Hid (∀ v v1 w5 b1 r1 s1, Kept [] w2 v → NewTh v v1 b1 r1 s1 (S.th k) → Kept [] v v1 → Mp w5 mb (upd A1 (S.rho k) b1) (((notLeft left S.safe).ren S.rho).put x (S.rho k)) → Keep (· = mb) v1 w5 → ∃ (left : Lit → Bool) (cnt : Nat) (A1 : Nat → Nat) (o1 : Lab), Hid (w5.ranges Tryz.prog 9 ptrElem ms r S.safe.length (nmD A S.safe) left cnt ∧ TwA S w w5 db mb rb left A1 o1 ∧ o1 r = 0 ∧ r < w5.heap.size) ∧ cnt = cnt2) := hide (fun v v1 w5 b1 r1 s1 g1 g2 g3 g4 g5 => by
    have hKv : Keep (· = r) wr v := hK2.kept g1
    have hz1 := hKv.size
    have hz2 := g3.size
    have hz3 := g5.size
    have hKm : Keep (· = mb) w2 w5 := ((Keep.ofNone (F := (· = mb)) g1).kept g3).trans g5 (fun i e _ => e)
    refine ⟨_, cnt2, _, _, hide ⟨ranges_keep hrg2 hKm (fun e => by have := hA.ge; omega) hrm, hA.step hwf hm hlk hor (by omega) ⟨hrd, hrr, hrm⟩ hKv g2 g3 g4 g5, ?_, by omega⟩, rfl⟩
    rw [Lab.ext_old (by omega)]
    exact hor)
   have HL := hide (And.intro hrg hlt)
   simp only [mkP] at hen
   have HM2 := hide hM2
   have HNK := hide hnk
   clear hat hv hkey hgr2 hK2 hg hrg hlt hlk HR hA ht hbt hbl hM2 hnk hkw hrg2
   go_upto_region 5 with (fail)
   refine wp_region_held_drew (S := fun v => v.cell? ⟨db, 0, none⟩ = some (.map (some mb))) (by kernel_rfl) (by rw [((Kept.refl [] w2).drew).cellOf e2 (by simp)]) (fun h0 => ?_)
   have hv0 : Kept [] w2 w2.drew := (Kept.refl [] w2).drew
   generalize World.drew w2 = v0 at h0 hv0 ⊢
   refine wpAnyH_take (i := 0) (v := (.pointer (some ⟨db, 0, none⟩))) rfl (by kernel_rfl) (by kernel_rfl) (by kernel_rfl) (fun _ _ _ h => h) (Or.inl ⟨by rfl, fun w hSw => by go_simp⟩) h0 ?_
   try simp only [z1, z2, z3, z4, z5, z6, z7, z8]
   refine wpAnyH_take (i := 1) (v := (.map (some mb))) rfl (by kernel_rfl) (by kernel_rfl) (by kernel_rfl) (fun _ _ _ h => h) (Or.inl ⟨by rfl, fun w hSw => by go_simp⟩) h0 ?_
   try simp only [z1, z2, z3, z4, z5, z6, z7, z8]
   refine wpAnyH_take (i := 2) (v := (encStr x)) rfl (by kernel_rfl) (by kernel_rfl) (by kernel_rfl) (fun _ _ _ h => h) (Or.inl ⟨by rfl, fun w hSw => by go_simp⟩) h0 ?_
   try simp only [z1, z2, z3, z4, z5, z6, z7, z8]
   refine wpAnyH_take (i := 3) (v := (.pointer (some ⟨A k, 0, none⟩))) rfl (by kernel_rfl) (by kernel_rfl) (by kernel_rfl) (fun _ _ _ h => h) (Or.inl ⟨by rfl, fun w hSw => by go_simp⟩) h0 ?_
   try simp only [z1, z2, z3, z4, z5, z6, z7, z8]
   refine wpAnyH_ready (rs := [4]) (by kernel_rfl) (by simp) (AllReadyH.cons (i := 4) rfl (fun K hK => ?_) AllReadyH.nil)
   rw [if_pos (by rfl)]
   go_simp
   refine (HT.out _ hv0).mono ?_
   rintro e v1 ⟨b1, rv1, sv1, rfl, ho1, hq1⟩
   have hM1 : Mp v1 mb (upd A1 (S.rho k) b1) ((notLeft left S.safe).ren S.rho) := ((HM2.out.keep (Keep.ofNone (F := fun _ => False) hv0) (fun h => h)).keep (Keep.ofNone (F := fun _ => False) hq1) (fun h => h)).congr (fun i hi => upd_other _ _ (HNK.out i hi))
   obtain ⟨w5, hrun, hM5, hK5⟩ := hM1.put x (S.rho k) (by unfold maxLen; omega) (by rw [Nm.ren_len]; unfold maxLen; omega)
   rw [upd_same] at hrun
   have hE := FIN.out v0 v1 w5 b1 rv1 sv1 hv0 ho1 hq1 hM5 hK5
   have s5 : w5.cell? ⟨db, 0, none⟩ = some (.map (some mb)) := hK5.cellOf (hq1.cellOf h0 (by simp)) (Ne.symm hmd)
   refine hK.out _ _ (hq1.cellOf h0 (by simp)) (fun h1 => ?_)
   clear hK K ho1 hM1 hM5 hK5 FIN HT HM2 HNK
   try simp only [z1, z2, z3, z4, z5, z6, z7, z8]
   refine wpAnyH_ready (rs := [5]) (by kernel_rfl) (by simp) (AllReadyH.cons (i := 5) rfl (fun K hK => ?_) AllReadyH.nil)
   rw [if_pos (by rfl)]
   go_simp
   refine hK.out _ _ s5 (fun h2 => ?_)
   clear hK K hrun
   try simp only [z1, z2, z3, z4, z5, z6, z7, z8]
   refine wpAnyH_done (by kernel_rfl) ?_ _
   go_wp2
   obtain ⟨left', cnt', A1', o1', HE, rfl⟩ := hE
   refine ⟨⟨left', cnt', A1', o1', HE⟩, ?_⟩
   rw [HE.out.1.left_eq, HL.out.1.left_eq]
   exact HL.out.2
end

section
open Go.RowKit Dsk
set_option linter.unusedVariables false
set_option linter.unusedSimpArgs false
theorem rho_get {S : Ds} (hw : S.Wf) {j : Nat} (hj : j < S.lives.length) : S.rho S.lives[j] = j := by
 have hm : S.lives[j] ∈ S.lives := List.getElem_mem _
 have h1 := Ds.rho_lt hm
 have h2 := Ds.rho_back hm
 rw [List.getD_eq_getElem?_getD, List.getElem?_eq_getElem h1] at h2
 exact (List.getElem_inj hw.nodup).1 h2
theorem TwB.disk {S : Ds} {w1 w9 w5 w6 w7 : World} {db mb mh rb q : Nat} {rv sv : Value} {A : Nat → Nat} {o : Lab} (h : TwB S w1 w9 db mb mh rb rv S.row.length A o) (hw : S.Wf) (hpl : (Lit.int .i64 S.off).wf = true ∧ (Lit.int .i64 S.from_).wf = true ∧ (Lit.int .i64 S.to).wf = true)
  (hq : q < w1.heap.size) (h5 : w9.heap.size ≤ w5.heap.size) (h6 : w5.heap.size ≤ w6.heap.size) (hK : Keep (fun b => b = rb ∨ b = q) w9 w7) (h7 : w6.heap.size ≤ w7.heap.size)
  (hQ : w7.heap[q]? = some (.cells #[.int .i64 S.room, .bool S.on, .map (some mb), rv, .map (some mh), .int .i64 S.strokes, .int .i64 S.off, .int .i64 S.from_, .int .i64 S.to, .int .i64 S.planned, sv] 62 (0, 0)))
  (hs : w7.ownsRow 0 126 3 sv S.reads.length (S.reads.flatMap encSp)) (hsg : ∀ g, sv.ownBlock = some g → w5.heap.size ≤ g ∧ g < w6.heap.size) :
  PD w7 q S.compact A (fun b => if b = q then 1 else o.ext w5 w6 1 b) := by
 have hoq : o q = 0 := Classical.byContradiction fun hn => by have := (h.lim q hn).1; omega
 have old : ∀ b, b < w9.heap.size → b ≠ q → (fun b => if b = q then 1 else o.ext w5 w6 1 b) b = o b := fun b hb hn => by
  show (if b = q then 1 else o.ext w5 w6 1 b) = o b
  rw [if_neg hn]
  exact Lab.ext_old (by omega)
 have hml := h.mapS.lt
 have hhl := h.mapH.lt
 have nq : ∀ b, o b ≠ 0 → b ≠ q := fun b hb e => by rw [e] at hb; exact hb hoq
 have nrb : ∀ b, o b ≠ 0 → ¬ (b = rb ∨ b = q) := fun b hb e => by
  rcases e with e | e
  ·rw [e] at hb; exact hb h.nr
  ·exact nq b hb e
 have htk : S.row.take S.row.length = S.row := List.take_length
 refine ⟨mb, mh, rv, sv, hw.compact, hQ, h.ne, h.mapS.keep hK (nrb mb (by rw [h.lm]; decide)), ?_, ?_, hs, fun j hj => ?_, by simp, ?_, ?_, fun g hg => ?_, fun g hg => ?_, fun b hb => ?_, hpl⟩
 ·have := h.mapH.keep hK (nrb mh (by rw [h.lh]; decide))
  rw [htk, ren_run, ← hw.shown] at this
  exact this
 ·have := own_keeps h.row hK (fun g hg => nrb g (by rw [h.lr g hg]; decide))
  rw [htk] at this
  exact this
 ·have hj2 : j < S.lives.length := hj
  have hm : S.lives[j] ∈ S.safe.ids ++ madeN (S.row.take S.row.length) := by rw [htk]; exact List.getElem_mem _
  have h8 := h.th _ hm
  rw [rho_get hw hj2] at h8
  have e : S.compact.th j = S.th S.lives[j] := by
   show S.th (S.lives.getD j 0) = _
   rw [List.getD_eq_getElem?_getD, List.getElem?_eq_getElem hj2]
   rfl
  rw [e]
  obtain ⟨r1, s1, h9⟩ := h8
  have h10 := h9.keep hK (fun g hg => nrb g (by rw [hg]; omega))
  exact ⟨r1, s1, h10.cells, h10.row, h10.shown, (old _ h9.lt (nq _ (by rw [h9.lb]; omega))).trans h9.lb, fun g hg => (old g (h9.row.lt g hg).2 (nq g (by rw [h9.lr g hg]; omega))).trans (h9.lr g hg), fun g hg => (old g (h9.shown.lt hg) (nq g (by rw [h9.ls g hg]; omega))).trans (h9.ls g hg)⟩
 ·exact (old mb hml (nq mb (by rw [h.lm]; decide))).trans h.lm
 ·exact (old mh hhl (nq mh (by rw [h.lh]; decide))).trans h.lh
 ·exact (old g (h.row.lt g hg).2 (nq g (by rw [h.lr g hg]; decide))).trans (h.lr g hg)
 ·have hg2 := hsg g hg
  have hz := h.keep.size
  show (if g = q then 1 else o.ext w5 w6 1 g) = 1
  rw [if_neg (by omega)]
  exact Lab.ext_new hg2.1 hg2.2
 ·have hz := h.keep.size
  by_cases e : b = q
  ·omega
  ·have hb2 : o.ext w5 w6 1 b ≠ 0 := by
    have : (if b = q then 1 else o.ext w5 w6 1 b) ≠ 0 := hb
    rwa [if_neg e] at this
   by_cases hb5 : b < w5.heap.size
   ·omega
   ·by_cases hb6 : b < w6.heap.size
    ·omega
    ·simp [Lab.ext, hb5, hb6] at hb2
set_option maxHeartbeats 4000000 in
set_option maxRecDepth 100000 in
theorem twin_ok {w : World} {p : Nat} {S : Ds} {A : Nat → Nat} {o : Lab} {N : Nat} (h : PD w p S A o) (hB : S.Bd N) (hN : N ≤ 268435456) : Calls Tryz.prog 96 #[.pointer (some ⟨p, 0, none⟩)] w fun e w' => ∃ q, e = .returned (.pointer (some ⟨q, 0, none⟩)) ∧ At w w' q S.compact N := by
 obtain ⟨ms, mh, rv, sv, h⟩ := h
 have hno := isNone_ok h
 obtain ⟨ro, rc, rfl, _⟩ := own_shape h.row
 obtain ⟨so, sc, rfl, _⟩ := own_shape h.reads
 have HP := hide (And.intro h hB)
 obtain ⟨w1, hw1⟩ : ∃ w1, w1 = w.alloc (.cells #[.int .i64 S.room, .bool S.on, .map (some ms), .slice ro S.row.length rc, .map (some mh), .int .i64 S.strokes, .int .i64 S.off, .int .i64 S.from_, .int .i64 S.to, .int .i64 S.planned, .slice so S.reads.length sc] 62) := ⟨_, rfl⟩
 have hk1 : Kept [] w w1 := by rw [hw1]; exact (Kept.refl [] w).alloc _
 have hb1 : w1.heap[w.heap.size]? = some (.cells #[.int .i64 S.room, .bool S.on, .map (some ms), .slice ro S.row.length rc, .map (some mh), .int .i64 S.strokes, .int .i64 S.off, .int .i64 S.from_, .int .i64 S.to, .int .i64 S.planned, .slice so S.reads.length sc] 62 (0, 0)) := by rw [hw1]; exact (MapKept.heap_alloc w _).1
 have h1 := h.keep (Keep.ofNone (F := fun _ => False) hk1) (fun _ _ h => h)
 have hdt := dirTwin_ok h1 hB hN
 have hpl := (Array.getElem?_eq_some_iff.1 h.cells).1
 have i0 := h.c0
 have i1 := h.c1
 have i2 : w.cell? ⟨p, 2, none⟩ = some (.map (some ms)) := h.c 2
 have i3 : w.cell? ⟨p, 3, none⟩ = some (.slice ro S.row.length rc) := h.c 3
 have i4 : w.cell? ⟨p, 4, none⟩ = some (.map (some mh)) := h.c 4
 have i5 : w.cell? ⟨p, 5, none⟩ = some (.int .i64 S.strokes) := h.c 5
 have i6 : w.cell? ⟨p, 6, none⟩ = some (.int .i64 S.off) := h.c 6
 have i7 : w.cell? ⟨p, 7, none⟩ = some (.int .i64 S.from_) := h.c 7
 have i8 : w.cell? ⟨p, 8, none⟩ = some (.int .i64 S.to) := h.c 8
 have i9 : w.cell? ⟨p, 9, none⟩ = some (.int .i64 S.planned) := h.c 9
 have i10 : w.cell? ⟨p, 10, none⟩ = some (.slice so S.reads.length sc) := h.c 10
 clear h hB h1
 go_enter Tryz.func96, Tryz.ntmps96
 go_upto_region 4 with (go_at_call 73; refine hno.mono ?_; rintro e w' ⟨rfl, hw⟩; obtain rfl := hw.symm; clear hno)
 rw [← hw1]
 clear hw1 i0 i1 i2 i3 i4 i5 i6 i7 i8 i9
 have hq1 : w.heap.size < w1.heap.size := (Array.getElem?_eq_some_iff.1 hb1).1
 generalize hqe : w.heap.size = q at hb1 hq1 ⊢
 go_upto_region 5 with (go_at_call 107; refine hdt.mono ?_; rintro e w4 ⟨mb, mh', rv', A', o', db, rb, w9, rfl, hT, hK4⟩; clear hdt; obtain ⟨ro2, rc2, rfl, _⟩ := own_shape hT.row; have hb9 : w9.heap[q]? = some (.cells #[.int .i64 S.room, .bool S.on, .map (some ms), .slice ro S.row.length rc, .map (some mh), .int .i64 S.strokes, .int .i64 S.off, .int .i64 S.from_, .int .i64 S.to, .int .i64 S.planned, .slice so S.reads.length sc] 62 (0, 0)) := (Keep.ofNone (F := fun _ => False) hT.keep).heapOf hb1 (fun h => h); have hqr : ¬ q = rb := (fun e => by
   have := hT.res
   rw [← e, hb9] at this
   injection this with this
   injection this with _ h2 _
   exact absurd h2 (by decide)); have hb4 := hK4.heapOf hb9 hqr; have q2 : w4.cell? ⟨q, 2, none⟩ = some (.map (some ms)) := (by rw [cell_of_row w4 _ 2 _ _ _ hb4]; rfl); have q3 : w4.cell? ⟨q, 3, none⟩ = some (.slice ro S.row.length rc) := (by rw [cell_of_row w4 _ 3 _ _ _ hb4]; rfl); have q4 : w4.cell? ⟨q, 4, none⟩ = some (.map (some mh)) := (by rw [cell_of_row w4 _ 4 _ _ _ hb4]; rfl); have f2 : w4.frozen? ⟨q, 2, none⟩ = false := frozen_of_row w4 q 2 _ _ hb4; have f3 : w4.frozen? ⟨q, 3, none⟩ = false := frozen_of_row w4 q 3 _ _ hb4; have f4 : w4.frozen? ⟨q, 4, none⟩ = false := frozen_of_row w4 q 4 _ _ hb4; have HT := hide hT; clear hT; generalize hql : ((S.row.take S.row.length).map (Nc.ren S.rho)).length = ql at *)
 obtain ⟨w5, hw5⟩ : ∃ w5, w5 = ((w4.setCell ⟨q, 2, none⟩ (.map (some mb))).setCell ⟨q, 3, none⟩ (.slice ro2 ql rc2)).setCell ⟨q, 4, none⟩ (.map (some mh')) := ⟨_, rfl⟩
 have x1 := heap_setCell_same w4 q 2 _ _ (.map (some mb)) hb4
 have x2 := heap_setCell_same (w4.setCell ⟨q, 2, none⟩ (.map (some mb))) q 3 _ _ (.slice ro2 ql rc2) x1
 have x3 := heap_setCell_same ((w4.setCell ⟨q, 2, none⟩ (.map (some mb))).setCell ⟨q, 3, none⟩ (.slice ro2 ql rc2)) q 4 _ _ (.map (some mh')) x2
 have hK5 : Keep (· = q) w4 w5 := by rw [hw5]; exact (((Keep.refl (· = q) w4).setCell (p := ⟨q, 2, none⟩) (fun _ => rfl) _).setCell (p := ⟨q, 3, none⟩) (fun _ => rfl) _).setCell (p := ⟨q, 4, none⟩) (fun _ => rfl) _
 have hb5 : w5.heap[q]? = some (.cells #[.int .i64 S.room, .bool S.on, .map (some mb), .slice ro2 ql rc2, .map (some mh'), .int .i64 S.strokes, .int .i64 S.off, .int .i64 S.from_, .int .i64 S.to, .int .i64 S.planned, .slice so S.reads.length sc] 62 (0, 0)) := by rw [hw5]; exact x3
 rw [← hw5]
 clear hw5 x1 x2 x3 q2 q3 q4 f2 f3 f4
 have hrbge : w.heap.size ≤ rb := Nat.le_trans hk1.size HT.out.gr
 have k15 : Kept [] w w5 := by
  have a1 := hk1.trans HT.out.keep (by simp)
  have a2 : Keep (fun b => b = rb ∨ b = q) w9 w5 := (hK4.mono (fun i e _ => .inl e)).trans hK5 (fun i e _ => .inr e)
  exact ⟨a2.os.trans a1.os, a2.tape.trans a1.tape, a2.output.trans a1.output, Nat.le_trans a1.size a2.size, fun i hi _ => (a2.block i (Nat.lt_of_lt_of_le hi a1.size) (fun e => by omega)).trans (a1.block i hi (by simp))⟩
 have j10 := k15.cellOf i10 (by simp)
 have hrd5 := own_keeps HP.out.1.reads (Keep.ofNone (F := fun _ => False) k15) (fun _ _ h => h)
 have hcl := cloneS_ok _ _ _ w5 hrd5 (encSp_one S.reads) (by have := HP.out.2.reads; omega)
 clear hrd5 i10
 go_upto_region 6 with (go_at_call 72; refine hcl.mono ?_; rintro e w6 ⟨sv6, rfl, ho6, hk6⟩; clear hcl; obtain ⟨so6, sc6, rfl, _⟩ := own_shape ho6; have hb6 := (Keep.ofNone (F := fun _ => False) hk6).heapOf hb5 (fun h => h); have q10 : w6.cell? ⟨q, 10, none⟩ = some (.slice so S.reads.length sc) := (by rw [cell_of_row w6 _ 10 _ _ _ hb6]; rfl); have f10 : w6.frozen? ⟨q, 10, none⟩ = false := frozen_of_row w6 q 10 _ _ hb6)
 obtain ⟨w7, hw7⟩ : ∃ w7, w7 = w6.setCell ⟨q, 10, none⟩ (.slice so6 S.reads.length sc6) := ⟨_, rfl⟩
 have x7 := heap_setCell_same w6 q 10 _ _ (.slice so6 S.reads.length sc6) hb6
 rw [← hw7] at x7 ⊢
 have hK7 : Keep (· = q) w6 w7 := by rw [hw7]; exact (Keep.refl (· = q) w6).setCell (p := ⟨q, 10, none⟩) (fun _ => rfl) _
 have hq6 : (Value.slice so6 S.reads.length sc6).ownBlock ≠ some q := own_ne ho6 hb6 (by decide)
 have hKA : Keep (fun b => b = rb ∨ b = q) w9 w7 := (((hK4.mono (fun i e _ => .inl e)).trans hK5 (fun i e _ => .inr e)).kept hk6).trans hK7 (fun i e _ => .inr e)
 have z45 := hK5.size
 have z94 := hK4.size
 have z7 := hK7.size
 have hPD := HT.out.disk HP.out.1.wf HP.out.1.pl hq1 (by omega) hk6.size hKA z7 x7 (own_keeps (ownsRow_base_a ho6 (Nat.zero_le _)) hK7 (fun g hg e => hq6 (by rw [← e]; exact hg))) (fun g hg => ho6.lt g hg)
 have HAT : Hid (At w w7 q S.compact N) := hide ⟨A', _, hPD, fun b hb => by
   have hz := HT.out.keep.size
   have hz1 := hk1.size
   by_cases e : b = q
   ·omega
   ·have hb2 : o'.ext w5 w6 1 b ≠ 0 := by
     have : (if b = q then 1 else o'.ext w5 w6 1 b) ≠ 0 := hb
     rwa [if_neg e] at this
    by_cases hb5' : b < w5.heap.size
    ·rw [Lab.ext_old hb5'] at hb2
     have := (HT.out.lim b hb2).1
     omega
    ·omega, by
   have a3 : Keep (· = q) w5 w7 := (Keep.ofNone hk6).trans hK7 (fun i e _ => e)
   exact ⟨a3.os.trans k15.os, a3.tape.trans k15.tape, a3.output.trans k15.output, Nat.le_trans k15.size a3.size, fun i hi _ => (a3.block i (Nat.lt_of_lt_of_le hi k15.size) (fun e => by omega)).trans (k15.block i hi (by simp))⟩, HP.out.2.compact HP.out.1.wf⟩
 clear hPD hKA hK7 hw7 x7 hb6 hb5 hb4 hb9 hb1 ho6 hk6 q10 f10 j10 hK5 hK4
 go_wp2
 go_ret
 exact ⟨q, rfl, HAT.out⟩
end

end Go.Proofs.YteckiednnaianaaGreat
