import Derived.Test.YteckiednnaianaaGreatOlp
import Derived.Lib.AppendStr
import Derived.Lib.BufferWrite
import Derived.Lib.SlBuf
import Derived.Lib.BufferRead
import Derived.Laws.IdiomStrings
import Derived.Laws.BytesString
namespace Go.Proofs.YteckiednnaianaaGreat
section
open Go.RowKit Dsk
set_option linter.unusedVariables false
set_option linter.unusedSimpArgs false
theorem Tryz.infoByte : (Tryz.prog.info? 5).map (fun i => (i.zero, i.size, i.bytes)) = some (some (.int .u8 0), 1, 1) := by kernel_rfl
theorem strCells_bys (s : By) : Lib.strCells ⟨s.toArray⟩ = bys s := by simp [Lib.strCells, bys]
theorem str_size (s : By) : (ByteArray.mk s.toArray).size = s.length := by simp [ByteArray.size]
theorem run_store_cells (P : Program) (g o : Nat) (t : TypeId) (fz : Nat × Nat) : ∀ (vs : List Value) (i : Nat) (cur : Array Value) (w : World), w.heap[g]? = some (.cells cur t fz) → NoFr fz cur.size → o + i + vs.length ≤ cur.size → (∀ v ∈ vs, v.oneCell' = true) →
  (storeCells ⟨g, o, none⟩ vs i).run P w = .ok () (w.setRow g (cur.toList.take (o + i) ++ vs ++ cur.toList.drop (o + i + vs.length)).toArray)
 | [], i, cur, w, hg, _, _, _ => by
  simp only [storeCells, List.append_nil, List.length_nil, Nat.add_zero, List.take_append_drop, Array.toArray_toList]
  rw [setRow_self w g cur t fz hg]
  rfl
 | v :: rest, i, cur, w, hg, hfz, hl, h1 => by
  have hi : o + i < cur.size := by simp at hl; omega
  have hadd : (⟨g, o, none⟩ : Addr).add i = ⟨g, o + i, none⟩ := by unfold Addr.add; split <;> simp_all
  have hcell : w.cell? ⟨g, o + i, none⟩ = some cur[o + i] := by simp [World.cell?, hg, hi]
  have hfro : w.frozen? ⟨g, o + i, none⟩ = false := by
   obtain ⟨lo, hi'⟩ := fz
   have := hfz (o + i) hi
   simp only [World.frozen?, hg, Bool.and_eq_false_iff, decide_eq_false_iff_not]
   simp only at this
   omega
  have hst : (store ((⟨g, o, none⟩ : Addr).add i) v).run P w = .ok () (w.setRow g (cur.setIfInBounds (o + i) v)) := by
   rw [hadd, run_store P w _ v _ (h1 v (by simp)), hcell]
   simp [hfro, setCell_eq_setRow w g (o + i) cur t fz v hg]
  have ih := run_store_cells P g o t fz rest (i + 1) (cur.setIfInBounds (o + i) v) (w.setRow g (cur.setIfInBounds (o + i) v)) (setRow_heap w g cur _ t _ hg) (by simpa using hfz) (by simp at hl ⊢; omega) (fun x hx => h1 x (by simp [hx]))
  simp only [storeCells, Sem.run_bind, hst, Result.andThen_ok, ih, setRow_setRow]
  congr 3
  have e := list_seg_step cur.toList (o + i) v rest (by simp at hl ⊢; omega)
  simpa [Array.toList_setIfInBounds, Nat.add_assoc] using e
theorem run_app_str (w : World) (v : Value) (n : Nat) (xs s : By) (hown : OwnB w v n xs) (ty : TypeId) (hb : n + s.length ≤ 140737488355328) :
  ∃ v' w', (Builtin.append_ #[24, 9] ty #[v, encStr s]).run Tryz.prog w = .ok v' w' ∧ OwnB w' v' (n + s.length) (xs ++ s) ∧ w.grownBy w' v.ownBlock ∧ (v'.ownBlock = v.ownBlock ∨ v'.ownBlock = some w.heap.size) := by
 obtain ⟨i0, hi, hz0, hz1, hz2⟩ := info_parts Tryz.infoByte
 have hsz := str_size s
 have hxl := hown.1
 rcases hown.2 with ⟨rfl, rfl⟩ | ⟨g, cap, cur, fr, rfl, hg, hfr, hnc, hcm, hcs, htake⟩
 ·have hx : xs = [] := List.eq_nil_of_length_eq_zero hxl
  subst hx
  have hnil : w.ownsRow 0 5 1 (.slice none 0 0) 0 (bys []) := World.ownsRow_nil w 0 5 1
  obtain ⟨v', w', hr, h2, h3, h4⟩ := Lib.run_append_own_string (P := Tryz.prog) w 0 24 9 ty 5 i0 Tryz.underlying24 Tryz.underlying9 hi hz0 hz1 hz2 _ 0 (bys []) hnil ⟨s.toArray⟩ (by rw [hsz]; unfold maxLen; omega) (by rw [hsz]; omega) (Nat.zero_le _)
  rw [hsz, strCells_bys, ← bys_append] at h2
  refine ⟨v', w', hr, OwnB.of h2, h3, ?_⟩
  by_cases hm : s.length = 0
  ·rw [h4.2 ⟨rfl, by rw [hsz]; exact hm⟩]; exact .inl rfl
  ·have hr2 := run_append_nil_string (P := Tryz.prog) w 24 9 ty 5 i0 (.int .u8 0) Tryz.underlying24 Tryz.underlying9 hi hz0 ⟨s.toArray⟩ (by omega) (by omega) (by rw [hz2]; omega)
   rw [hr2] at hr
   injection hr with hr _
   rw [← hr]
   exact .inr rfl
 ·by_cases hroom : n + s.length ≤ cap
  ·have hf := Lib.run_firstCells_string (P := Tryz.prog) w 1 ⟨s.toArray⟩
   have hst := run_store_cells Tryz.prog g n 5 fr (bys s) 0 cur w hg hfr (by rw [bys_length]; omega) (bys_oneCell s)
   simp only [Nat.add_zero, bys_length] at hst
   rw [strCells_bys] at hf
   refine ⟨.slice (some ⟨g, 0, none⟩) (n + s.length) cap, w.setRow g (cur.toList.take n ++ bys s ++ cur.toList.drop (n + s.length)).toArray, ?_, ⟨by simp [hxl], .inr ⟨g, cap, _, fr, rfl, setRow_heap w g cur _ _ _ hg, ?_, hroom, hcm, ?_, ?_⟩⟩, ⟨rfl, rfl, rfl, by simp, fun k _ hk => setRow_other w g k _ (fun e => hk (by simp [Value.ownBlock, e]))⟩, .inl rfl⟩
   ·rw [hsz] at hf
    simp [Builtin.append_, run_underlying Tryz.underlying24, run_underlying Tryz.underlying9, sizeOf, typeInfo, hi, hz1, Builtin.lenOf, hsz, hroom, hf, Addr.add_lit, hst]
   ·have : (cur.toList.take n ++ bys s ++ cur.toList.drop (n + s.length)).toArray.size = cur.size := by
     simp only [List.size_toArray, List.length_append, List.length_take, List.length_drop, Array.length_toList, bys_length]
     omega
    rw [this]
    exact hfr
   ·simp only [List.size_toArray, List.length_append, List.length_take, List.length_drop, Array.length_toList, bys_length]
    omega
   ·rw [htake, ← bys_append]
    exact List.take_left' (by simp [bys_length, hxl])
  ·have hsl : ∀ j u, (bys xs)[j]? = some u → w.cell? ((⟨g, 0, none⟩ : Addr).add j) = some u := by
    intro j u hu
    rw [add0, cell_of_row w g j cur _ fr hg]
    rw [← htake, List.getElem?_take] at hu
    split at hu
    ·simpa using hu
    ·cases hu
   have hr2 := Lib.run_append_grow_string (P := Tryz.prog) w 24 9 ty 5 i0 (.int .u8 0) Tryz.underlying24 Tryz.underlying9 hi hz0 ⟨g, 0, none⟩ n cap (bys xs) (by rw [hz1, bys_length]; omega) hsl ⟨s.toArray⟩ (by omega) (by omega) (by rw [hz2]; exact growslice_fits (by omega) (by omega))
   rw [hsz, strCells_bys] at hr2
   have hge := grownCap_ge w (n + s.length) cap 5
   have hcm2 : grownCap w (n + s.length) cap 5 ≤ maxLen := grownCap_le_maxLen w (n + s.length) cap 5 (by unfold maxLen; omega)
   refine ⟨_, _, hr2, ⟨by simp [hxl], .inr ⟨w.heap.size, _, _, (0, 0), rfl, heap_alloc_new w.drew _, noFr_zero _, hge, hcm2, ?_, ?_⟩⟩, ⟨rfl, rfl, rfl, by simp, fun k hk _ => Below.heap_alloc w.drew _ k hk⟩, .inr rfl⟩
   ·have hzc : (Value.int IntKind.u8 0).cells.size = 1 := rfl
    simp only [Array.size_append, List.size_toArray, size_zeroCells, hzc, bys_length, hxl]
    omega
   ·simp only [Array.toList_append, List.append_assoc]
    rw [← List.append_assoc, ← bys_append]
    exact List.take_left' (by simp [bys_length, hxl])
def over (xs : By) (a : Nat) (d : By) : By := xs.take a ++ d ++ xs.drop (a + d.length)
theorem over_nil (xs : By) (a : Nat) : over xs a [] = xs := by simp [over]
theorem over_length (xs : By) (a : Nat) (d : By) (h : a + d.length ≤ xs.length) : (over xs a d).length = xs.length := by
 unfold over; simp; omega
theorem run_copy_str (w : World) (g cap n a m : Nat) (xs d : By) (dC : Nat) (ty : TypeId) (hown : OwnB w (.slice (some ⟨g, 0, none⟩) n cap) n xs) (ha : a ≤ n) (hm : m = min d.length (n - a)) (hm0 : 0 < m) :
  ∃ w', (Builtin.copy_ #[24, 9] ty #[.slice (some ⟨g, a, none⟩) (n - a) dC, encStr d]).run Tryz.prog w = .ok (.int .i64 m) w' ∧ OwnB w' (.slice (some ⟨g, 0, none⟩) n cap) n (over xs a (d.take m)) ∧ w.grownBy w' (some g) := by
 obtain ⟨i0, hi, hz0, hz1, hz2⟩ := info_parts Tryz.infoByte
 rcases hown.2 with ⟨e, _⟩ | ⟨g', cap', cur, fr, e, hg, hfr, hnc, hcm, hcs, htake⟩
 ·simp at e
 injection e with e1 e2 e3
 injection e1 with e1
 injection e1 with e1 _ _
 subst e1 e3
 have hxl : xs.length = n := hown.1
 have hdm : (d.take m).length = m := by simp; omega
 have hst := run_store_cells Tryz.prog g a 5 fr (bys (d.take m)) 0 cur w hg hfr (by rw [bys_length, hdm]; omega) (bys_oneCell _)
 rw [bys_length, hdm] at hst
 simp only [Nat.add_zero] at hst
 have hmin : Nat.min d.length (n - a) = m := hm.symm
 have htk : List.take m (List.map (fun b : UInt8 => Value.int IntKind.u8 (b.toNat : Int)) d) = bys (d.take m) := by simp [bys, List.map_take]
 have hsize : (cur.toList.take a ++ bys (d.take m) ++ cur.toList.drop (a + m)).toArray.size = cur.size := by
  simp only [List.size_toArray, List.length_append, List.length_take, List.length_drop, Array.length_toList, bys_length, hdm]
  omega
 refine ⟨w.setRow g (cur.toList.take a ++ bys (d.take m) ++ cur.toList.drop (a + m)).toArray, ?_, ⟨by rw [over_length xs a (d.take m) (by omega), hxl], .inr ⟨g, cap, _, fr, rfl, setRow_heap w g cur _ _ _ hg, by rw [hsize]; exact hfr, hnc, hcm, by rw [hsize]; exact hcs, ?_⟩⟩, ⟨rfl, rfl, rfl, by simp, fun k _ hk => setRow_other w g k _ (fun e => hk (by rw [e]))⟩⟩
 ·simp [Builtin.copy_, run_underlying Tryz.underlying24, Builtin.lenOf, Builtin.firstCells, sizeOf, typeInfo, hi, hz1, str_size, hmin]
  rw [htk, hst]
  simp [Result.andThen, goInt]
 ·simp only [over, bys_append, List.append_assoc]
  have h1 : cur.toList.take a = (bys xs).take a := by rw [← htake, List.take_take, Nat.min_eq_left (by omega)]
  have h2 : (cur.toList.drop (a + m)).take (n - (a + m)) = (bys xs).drop (a + m) := by rw [← htake, List.drop_take]
  have key : ∀ (X Y Z : List Value), X.length = a → Y.length = m → a + m ≤ n → (X ++ (Y ++ Z)).take n = X ++ (Y ++ Z.take (n - (a + m))) := by
   intro X Y Z hX hY hn
   rw [List.take_append, List.take_of_length_le (by omega), hX, List.take_append, List.take_of_length_le (by omega), hY, Nat.sub_sub]
  rw [key _ _ _ (by simp; omega) (by rw [bys_length, hdm]) (by omega), h1, h2]
  simp [bys, List.map_take, List.map_drop, hdm]
theorem run_copy_no (w : World) (ao : Option Addr) (dl dC : Nat) (d : By) (ty : TypeId) (h : min d.length dl = 0) :
  (Builtin.copy_ #[24, 9] ty #[.slice ao dl dC, encStr d]).run Tryz.prog w = .ok (.int .i64 0) w := by
 obtain ⟨i0, hi, hz0, hz1, hz2⟩ := info_parts Tryz.infoByte
 have hmin : Nat.min d.length dl = 0 := h
 cases ao <;> simp [Builtin.copy_, run_underlying Tryz.underlying24, Builtin.lenOf, Builtin.firstCells, sizeOf, typeInfo, hi, hz1, str_size, hmin, storeCells, goInt]
set_option maxRecDepth 100000 in
theorem Tryz.cutFrom (W : World) (ao : Option Addr) (L cap m : Nat) (hm : m ≤ L) :
  ∃ ao', (Instr.slice 24 (.slice ao L cap) (some (.int .i64 m)) none none).run Tryz.prog W = .ok (.slice ao' (L - m) (cap - m)) W ∧ (∀ g, ao = some ⟨g, 0, none⟩ → m < cap → ao' = some ⟨g, m, none⟩) := by
 have hz : (sizeOf (Tryz.prog.elem 24)).run Tryz.prog W = .ok 1 W := by kernel_rfl
 have h := run_slice_l (P := Tryz.prog) W 24 ao L cap (by kernel_rfl) .i64 m (by omega) (by omega)
 rw [h, hz]
 cases ao with
 | none => exact ⟨none, by simp [sliced], by simp⟩
 | some ad =>
  by_cases hc : cap = m
  ·exact ⟨_, by simp [sliced, hc]; rfl, fun g e h => by omega⟩
  ·refine ⟨some (ad.add m), by simp [sliced, hc], fun g e h => ?_⟩
   injection e with e
   subst e
   rw [add0]
set_option maxRecDepth 100000 in
theorem Tryz.cutTo (W : World) (ao : Option Addr) (L cap m : Nat) (hm : m ≤ cap) :
  (Instr.slice 24 (.slice ao L cap) none (some (.int .i64 m)) none).run Tryz.prog W = .ok (.slice ao m cap) W := by
 have hz : (sizeOf (Tryz.prog.elem 24)).run Tryz.prog W = .ok 1 W := by kernel_rfl
 have h := run_slice_h (P := Tryz.prog) W 24 ao L cap (by kernel_rfl) .i64 m (by omega) (by omega)
 rw [h, hz]
 cases ao <;> simp [sliced, Addr.add]
theorem own_cut {w : World} {ao : Option Addr} {n cap : Nat} {xs : By} (h : OwnB w (.slice ao n cap) n xs) (m : Nat) (hm : m ≤ n) : OwnB w (.slice ao m cap) m (xs.take m) := by
 have hl := h.1
 refine ⟨by simp; omega, ?_⟩
 rcases h.2 with ⟨e, e2⟩ | ⟨g, cap', cur, fr, e, hg, hf, hn, hc, hs, ht⟩
 ·injection e with e1 _ e3
  subst e1 e3
  have : m = 0 := by omega
  subst this
  exact .inl ⟨rfl, rfl⟩
 ·injection e with e1 _ e3
  subst e1 e3
  refine .inr ⟨g, cap, cur, fr, rfl, hg, hf, by omega, hc, hs, ?_⟩
  have := congrArg (List.take m) ht
  rw [List.take_take, Nat.min_eq_left (by omega)] at this
  rw [this]
  simp [bys, List.map_take]
theorem run_of_str (w : World) (s : By) (hb : s.length ≤ 1073741824) : ∃ v w', (convert 9 24 (encStr s)).run Tryz.prog w = .ok v w' ∧ OwnB w' v s.length s ∧ Kept [] w w' ∧ v.ownBlock = some w.heap.size ∧ (∃ c, v = .slice (some ⟨w.heap.size, 0, none⟩) s.length c) := by
 have h := run_bytes_of_string (P := Tryz.prog) w 9 24 5 ⟨s.toArray⟩ Tryz.underlying9 Tryz.underlying24 Tryz.underlying5
 rw [str_size] at h
 have hge := grownCap_ge w s.length 0 5
 have hcm : grownCap w s.length 0 5 ≤ maxLen := grownCap_le_maxLen w s.length 0 5 (by unfold maxLen; omega)
 have hrow : (bytesRow ⟨s.toArray⟩ (grownCap w s.length 0 5)).toList = bys s ++ List.replicate (grownCap w s.length 0 5 - s.length) (.int .u8 0) := by
  simp [bytesRow, bys, str_size]
 have hsz : (bytesRow ⟨s.toArray⟩ (grownCap w s.length 0 5)).size = grownCap w s.length 0 5 := by
  rw [← Array.length_toList, hrow]
  simp [bys_length]
  omega
 refine ⟨_, _, h, ⟨rfl, .inr ⟨w.heap.size, _, _, _, rfl, heap_alloc_new w.drew _, noFr_mark _, hge, hcm, hsz, ?_⟩⟩, ((Kept.refl [] w).drew).alloc _, rfl, _, rfl⟩
 rw [hrow]
 exact List.take_left' (bys_length s)
theorem run_to_str (w : World) (v : Value) (n : Nat) (xs : By) (h : OwnB w v n xs) : (convert 24 9 v).run Tryz.prog w = .ok (encStr xs) w := by
 obtain ⟨bo, bc, rfl, hn, hc, h0, h1⟩ := h.shape
 have hxl := h.1
 cases bo with
 | none =>
  obtain ⟨rfl, rfl⟩ := h0 rfl
  have : xs = [] := List.eq_nil_of_length_eq_zero hxl
  subst this
  exact Lib.run_convert_nil_bytes w 24 9 5 0 Tryz.underlying24 Tryz.underlying5 Tryz.underlying9
 | some ad =>
  obtain ⟨g, rfl⟩ := h1 ad rfl
  have hsl := h.sl
  subst hxl
  refine run_convert_bytes_back w 24 9 5 ⟨g, 0, none⟩ bc xs Tryz.underlying24 Tryz.underlying5 Tryz.underlying9 (fun j hj => ?_)
  obtain ⟨b', off', e', hcell⟩ := hsl j hj
  injection e' with e'
  injection e' with e1 e2 _
  subst e1 e2
  rw [add0]
  rw [Nat.zero_add] at hcell
  rw [hcell]
  simp [List.getElem?_eq_getElem hj]
end

section
open Go.RowKit Dsk
set_option linter.unusedVariables false
set_option linter.unusedSimpArgs false
theorem Tryz.strTo (W : World) (d : By) (m : Nat) (hm : m ≤ d.length) : (Instr.slice 9 (.string ⟨d.toArray⟩) none (some (.int .i64 m)) none).run Tryz.prog W = .ok (.string ⟨(d.take m).toArray⟩) W := by
 rw [run_slice_string_h (P := Tryz.prog) W 9 ⟨d.toArray⟩ Tryz.underlying9 .i64 m (by omega) (by rw [str_size]; omega)]
 congr 2
 apply ByteArray.ext
 simp [ByteArray.data_extract]
theorem Tryz.strFrom (W : World) (d : By) (m : Nat) (hm : m ≤ d.length) : (Instr.slice 9 (.string ⟨d.toArray⟩) (some (.int .i64 m)) none none).run Tryz.prog W = .ok (.string ⟨(d.drop m).toArray⟩) W := by
 rw [run_slice_string_l (P := Tryz.prog) W 9 ⟨d.toArray⟩ Tryz.underlying9 .i64 m (by omega) (by rw [str_size]; omega)]
 congr 2
 apply ByteArray.ext
 simp [ByteArray.data_extract, str_size]
 exact List.take_of_length_le (by simp)
set_option maxHeartbeats 800000 in
set_option maxRecDepth 100000 in
theorem writeUnits_ok (a : Nat) (d : By) (w : World) : Calls Tryz.prog 163 #[.agg #[.int .i64 a, encStr d]] w fun e w' => e = .returned (.int .i64 d.length) ∧ Kept [] w w' := by
 have hs := str_size d
 have hK := hide ((Kept.refl [] w).alloc (.cells #[.int .i64 a, encStr d] 167))
 go_enter Tryz.func163, Tryz.ntmps163
 go_wp2
 go_ret
 exact ⟨rfl, hK.out⟩
set_option maxHeartbeats 800000 in
set_option maxRecDepth 100000 in
theorem cutUnits_ok (a : Nat) (w : World) : Calls Tryz.prog 161 #[.agg #[.int .i64 a]] w fun e w' => e = .returned (.int .i64 1) ∧ Kept [] w w' := by
 have hK := hide ((Kept.refl [] w).alloc (.cells #[.int .i64 a] 148))
 go_enter Tryz.func161, Tryz.ntmps161
 go_wp2
 go_ret
 exact ⟨rfl, hK.out⟩
set_option maxHeartbeats 800000 in
set_option maxRecDepth 100000 in
theorem cutApply_ok (a u n cap : Nat) (so : Option Addr) (w : World) (ha : a ≤ n) (hn : n ≤ cap) (hb : cap ≤ maxLen) : Calls Tryz.prog 160 #[.agg #[.int .i64 a], .slice so n cap, .int .i64 u] w fun e w' => e = .returned (.slice so a cap) ∧ Kept [] w w' := by
 have hK := hide ((Kept.refl [] w).alloc (.cells #[.int .i64 a] 148))
 have hcut := fun W => Tryz.cutTo W so n cap a (by omega)
 go_enter Tryz.func160, Tryz.ntmps160
 go_wp2
 go_ret
 exact ⟨rfl, hK.out⟩
theorem wr_apply (xs d : By) (a u m : Nat) (ha : a ≤ xs.length) (hu : u ≤ d.length) (hm : m = min u (xs.length - a)) : over xs a ((d.take u).take m) ++ (d.take u).drop m = (Ch.wr a d).apply xs u := by
 unfold over
 simp only [Ch.apply]
 have hl : (d.take u).length = u := by simp; omega
 by_cases h : u ≤ xs.length - a
 ·have : m = u := by omega
  subst this
  rw [List.take_of_length_le (l := List.take m d) (by omega), List.drop_of_length_le (l := List.take m d) (by omega), List.append_nil]
 ·have : m = xs.length - a := by omega
  have h1 : ((d.take u).take m).length = m := by simp; omega
  rw [h1, hl, List.drop_of_length_le (l := xs) (by omega), List.drop_of_length_le (l := xs) (by omega), List.append_nil, List.append_nil, List.append_assoc, List.take_append_drop]
def Applied (w w' : World) (v v' : Value) (ys : By) : Prop :=
 OwnB w' v' ys.length ys ∧ Keep (fun k => v.ownBlock = some k) w w' ∧ (∀ g, v'.ownBlock = some g → v.ownBlock = some g ∨ w.heap.size ≤ g)
theorem Applied.lt {w w' : World} {v v' : Value} {ys : By} (h : Applied w w' v v' ys) {g : Nat} (hg : v'.ownBlock = some g) : g < w'.heap.size := h.1.lt hg
set_option maxHeartbeats 1600000 in
set_option maxRecDepth 100000 in
theorem writeApply_ok (a u n cap : Nat) (d xs : By) (so : Option Addr) (w : World) (hown : OwnB w (.slice so n cap) n xs) (ha : a ≤ n) (hu : u ≤ d.length) (hb : n + d.length ≤ 1073741824) :
  Calls Tryz.prog 162 #[.agg #[.int .i64 a, encStr d], .slice so n cap, .int .i64 u] w fun e w' => ∃ v', e = .returned v' ∧ Applied w w' (.slice so n cap) v' ((Ch.wr a d).apply xs u) := by
 have hxl : xs.length = n := hown.1
 have hnc : n ≤ cap := by obtain ⟨_, _, e, h, _⟩ := hown.shape; injection e with _ _ e3; omega
 obtain ⟨w0, hw0⟩ : ∃ w0, w0 = w.alloc (.cells #[.int .i64 a, encStr d] 167) := ⟨_, rfl⟩
 have hk0 : Kept [] w w0 := by rw [hw0]; exact (Kept.refl [] w).alloc _
 have hb0 : w0.heap[w.heap.size]? = some (.cells #[.int .i64 a, encStr d] 167 (0, 0)) := by rw [hw0]; exact (MapKept.heap_alloc w _).1
 have hown0 : OwnB w0 (.slice so n cap) n xs := hown.kept hk0
 obtain ⟨D, hD⟩ : ∃ D, D = d.take u := ⟨_, rfl⟩
 have hDl : D.length = u := by rw [hD]; simp; omega
 obtain ⟨m, hm⟩ : ∃ m, m = min u (xs.length - a) := ⟨_, rfl⟩
 obtain ⟨so', hc1, hc2⟩ := Tryz.cutFrom w0 so n cap a ha
 have hst := fun W => Tryz.strTo W d u hu
 rw [← hD] at hst
 have hsf := fun W => Tryz.strFrom W D m (by omega)
 have hcopy : ∃ w1, (Builtin.copy_ #[24, 9] 3 #[.slice so' (n - a) (cap - a), encStr D]).run Tryz.prog w0 = .ok (.int .i64 m) w1 ∧ OwnB w1 (.slice so n cap) n (over xs a (D.take m)) ∧ Keep (fun k => (Value.slice so n cap).ownBlock = some k) w0 w1 := by
  by_cases h0 : m = 0
  ·refine ⟨w0, ?_, ?_, Keep.refl _ _⟩
   ·rw [h0]; exact run_copy_no w0 so' (n - a) (cap - a) D 3 (by omega)
   ·rw [h0, List.take_zero, over_nil]; exact hown0
  ·obtain ⟨g, hg⟩ : ∃ g, so = some ⟨g, 0, none⟩ := by
    rcases hown.2 with ⟨e, e2⟩ | ⟨g, cap', cur, fr, e, _⟩
    ·omega
    ·injection e with e _ _; exact ⟨g, e⟩
   subst hg
   rw [hc2 g rfl (by omega)]
   obtain ⟨w1, h1, h2, h3⟩ := run_copy_str w0 g cap n a m xs D (cap - a) 3 hown0 ha (by omega) (by omega)
   exact ⟨w1, h1, h2, (Keep.refl _ w0).grown h3 (fun k e _ => e)⟩
 obtain ⟨w1, hcr, hown1, hk1⟩ := hcopy
 have happ := fun ty => run_app_str w1 (.slice so n cap) n (over xs a (D.take m)) (D.drop m) hown1 ty (by simp; omega)
 obtain ⟨v2, w2, har, hown2, hg2, hl2⟩ := happ 24
 have hfin : over xs a (D.take m) ++ D.drop m = (Ch.wr a d).apply xs u := by rw [hD]; exact wr_apply xs d a u m (by omega) hu hm
 have hso : ∀ k, (Value.slice so n cap).ownBlock = some k → k < w.heap.size := fun k hk => hown.lt hk
 have FIN : Hid (Applied w w2 (.slice so n cap) v2 ((Ch.wr a d).apply xs u)) := by
  rw [hfin] at hown2
  have hl : n + (D.drop m).length = ((Ch.wr a d).apply xs u).length := by
   have := hown2.1
   omega
  rw [hl] at hown2
  refine ⟨hown2, ((Keep.ofNone hk0).trans hk1 (fun i e _ => e)).trans ((Keep.refl (fun k => (Value.slice so n cap).ownBlock = some k) w1).grown hg2 (fun k e _ => e)) (fun i e _ => e), fun g hg => ?_⟩
  rcases hl2 with e | e
  ·rw [hg] at e; exact .inl e.symm
  ·rw [hg] at e
   injection e with e
   have := hk0.size
   have := hk1.size
   exact .inr (by omega)
 have e0 : w1.cell? ⟨w.heap.size, 0, none⟩ = some (.int .i64 a) := by
  refine hk1.cellOf (by rw [cell_of_row w0 _ 0 _ _ _ hb0]; rfl) (fun h => ?_)
  have := hso _ h
  simp at this
 have hmD : m ≤ D.length := by omega
 clear hown2 hg2 hl2 hfin happ hown1 hk1 hown0 hown hc2 hm hk0 hD hxl hDl hso
 go_enter Tryz.func162, Tryz.ntmps162
 go_upto_region 1 with (fail)
 rw [← hw0]
 have i0 : w0.cell? ⟨w.heap.size, 0, none⟩ = some (.int .i64 a) := by rw [cell_of_row w0 _ 0 _ _ _ hb0]; rfl
 have i1 : w0.cell? ⟨w.heap.size, 1, none⟩ = some (encStr d) := by rw [cell_of_row w0 _ 1 _ _ _ hb0]; rfl
 clear hb0 hw0
 go_wp2_with (first
  | (at_builtin; have Ha := hcr; refine Lib.wpList_copy_run _ rfl _ _ 24 9 rfl _ _ rfl rfl hcr ?_; clear Ha hcr)
  | (at_builtin; refine wpList_app_run rfl _ _ 24 9 rfl _ _ rfl rfl _ _ har ?_))
 go_ret
 exact ⟨v2, rfl, FIN.out⟩
end

section
open Go.RowKit Dsk
set_option linter.unusedVariables false
set_option linter.unusedSimpArgs false
theorem Tryz.infoBc : (Tryz.prog.info? 174).map (fun i => (i.zero, i.size, i.bytes)) = some (some .nilIface, 1, 16) := by kernel_rfl
theorem encCh_one (c : Ch) : (encCh c).oneCell' = true := by cases c <;> rfl
structure Th0 (w : World) (b : Nat) (rv sv : Value) (t : Th) : Prop where
 cells : w.heap[b]? = some (.cells #[encStr t.safe, rv, sv] 67 (0, 0))
 row : w.ownsRow 0 174 1 rv t.row.length (t.row.map encCh)
 shown : OwnB w sv t.shown.length t.shown
theorem ThAt.th0 {w : World} {o : Lab} {l b : Nat} {rv sv : Value} {t : Th} (h : ThAt w o l b rv sv t) : Th0 w b rv sv t := ⟨h.cells, h.row, h.shown⟩
def Loc (w : World) (v v' : Value) : Prop := ∀ g, v'.ownBlock = some g → v.ownBlock = some g ∨ w.heap.size ≤ g
def thF (b : Nat) (rv sv : Value) : Nat → Prop := fun k => k = b ∨ rv.ownBlock = some k ∨ sv.ownBlock = some k
def Mv (w w' : World) (b : Nat) (rv sv : Value) (t : Th) : Prop := ∃ rv' sv', Th0 w' b rv' sv' t ∧ Keep (thF b rv sv) w w' ∧ Loc w rv rv' ∧ Loc w sv sv'
theorem Th0.keep {F : Nat → Prop} {w w' : World} {b : Nat} {rv sv : Value} {t : Th} (h : Th0 w b rv sv t) (hk : Keep F w w') (hF : ∀ k, thF b rv sv k → ¬ F k) : Th0 w' b rv sv t :=
 ⟨hk.heapOf h.cells (hF b (.inl rfl)), own_keeps h.row hk (fun g hg => hF g (.inr (.inl hg))), h.shown.keep hk (fun g hg => hF g (.inr (.inr hg)))⟩
theorem Th0.kept {w w' : World} {b : Nat} {rv sv : Value} {t : Th} (h : Th0 w b rv sv t) (hk : Kept [] w w') : Th0 w' b rv sv t := h.keep (Keep.ofNone (F := fun _ => False) hk) (fun _ _ h => h)
theorem Th0.lt {w : World} {b : Nat} {rv sv : Value} {t : Th} (h : Th0 w b rv sv t) : b < w.heap.size := (Array.getElem?_eq_some_iff.1 h.cells).1
theorem Th0.c0 {w : World} {b : Nat} {rv sv : Value} {t : Th} (h : Th0 w b rv sv t) : w.cell? ⟨b, 0, none⟩ = some (encStr t.safe) := by rw [cell_of_row w b 0 _ _ _ h.cells]; rfl
theorem Th0.c1 {w : World} {b : Nat} {rv sv : Value} {t : Th} (h : Th0 w b rv sv t) : w.cell? ⟨b, 1, none⟩ = some rv := by rw [cell_of_row w b 1 _ _ _ h.cells]; rfl
theorem Th0.c2 {w : World} {b : Nat} {rv sv : Value} {t : Th} (h : Th0 w b rv sv t) : w.cell? ⟨b, 2, none⟩ = some sv := by rw [cell_of_row w b 2 _ _ _ h.cells]; rfl
theorem Th0.fr {w : World} {b : Nat} {rv sv : Value} {t : Th} (h : Th0 w b rv sv t) (j : Nat) : w.frozen? ⟨b, j, none⟩ = false := frozen_of_row w b j _ _ h.cells
theorem own_two {w : World} {B B' s s' : Nat} {e e' : TypeId} {v v' : Value} {n n' : Nat} {xs xs' : List Value} (h : w.ownsRow B e s v n xs) (h' : w.ownsRow B' e' s' v' n' xs') (he : e ≠ e') (k : Nat) (hk : v.ownBlock = some k) : v'.ownBlock ≠ some k := by
 intro hk'
 rcases h.2 with ⟨rfl, _⟩ | ⟨g, cap, cur, rfl, _, hg, _⟩
 ·simp [Value.ownBlock] at hk
 simp only [Value.ownBlock, Option.some.injEq] at hk
 subst hk
 exact own_ne h' hg he hk'
theorem Th0.rb {w : World} {b : Nat} {rv sv : Value} {t : Th} (h : Th0 w b rv sv t) : rv.ownBlock ≠ some b := own_ne h.row h.cells (by decide)
theorem Th0.sb {w : World} {b : Nat} {rv sv : Value} {t : Th} (h : Th0 w b rv sv t) : sv.ownBlock ≠ some b := h.shown.ne h.cells (by decide)
theorem ThAt.moved {w w' : World} {o : Lab} {l b : Nat} {rv sv : Value} {t t' : Th} (h : ThAt w o l b rv sv t) (hm : Mv w w' b rv sv t') : Tg w' (o.ext w w' l) l b t' ∧ Keep (fun k => o k = l) w w' := by
 obtain ⟨rv', sv', h0, hk, hr, hs⟩ := hm
 have hold : ∀ g, g < w.heap.size → o g = l → o.ext w w' l g = l := fun g hg e => by rw [Lab.ext_old hg]; exact e
 refine ⟨⟨rv', sv', h0.cells, h0.row, h0.shown, hold b h.lt h.lb, fun g hg => ?_, fun g hg => ?_⟩, hk.mono (fun k hk _ => ?_)⟩
 ·rcases hr g hg with e | e
  ·exact hold g (h.row.lt g e).2 (h.lr g e)
  ·exact Lab.ext_new e (h0.row.lt g hg).2
 ·rcases hs g hg with e | e
  ·exact hold g (h.shown.lt e) (h.ls g e)
  ·exact Lab.ext_new e (h0.shown.lt hg)
 ·rcases hk with rfl | e | e
  ·exact h.lb
  ·exact h.lr k e
  ·exact h.ls k e
set_option maxHeartbeats 1600000 in
set_option maxRecDepth 100000 in
theorem thingUnits_ok (b : Nat) (rv sv : Value) (t : Th) (w : World) (h : Th0 w b rv sv t) (hb : unitsOf t.row + t.row.length ≤ 1073741824) :
  Calls Tryz.prog 103 #[.pointer (some ⟨b, 0, none⟩)] w fun e w' => e = .returned (.int .i64 (unitsOf t.row)) ∧ Kept [] w w' := by
 obtain ⟨ro, rc, rfl, hrc⟩ := own_shape h.row
 have c1 := h.c1
 have HW : Hid (∀ w', Kept [] w w' → Th0 w' b (.slice ro t.row.length rc) sv t) := fun w' hk => h.kept hk
 have HB := hide hb
 clear h
 go_enter Tryz.func103, Tryz.ntmps103
 go_wp2
 generalize hL : t.row.length = L at *
 go_loopw [11, 3, 5] (fun i s _ wr => ∃ k : Nat, k ≤ L ∧ i = .int .i64 k ∧ s = .int .i64 (unitsOf (t.row.take k)) ∧ Hid (Kept [] w wr)) (fun i _ _ wr => L - (intOf i).toNat)
 case atStart => exact ⟨0, by omega, rfl, rfl, hide (Kept.refl _ _)⟩
 case round =>
  obtain ⟨k, hk, rfl, rfl, HK⟩ := hrel
  have hT := HW.out wr HK.out
  by_cases hlt : k < L
  ·obtain ⟨c, hc⟩ : ∃ c, t.row[k]? = some c := ⟨t.row[k]'(by omega), List.getElem?_eq_getElem (by omega)⟩
   obtain ⟨g, hg⟩ : ∃ g, ro = some ⟨g, 0, none⟩ := by
    rcases hT.row.2 with ⟨e, e2⟩ | ⟨g, cap, cur, e, _⟩
    ·omega
    ·injection e with e _ _; exact ⟨g, e⟩
   subst hg
   have hcell : wr.cell? ⟨g, k, none⟩ = some (encCh c) := by
    have := hT.row.cells (g := g) rfl k (encCh c) (by simp [hc])
    rwa [add0] at this
   have HU : Hid (unitsOf (t.row.take (k + 1)) = unitsOf (t.row.take k) + c.units) := by
    rw [List.take_add_one, hc]
    exact unitsOf_snoc _ _
   have hle : unitsOf (t.row.take (k + 1)) ≤ unitsOf t.row := by
    have h1 : unitsOf (t.row.take (k + 1) ++ t.row.drop (k + 1)) = unitsOf (t.row.take (k + 1)) + unitsOf (t.row.drop (k + 1)) := by
     generalize t.row.take (k + 1) = X
     generalize t.row.drop (k + 1) = Y
     induction X with
     | nil => simp [unitsOf]
     | cons x r ih => simp only [List.cons_append, unitsOf, ih]; omega
    rw [List.take_append_drop] at h1
    omega
   have hU1 : unitsOf (t.row.take k) + c.units ≤ 1073741824 := by have := HB.out; rw [← HU.out]; omega
   clear hT hc hle c1
   generalize unitsOf (t.row.take k) = U at HU hU1
   cases c with
   | wr a d =>
    simp only [encCh] at hcell
    simp only [Ch.units] at HU hU1
    have hm : ∀ w : World, (method 326 167 (.agg #[.int .i64 a, encStr d]) "freight/disk.units").run Tryz.prog w = .ok (163, .agg #[.int .i64 a, encStr d]) w := fun _ => by kernel_rfl
    have hmn : ∀ w : World, (nilAhead 326 167 (.agg #[.int .i64 a, encStr d]) "freight/disk.units").run Tryz.prog w = .ok (some false) w := fun _ => by kernel_rfl
    go_wp2_with (go_at_call 163; refine (writeUnits_ok a d _).mono ?_; rintro e w3 ⟨rfl, hk3⟩; have H3 := hide (HK.out.trans hk3 (by simp)); clear hk3 HK)
    go_roundw
    case rel => exact ⟨k + 1, by omega, by go_num, by rw [HU.out]; go_num, H3⟩
    case measure => simp [intOf]; omega
   | cut a =>
    simp only [encCh] at hcell
    simp only [Ch.units] at HU hU1
    have hm : ∀ w : World, (method 326 148 (.agg #[.int .i64 a]) "freight/disk.units").run Tryz.prog w = .ok (161, .agg #[.int .i64 a]) w := fun _ => by kernel_rfl
    have hmn : ∀ w : World, (nilAhead 326 148 (.agg #[.int .i64 a]) "freight/disk.units").run Tryz.prog w = .ok (some false) w := fun _ => by kernel_rfl
    go_wp2_with (go_at_call 161; refine (cutUnits_ok a _).mono ?_; rintro e w3 ⟨rfl, hk3⟩; have H3 := hide (HK.out.trans hk3 (by simp)); clear hk3 HK)
    go_roundw
    case rel => exact ⟨k + 1, by omega, by go_num, by rw [HU.out]; go_num, H3⟩
    case measure => simp [intOf]; omega
  ·have hkL : k = L := by omega
   have HE : Hid (t.row.take k = t.row) := hide (List.take_of_length_le (by omega))
   clear hT c1 hkL
   go_wp2
   go_ret
   exact ⟨by rw [HE.out]; rfl, HK.out⟩
end

end Go.Proofs.YteckiednnaianaaGreat
