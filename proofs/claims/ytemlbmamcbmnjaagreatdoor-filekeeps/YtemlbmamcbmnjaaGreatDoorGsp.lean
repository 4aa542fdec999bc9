/-
  Bytes in a row: append of a text, copy of a text, cuts. Contracts: write.units, cut.units, cut.apply, write.apply.
-/
import Derived.Test.YtemlbmamcbmnjaaGreatDoorOlp
import Derived.Lib.AppendStr
import Derived.Lib.BufferWrite
import Derived.Lib.SlBuf
import Derived.Lib.BufferRead
import Derived.Laws.IdiomStrings
namespace Go.Proofs.YtemlbmamcbmnjaaGreatDoor
open Go.RowKit Dsk
set_option linter.unusedVariables false
set_option linter.unusedSimpArgs false

theorem Tryz.infoByte : (Tryz.prog.info? 5).map (fun i => (i.zero, i.size, i.bytes)) = some (some (.int .u8 0), 1, 1) := by kernel_rfl
theorem strCells_bys (s : By) : Lib.strCells ⟨s.toArray⟩ = bys s := by simp [Lib.strCells, bys]
theorem str_size (s : By) : (ByteArray.mk s.toArray).size = s.length := by simp [ByteArray.size]

theorem run_store_cells (P : Program) (g o : Nat) (t : TypeId) (fz : Nat × Nat) : ∀ (vs : List Value) (i : Nat) (cur : Array Value) (w : World), w.heap[g]? = some (.cells cur t fz) → NoFr fz cur.size → o + i + vs.length ≤ cur.size → (∀ v ∈ vs, v.oneCell' = true) →
    (storeCells ⟨g, o, none⟩ vs i).run P w = .ok () (w.setRow g (cur.toList.take (o + i) ++ vs ++ cur.toList.drop (o + i + vs.length)).toArray)
  | [], i, cur, w, hg, _, _, _ => by
    simp only [storeCells, List.append_nil, List.length_nil, Nat.add_zero, List.take_append_drop, Array.toArray_toList]
    rw [setRow_self w g cur t fz hg]
    rfl
  | v :: rest, i, cur, w, hg, hfz, hl, h1 => by
    have hi : o + i < cur.size := by simp at hl; omega
    have hadd : (⟨g, o, none⟩ : Addr).add i = ⟨g, o + i, none⟩ := by unfold Addr.add; split <;> simp_all
    have hcell : w.cell? ⟨g, o + i, none⟩ = some cur[o + i] := by simp [World.cell?, hg, hi]
    have hfro : w.frozen? ⟨g, o + i, none⟩ = false := by
      obtain ⟨lo, hi'⟩ := fz
      have := hfz (o + i) hi
      simp only [World.frozen?, hg, Bool.and_eq_false_iff, decide_eq_false_iff_not]
      simp only at this
      omega
    have hst : (store ((⟨g, o, none⟩ : Addr).add i) v).run P w = .ok () (w.setRow g (cur.setIfInBounds (o + i) v)) := by
      rw [hadd, run_store P w _ v _ (h1 v (by simp)), hcell]
      simp [hfro, setCell_eq_setRow w g (o + i) cur t fz v hg]
    have ih := run_store_cells P g o t fz rest (i + 1) (cur.setIfInBounds (o + i) v) (w.setRow g (cur.setIfInBounds (o + i) v)) (setRow_heap w g cur _ t _ hg) (by simpa using hfz) (by simp at hl ⊢; omega) (fun x hx => h1 x (by simp [hx]))
    simp only [storeCells, Sem.run_bind, hst, Result.andThen_ok, ih, setRow_setRow]
    congr 3
    have e := list_seg_step cur.toList (o + i) v rest (by simp at hl ⊢; omega)
    simpa [Array.toList_setIfInBounds, Nat.add_assoc] using e

theorem run_app_str (w : World) (v : Value) (n : Nat) (xs s : By) (hown : OwnB w v n xs) (ty : TypeId) (hb : n + s.length ≤ 140737488355328) :
    ∃ v' w', (Builtin.append_ #[28, 9] ty #[v, encStr s]).run Tryz.prog w = .ok v' w' ∧ OwnB w' v' (n + s.length) (xs ++ s) ∧ w.grownBy w' v.ownBlock ∧ (v'.ownBlock = v.ownBlock ∨ v'.ownBlock = some w.heap.size) := by
  obtain ⟨i0, hi, hz0, hz1, hz2⟩ := info_parts Tryz.infoByte
  have hsz := str_size s
  have hxl := hown.1
  rcases hown.2 with ⟨rfl, rfl⟩ | ⟨g, cap, cur, fr, rfl, hg, hfr, hnc, hcm, hcs, htake⟩
  · have hx : xs = [] := List.eq_nil_of_length_eq_zero hxl
    subst hx
    have hnil : w.ownsRow 0 5 1 (.slice none 0 0) 0 (bys []) := World.ownsRow_nil w 0 5 1
    obtain ⟨v', w', hr, h2, h3, h4⟩ := Lib.run_append_own_string (P := Tryz.prog) w 0 28 9 ty 5 i0 Tryz.underlying28 Tryz.underlying9 hi hz0 hz1 hz2 _ 0 (bys []) hnil ⟨s.toArray⟩ (by rw [hsz]; unfold maxLen; omega) (by rw [hsz]; omega) (Nat.zero_le _)
    rw [hsz, strCells_bys, ← bys_append] at h2
    refine ⟨v', w', hr, OwnB.of h2, h3, ?_⟩
    by_cases hm : s.length = 0
    · rw [h4.2 ⟨rfl, by rw [hsz]; exact hm⟩]; exact .inl rfl
    · have hr2 := run_append_nil_string (P := Tryz.prog) w 28 9 ty 5 i0 (.int .u8 0) Tryz.underlying28 Tryz.underlying9 hi hz0 ⟨s.toArray⟩ (by omega) (by omega) (by rw [hz2]; omega)
      rw [hr2] at hr
      injection hr with hr _
      rw [← hr]
      exact .inr rfl
  · by_cases hroom : n + s.length ≤ cap
    · have hf := Lib.run_firstCells_string (P := Tryz.prog) w 1 ⟨s.toArray⟩
      have hst := run_store_cells Tryz.prog g n 5 fr (bys s) 0 cur w hg hfr (by rw [bys_length]; omega) (bys_oneCell s)
      simp only [Nat.add_zero, bys_length] at hst
      rw [strCells_bys] at hf
      refine ⟨.slice (some ⟨g, 0, none⟩) (n + s.length) cap, w.setRow g (cur.toList.take n ++ bys s ++ cur.toList.drop (n + s.length)).toArray, ?_, ⟨by simp [hxl], .inr ⟨g, cap, _, fr, rfl, setRow_heap w g cur _ _ _ hg, ?_, hroom, hcm, ?_, ?_⟩⟩, ⟨rfl, rfl, rfl, by simp, fun k _ hk => setRow_other w g k _ (fun e => hk (by simp [Value.ownBlock, e]))⟩, .inl rfl⟩
      · rw [hsz] at hf
        simp [Builtin.append_, run_underlying Tryz.underlying28, run_underlying Tryz.underlying9, sizeOf, typeInfo, hi, hz1, Builtin.lenOf, hsz, hroom, hf, Addr.add_lit, hst]
      · have : (cur.toList.take n ++ bys s ++ cur.toList.drop (n + s.length)).toArray.size = cur.size := by
          simp only [List.size_toArray, List.length_append, List.length_take, List.length_drop, Array.length_toList, bys_length]
          omega
        rw [this]
        exact hfr
      · simp only [List.size_toArray, List.length_append, List.length_take, List.length_drop, Array.length_toList, bys_length]
        omega
      · rw [htake, ← bys_append]
        exact List.take_left' (by simp [bys_length, hxl])
    · have hsl : ∀ j u, (bys xs)[j]? = some u → w.cell? ((⟨g, 0, none⟩ : Addr).add j) = some u := by
        intro j u hu
        rw [add0, cell_of_row w g j cur _ fr hg]
        rw [← htake, List.getElem?_take] at hu
        split at hu
        · simpa using hu
        · cases hu
      have hr2 := Lib.run_append_grow_string (P := Tryz.prog) w 28 9 ty 5 i0 (.int .u8 0) Tryz.underlying28 Tryz.underlying9 hi hz0 ⟨g, 0, none⟩ n cap (bys xs) (by rw [hz1, bys_length]; omega) hsl ⟨s.toArray⟩ (by omega) (by omega) (by rw [hz2]; exact growslice_fits (by omega) (by omega))
      rw [hsz, strCells_bys] at hr2
      have hge := grownCap_ge w (n + s.length) cap 5
      have hcm2 : grownCap w (n + s.length) cap 5 ≤ maxLen := grownCap_le_maxLen w (n + s.length) cap 5 (by unfold maxLen; omega)
      refine ⟨_, _, hr2, ⟨by simp [hxl], .inr ⟨w.heap.size, _, _, (0, 0), rfl, heap_alloc_new w.drew _, noFr_zero _, hge, hcm2, ?_, ?_⟩⟩, ⟨rfl, rfl, rfl, by simp, fun k hk _ => Below.heap_alloc w.drew _ k hk⟩, .inr rfl⟩
      · have hzc : (Value.int IntKind.u8 0).cells.size = 1 := rfl
        simp only [Array.size_append, List.size_toArray, size_zeroCells, hzc, bys_length, hxl]
        omega
      · simp only [Array.toList_append, List.append_assoc]
        rw [← List.append_assoc, ← bys_append]
        exact List.take_left' (by simp [bys_length, hxl])

/-- What copy leaves. -/
def over (xs : By) (a : Nat) (d : By) : By := xs.take a ++ d ++ xs.drop (a + d.length)
theorem over_nil (xs : By) (a : Nat) : over xs a [] = xs := by simp [over]
theorem over_length (xs : By) (a : Nat) (d : By) (h : a + d.length ≤ xs.length) : (over xs a d).length = xs.length := by
  unfold over; simp; omega

theorem run_copy_str (w : World) (g cap n a m : Nat) (xs d : By) (dC : Nat) (ty : TypeId) (hown : OwnB w (.slice (some ⟨g, 0, none⟩) n cap) n xs) (ha : a ≤ n) (hm : m = min d.length (n - a)) (hm0 : 0 < m) :
    ∃ w', (Builtin.copy_ #[28, 9] ty #[.slice (some ⟨g, a, none⟩) (n - a) dC, encStr d]).run Tryz.prog w = .ok (.int .i64 m) w' ∧ OwnB w' (.slice (some ⟨g, 0, none⟩) n cap) n (over xs a (d.take m)) ∧ w.grownBy w' (some g) := by
  obtain ⟨i0, hi, hz0, hz1, hz2⟩ := info_parts Tryz.infoByte
  rcases hown.2 with ⟨e, _⟩ | ⟨g', cap', cur, fr, e, hg, hfr, hnc, hcm, hcs, htake⟩
  · simp at e
  injection e with e1 e2 e3
  injection e1 with e1
  injection e1 with e1 _ _
  subst e1 e3
  have hxl : xs.length = n := hown.1
  have hdm : (d.take m).length = m := by simp; omega
  have hst := run_store_cells Tryz.prog g a 5 fr (bys (d.take m)) 0 cur w hg hfr (by rw [bys_length, hdm]; omega) (bys_oneCell _)
  rw [bys_length, hdm] at hst
  simp only [Nat.add_zero] at hst
  have hmin : Nat.min d.length (n - a) = m := hm.symm
  have htk : List.take m (List.map (fun b : UInt8 => Value.int IntKind.u8 (b.toNat : Int)) d) = bys (d.take m) := by simp [bys, List.map_take]
  have hsize : (cur.toList.take a ++ bys (d.take m) ++ cur.toList.drop (a + m)).toArray.size = cur.size := by
    simp only [List.size_toArray, List.length_append, List.length_take, List.length_drop, Array.length_toList, bys_length, hdm]
    omega
  refine ⟨w.setRow g (cur.toList.take a ++ bys (d.take m) ++ cur.toList.drop (a + m)).toArray, ?_, ⟨by rw [over_length xs a (d.take m) (by omega), hxl], .inr ⟨g, cap, _, fr, rfl, setRow_heap w g cur _ _ _ hg, by rw [hsize]; exact hfr, hnc, hcm, by rw [hsize]; exact hcs, ?_⟩⟩, ⟨rfl, rfl, rfl, by simp, fun k _ hk => setRow_other w g k _ (fun e => hk (by rw [e]))⟩⟩
  · simp [Builtin.copy_, run_underlying Tryz.underlying28, Builtin.lenOf, Builtin.firstCells, sizeOf, typeInfo, hi, hz1, str_size, hmin]
    rw [htk, hst]
    simp [Result.andThen, goInt]
  · simp only [over, bys_append, List.append_assoc]
    have h1 : cur.toList.take a = (bys xs).take a := by rw [← htake, List.take_take, Nat.min_eq_left (by omega)]
    have h2 : (cur.toList.drop (a + m)).take (n - (a + m)) = (bys xs).drop (a + m) := by rw [← htake, List.drop_take]
    have key : ∀ (X Y Z : List Value), X.length = a → Y.length = m → a + m ≤ n → (X ++ (Y ++ Z)).take n = X ++ (Y ++ Z.take (n - (a + m))) := by
      intro X Y Z hX hY hn
      rw [List.take_append, List.take_of_length_le (by omega), hX, List.take_append, List.take_of_length_le (by omega), hY, Nat.sub_sub]
    rw [key _ _ _ (by simp; omega) (by rw [bys_length, hdm]) (by omega), h1, h2]
    simp [bys, List.map_take, List.map_drop, hdm]
theorem run_copy_no (w : World) (ao : Option Addr) (dl dC : Nat) (d : By) (ty : TypeId) (h : min d.length dl = 0) :
    (Builtin.copy_ #[28, 9] ty #[.slice ao dl dC, encStr d]).run Tryz.prog w = .ok (.int .i64 0) w := by
  obtain ⟨i0, hi, hz0, hz1, hz2⟩ := info_parts Tryz.infoByte
  have hmin : Nat.min d.length dl = 0 := h
  cases ao <;> simp [Builtin.copy_, run_underlying Tryz.underlying28, Builtin.lenOf, Builtin.firstCells, sizeOf, typeInfo, hi, hz1, str_size, hmin, storeCells, goInt]

set_option maxRecDepth 100000 in
theorem Tryz.cutFrom (W : World) (ao : Option Addr) (L cap m : Nat) (hm : m ≤ L) :
    ∃ ao', (Instr.slice 28 (.slice ao L cap) (some (.int .i64 m)) none none).run Tryz.prog W = .ok (.slice ao' (L - m) (cap - m)) W ∧ (∀ g, ao = some ⟨g, 0, none⟩ → m < cap → ao' = some ⟨g, m, none⟩) := by
  have hz : (sizeOf (Tryz.prog.elem 28)).run Tryz.prog W = .ok 1 W := by kernel_rfl
  have h := run_slice_l (P := Tryz.prog) W 28 ao L cap (by kernel_rfl) .i64 m (by omega) (by omega)
  rw [h, hz]
  cases ao with
  | none => exact ⟨none, by simp [sliced], by simp⟩
  | some ad =>
    by_cases hc : cap = m
    · exact ⟨_, by simp [sliced, hc]; rfl, fun g e h => by omega⟩
    · refine ⟨some (ad.add m), by simp [sliced, hc], fun g e h => ?_⟩
      injection e with e
      subst e
      rw [add0]
set_option maxRecDepth 100000 in
theorem Tryz.cutTo (W : World) (ao : Option Addr) (L cap m : Nat) (hm : m ≤ cap) :
    (Instr.slice 28 (.slice ao L cap) none (some (.int .i64 m)) none).run Tryz.prog W = .ok (.slice ao m cap) W := by
  have hz : (sizeOf (Tryz.prog.elem 28)).run Tryz.prog W = .ok 1 W := by kernel_rfl
  have h := run_slice_h (P := Tryz.prog) W 28 ao L cap (by kernel_rfl) .i64 m (by omega) (by omega)
  rw [h, hz]
  cases ao <;> simp [sliced, Addr.add]
theorem own_cut {w : World} {ao : Option Addr} {n cap : Nat} {xs : By} (h : OwnB w (.slice ao n cap) n xs) (m : Nat) (hm : m ≤ n) : OwnB w (.slice ao m cap) m (xs.take m) := by
  have hl := h.1
  refine ⟨by simp; omega, ?_⟩
  rcases h.2 with ⟨e, e2⟩ | ⟨g, cap', cur, fr, e, hg, hf, hn, hc, hs, ht⟩
  · injection e with e1 _ e3
    subst e1 e3
    have : m = 0 := by omega
    subst this
    exact .inl ⟨rfl, rfl⟩
  · injection e with e1 _ e3
    subst e1 e3
    refine .inr ⟨g, cap, cur, fr, rfl, hg, hf, by omega, hc, hs, ?_⟩
    have := congrArg (List.take m) ht
    rw [List.take_take, Nat.min_eq_left (by omega)] at this
    rw [this]
    simp [bys, List.map_take]
/-- []byte(s). -/
theorem run_of_str (w : World) (s : By) (hb : s.length ≤ 1073741824) : ∃ v w', (convert 9 28 (encStr s)).run Tryz.prog w = .ok v w' ∧ OwnB w' v s.length s ∧ Kept [] w w' ∧ v.ownBlock = some w.heap.size ∧ (∃ c, v = .slice (some ⟨w.heap.size, 0, none⟩) s.length c) := by
  have h := run_bytes_of_string (P := Tryz.prog) w 9 28 5 ⟨s.toArray⟩ Tryz.underlying9 Tryz.underlying28 Tryz.underlying5
  rw [str_size] at h
  have hge := grownCap_ge w s.length 0 5
  have hcm : grownCap w s.length 0 5 ≤ maxLen := grownCap_le_maxLen w s.length 0 5 (by unfold maxLen; omega)
  have hrow : (bytesRow ⟨s.toArray⟩ (grownCap w s.length 0 5)).toList = bys s ++ List.replicate (grownCap w s.length 0 5 - s.length) (.int .u8 0) := by
    simp [bytesRow, bys, str_size]
  have hsz : (bytesRow ⟨s.toArray⟩ (grownCap w s.length 0 5)).size = grownCap w s.length 0 5 := by
    rw [← Array.length_toList, hrow]
    simp [bys_length]
    omega
  refine ⟨_, _, h, ⟨rfl, .inr ⟨w.heap.size, _, _, _, rfl, heap_alloc_new w.drew _, noFr_mark _, hge, hcm, hsz, ?_⟩⟩, ((Kept.refl [] w).drew).alloc _, rfl, _, rfl⟩
  rw [hrow]
  exact List.take_left' (bys_length s)
/-- string(b). -/
theorem run_to_str (w : World) (v : Value) (n : Nat) (xs : By) (h : OwnB w v n xs) : (convert 28 9 v).run Tryz.prog w = .ok (encStr xs) w := by
  obtain ⟨bo, bc, rfl, hn, hc, h0, h1⟩ := h.shape
  have hxl := h.1
  cases bo with
  | none =>
    obtain ⟨rfl, rfl⟩ := h0 rfl
    have : xs = [] := List.eq_nil_of_length_eq_zero hxl
    subst this
    exact Lib.run_convert_nil_bytes w 28 9 5 0 Tryz.underlying28 Tryz.underlying5 Tryz.underlying9
  | some ad =>
    obtain ⟨g, rfl⟩ := h1 ad rfl
    have hsl := h.sl
    subst hxl
    refine run_convert_bytes_back w 28 9 5 ⟨g, 0, none⟩ bc xs Tryz.underlying28 Tryz.underlying5 Tryz.underlying9 (fun j hj => ?_)
    obtain ⟨b', off', e', hcell⟩ := hsl j hj
    injection e' with e'
    injection e' with e1 e2 _
    subst e1 e2
    rw [add0]
    rw [Nat.zero_add] at hcell
    rw [hcell]
    simp [List.getElem?_eq_getElem hj]
end Go.Proofs.YtemlbmamcbmnjaaGreatDoor
