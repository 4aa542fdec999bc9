import Derived.Test.YtodihkdmneihiaaGreatDoorGmp
import Derived.Deep.QuietTactic
import Derived.BigQuiet
import Derived.WalkArith
import Derived.Lib.Bytealg
import Derived.Laws.Externs
import Derived.ProofKit
import Derived.Lib.AppendStr
import Derived.Lib.BufferWrite
import Derived.Lib.SlBuf
import Derived.Lib.BufferRead
import Derived.Laws.IdiomStrings
import Derived.Test.YtodihkdmneihiaaGreatDoorKap
namespace Go.Proofs.YtodihkdmneihiaaGreatDoor
section
open Go.RowKit Dsk
set_option linter.unusedVariables false
set_option linter.unusedSimpArgs false
theorem Tryz.signAt (t : List UInt8) (j : Nat) (hj : j < t.length) (W : World) : (Instr.index 9 (.string ⟨t.toArray⟩) (.int .i64 j)).run Tryz.prog W = .ok (.int .u8 (t.getD j 0).toNat) W := by
 rw [run_index_string (P := Tryz.prog) W 9 ⟨t.toArray⟩ .i64 j Tryz.underlying9]
 have hs : (ByteArray.mk t.toArray).size = t.length := by simp [ByteArray.size]
 rw [dif_pos (by rw [hs]; omega)]
 congr 3
 show ((t.toArray)[(j : Int).toNat]'_).toNat = _
 simp [List.getElem?_eq_getElem hj]
set_option maxHeartbeats 800000 in
set_option maxRecDepth 100000 in
theorem liteIndex_ok (s : By) (c : UInt8) (w : World) : Calls Tryz.prog 117 #[.string ⟨s.toArray⟩, .int .u8 c.toNat] w fun e w' => e = .returned (.int .i64 (Lib.indexByte s c)) ∧ w' = w := by
 go_enter Tryz.func117, Tryz.ntmps117
 go_wp2
 rw [run_callFunc_extern Tryz.func124 (by kernel_rfl) (by kernel_rfl) (by kernel_rfl) (e := Extern.BytealgIndexByte.indexByte) (by kernel_rfl), Lib.run_indexByteString]
 have : ((c.toNat : Int).toNat.toUInt8) = c := by simp
 rw [this]
 simp only [Result.andThen]
 rw [Oper.upon_value]
 go_wp2
 go_ret
 exact ⟨rfl, rfl⟩
set_option maxHeartbeats 800000 in
set_option maxRecDepth 100000 in
theorem indexByte_ok (s : By) (c : UInt8) (w : World) : Calls Tryz.prog 99 #[.string ⟨s.toArray⟩, .int .u8 c.toNat] w fun e w' => e = .returned (.int .i64 (Lib.indexByte s c)) ∧ w' = w := by
 go_enter Tryz.func99, Tryz.ntmps99
 go_wp2_with (go_at_call 117; refine (liteIndex_ok s c _).mono ?_; rintro e w' ⟨rfl, rfl⟩)
 go_ret
 exact ⟨rfl, rfl⟩
def nameBs : By := [97, 98, 99, 100, 101, 102, 103, 104, 105, 106, 107, 108, 109, 110, 111, 112, 113, 114, 115, 116, 117, 118, 119, 120, 121, 122, 48, 49, 50, 51, 52, 53, 54, 55, 56, 57, 46, 45, 95, 43]
theorem index_neg (l : By) (c : UInt8) : Lib.indexByte l c < 0 ↔ c ∉ l := by
 induction l with
 | nil => simp [Lib.indexByte]
 | cons b r ih =>
  have hge := Lib.indexByte_ge r c
  by_cases e : b = c
  ·subst e; simp [Lib.indexByte]
  ·have e' : (b == c) = false := by simpa using e
   simp only [Lib.indexByte, e', Bool.false_eq_true, if_false, List.mem_cons, not_or]
   by_cases h1 : Lib.indexByte r c = -1
   ·have : c ∉ r := ih.1 (by omega)
    simp [h1, this, Ne.symm e]
   ·have h2 : ¬ Lib.indexByte r c < 0 := by omega
    have h3 : (Lib.indexByte r c == -1) = false := by simpa using h1
    rw [h3]
    have h4 : ¬ (c ∉ r) := fun h => h2 (ih.2 h)
    constructor
    ·intro h; simp at h; omega
    ·rintro ⟨_, h⟩; exact absurd h h4
theorem okByte_mem (c : UInt8) : okByte c = true ↔ c ∈ nameBs := by
 have h : ∀ n : Fin 256, okByte (UInt8.ofNat n.val) = nameBs.contains (UInt8.ofNat n.val) := by decide +kernel
 have h2 := h ⟨c.toNat, c.toNat_lt⟩
 simp only [UInt8.ofNat_toNat] at h2
 rw [h2]
 simp
theorem okByte_index (c : UInt8) : decide (Lib.indexByte nameBs c < 0) = !okByte c := by
 cases h : okByte c
 ·have : c ∉ nameBs := fun hm => by rw [(okByte_mem c).2 hm] at h; cases h
  simp [(index_neg _ _).2 this]
 ·have : c ∈ nameBs := (okByte_mem c).1 h
  have h2 : ¬ Lib.indexByte nameBs c < 0 := fun hn => (index_neg _ _).1 hn this
  simp only [Bool.not_true, decide_eq_false_iff_not]
  exact h2
set_option maxHeartbeats 800000 in
set_option maxRecDepth 100000 in
theorem isName_ok (t : By) (w : World) (hm : t.length ≤ 4611686018427387904) : Calls Tryz.prog 80 #[.string ⟨t.toArray⟩] w fun e w' => e = .returned (.bool (isNm t)) ∧ w' = w := by
 have hbs : (ByteArray.mk t.toArray).size = t.length := by simp [ByteArray.size]
 have hsz : t.toArray.size = t.length := by simp
 go_enter Tryz.func80, Tryz.ntmps80
 by_cases h1 : t.length < 1
 ·have hf : isNm t = false := by unfold isNm; simp only [Bool.and_eq_false_iff, decide_eq_false_iff_not]; left; left; omega
  have HF := hide hf
  clear hf
  go_wp2
  go_ret
  exact ⟨by rw [HF.out]; rfl, rfl⟩
 by_cases h2 : 112 < t.length
 ·have hf : isNm t = false := by unfold isNm; simp only [Bool.and_eq_false_iff, decide_eq_false_iff_not]; left; right; omega
  have HF := hide hf
  clear hf
  go_wp2
  go_ret
  exact ⟨by rw [HF.out]; rfl, rfl⟩
 have hall : isNm t = t.all okByte := by unfold isNm; simp [show 1 ≤ t.length by omega, show t.length ≤ 112 by omega]
 have HA := hide hall
 clear hall
 go_wp2
 go_loopw [14, 3] (fun i _ wr => ∃ k : Nat, k ≤ t.length ∧ i = .int .i64 k ∧ wr = w ∧ Hid ((t.take k).all okByte = true)) (fun i _ wr => t.length - (intOf i).toNat)
 case atStart => exact ⟨0, by omega, rfl, rfl, by show _ = _; simp⟩
 case round =>
  obtain ⟨k, hk, rfl, rfl, HR⟩ := hrel
  by_cases hlt : k < t.length
  ·have s0 := fun W => Tryz.signAt t k hlt W
   have hc := okByte_index (t.getD k 0)
   have hix : ∀ W, Calls Tryz.prog 99 #[.string ⟨#[97, 98, 99, 100, 101, 102, 103, 104, 105, 106, 107, 108, 109, 110, 111, 112, 113, 114, 115, 116, 117, 118, 119, 120, 121, 122, 48, 49, 50, 51, 52, 53, 54, 55, 56, 57, 46, 45, 95, 43]⟩, .int .u8 (t.getD k 0).toNat] W fun e w' => e = .returned (.int .i64 (Lib.indexByte nameBs (t.getD k 0))) ∧ w' = W := fun W => indexByte_ok nameBs (t.getD k 0) W
   have hx1 : -1 ≤ Lib.indexByte nameBs (t.getD k 0) := Lib.indexByte_ge _ _
   have HG : Hid (t.take (k + 1) = t.take k ++ [t.getD k 0]) := by
    show _ = _
    rw [List.take_succ_eq_append_getElem hlt]
    simp [List.getElem?_eq_getElem hlt]
   have HM : Hid (t.getD k 0 ∈ t) := by
    show _ ∈ _
    simp [List.getElem?_eq_getElem hlt]
   generalize t.getD k 0 = c at s0 hc hix hx1 HG HM
   generalize Lib.indexByte nameBs c = x at hc hix hx1
   cases hok : okByte c
   ·rw [hok] at hc
    have hxn : x < 0 := by simpa using hc
    have HO : Hid (isNm t = false) := by
     rw [HA.out]
     show _ = _
     rw [Bool.eq_iff_iff]
     simp only [List.all_eq_true]
     constructor
     ·intro h; have := h c HM.out; rw [hok] at this; cases this
     ·intro h; cases h
    clear hc hok
    go_wp2_with (go_at_call 99; refine (hix _).mono ?_; rintro e w' ⟨rfl, rfl⟩)
    go_ret
    exact ⟨by rw [HO.out]; rfl, rfl⟩
   ·rw [hok] at hc
    have hxn : ¬ x < 0 := by simpa using hc
    have HO := hide hok
    clear hc hok
    go_wp2_with (go_at_call 99; refine (hix _).mono ?_; rintro e w' ⟨rfl, rfl⟩)
    go_roundw
    case rel => exact ⟨k + 1, by omega, by go_num, trivial, hide (by rw [HG.out, List.all_append, HR.out]; simp [HO.out])⟩
    case measure => simp [intOf]; omega
  ·go_wp2
   go_ret
   refine ⟨?_, rfl⟩
   rw [HA.out]
   have := HR.out
   rw [List.take_of_length_le (by omega)] at this
   rw [this]
   rfl
theorem rnd_go (p : Int) (n : Nat) : ((p.tmod ((n : Int) + 1)) + ((n : Int) + 1)).tmod ((n : Int) + 1) = (rnd p n : Int) := by
 unfold rnd
 have hp : (0 : Int) < (n : Int) + 1 := by omega
 have h0 := Int.emod_nonneg p (b := (n : Int) + 1) (by omega)
 have h1 : (0 : Int) ≤ p.tmod ((n : Int) + 1) + ((n : Int) + 1) := by
  have := Int.lt_tmod_of_pos p hp
  omega
 rw [Int.tmod_eq_emod_of_nonneg h1, Int.add_emod_right]
 rw [Int.toNat_of_nonneg h0]
 rw [Int.tmod_eq_emod]
 split
 ·simp
 ·have e : (((n : Int) + 1).natAbs : Int) = (n : Int) + 1 := by omega
  rw [e]
  simp [Int.sub_emod]
set_option maxHeartbeats 800000 in
set_option maxRecDepth 100000 in
theorem round_ok (p : Int) (n : Nat) (w : World) (hp : (Lit.int .i64 p).wf = true) (hn : n ≤ 1073741824) : Calls Tryz.prog 111 #[.int .i64 p, .int .i64 n] w fun e w' => e = .returned (.int .i64 (rnd p n)) ∧ w' = w := by
 have hg := hide (rnd_go p n)
 have hb : -((n : Int) + 1) < p.tmod ((n : Int) + 1) ∧ p.tmod ((n : Int) + 1) < (n : Int) + 1 := ⟨Int.lt_tmod_of_pos p (by omega), Int.tmod_lt_of_pos p (by omega)⟩
 have hw : Hid (wrap64 (p.tmod ((n : Int) + 1) + ((n : Int) + 1)) = p.tmod ((n : Int) + 1) + ((n : Int) + 1)) := by
  show wrap64 (p.tmod ((n : Int) + 1) + ((n : Int) + 1)) = p.tmod ((n : Int) + 1) + ((n : Int) + 1)
  unfold wrap64
  omega
 clear hb
 go_enter Tryz.func111, Tryz.ntmps111
 go_wp2
 go_ret
 refine ⟨?_, rfl⟩
 show Ending.returned (.int .i64 ((wrap64 (p.tmod ((n : Int) + 1) + ((n : Int) + 1))).tmod ((n : Int) + 1))) = _
 rw [hw.out, hg.out]
def Ints (w : World) (ao : Option Addr) (ps : List Int) : Prop := ∀ i, i < ps.length → ∃ b off, ao = some ⟨b, off, none⟩ ∧ w.cell? ⟨b, off + i, none⟩ = some (.int .i64 (ps.getD i 0))
theorem Ints.kept {F : Nat → Prop} {w w' : World} {ao : Option Addr} {ps : List Int} (h : Ints w ao ps) (hk : Keep F w w') (hn : ps ≠ [] → ∀ a, ao = some a → ¬ F a.block) : Ints w' ao ps := by
 intro i hi
 obtain ⟨b, off, rfl, hc⟩ := h i hi
 exact ⟨b, off, rfl, hk.cellOf hc (hn (by rintro rfl; simp at hi) ⟨b, off, none⟩ rfl)⟩
set_option maxHeartbeats 800000 in
set_option maxRecDepth 100000 in
theorem pickAt_ok (ao : Option Addr) (n c : Nat) (ps : List Int) (i : Nat) (w : World) (hn : ps.length = n) (hm : n ≤ 17592186044416) (hi : i ≤ 1073741824) (h : Ints w ao ps) :
  Calls Tryz.prog 86 #[.slice ao n c, .int .i64 i] w fun e w' => e = .returned (.int .i64 (ps.getD i 0)) ∧ w' = w := by
 go_enter Tryz.func86, Tryz.ntmps86
 by_cases hlt : i < n
 ·obtain ⟨b, off, rfl, hc⟩ := h i (by omega)
  clear h
  generalize ps.getD i 0 = x at hc
  go_wp2
  go_ret
  exact ⟨rfl, rfl⟩
 ·have he : Hid (ps.getD i 0 = 0) := hide (by simp [List.getElem?_eq_none (show ps.length ≤ i by omega)])
  clear h
  go_wp2
  go_ret
  exact ⟨by rw [he.out]; rfl, rfl⟩
end

section
open Go.RowKit Dsk
set_option linter.unusedVariables false
set_option linter.unusedSimpArgs false
theorem Tryz.infoByte : (Tryz.prog.info? 5).map (fun i => (i.zero, i.size, i.bytes)) = some (some (.int .u8 0), 1, 1) := by kernel_rfl
theorem strCells_bys (s : By) : Lib.strCells ⟨s.toArray⟩ = bys s := by simp [Lib.strCells, bys]
theorem str_size (s : By) : (ByteArray.mk s.toArray).size = s.length := by simp [ByteArray.size]
theorem run_store_cells (P : Program) (g o : Nat) (t : TypeId) (fz : Nat × Nat) : ∀ (vs : List Value) (i : Nat) (cur : Array Value) (w : World), w.heap[g]? = some (.cells cur t fz) → NoFr fz cur.size → o + i + vs.length ≤ cur.size → (∀ v ∈ vs, v.oneCell' = true) →
  (storeCells ⟨g, o, none⟩ vs i).run P w = .ok () (w.setRow g (cur.toList.take (o + i) ++ vs ++ cur.toList.drop (o + i + vs.length)).toArray)
 | [], i, cur, w, hg, _, _, _ => by
  simp only [storeCells, List.append_nil, List.length_nil, Nat.add_zero, List.take_append_drop, Array.toArray_toList]
  rw [setRow_self w g cur t fz hg]
  rfl
 | v :: rest, i, cur, w, hg, hfz, hl, h1 => by
  have hi : o + i < cur.size := by simp at hl; omega
  have hadd : (⟨g, o, none⟩ : Addr).add i = ⟨g, o + i, none⟩ := by unfold Addr.add; split <;> simp_all
  have hcell : w.cell? ⟨g, o + i, none⟩ = some cur[o + i] := by simp [World.cell?, hg, hi]
  have hfro : w.frozen? ⟨g, o + i, none⟩ = false := by
   obtain ⟨lo, hi'⟩ := fz
   have := hfz (o + i) hi
   simp only [World.frozen?, hg, Bool.and_eq_false_iff, decide_eq_false_iff_not]
   simp only at this
   omega
  have hst : (store ((⟨g, o, none⟩ : Addr).add i) v).run P w = .ok () (w.setRow g (cur.setIfInBounds (o + i) v)) := by
   rw [hadd, run_store P w _ v _ (h1 v (by simp)), hcell]
   simp [hfro, setCell_eq_setRow w g (o + i) cur t fz v hg]
  have ih := run_store_cells P g o t fz rest (i + 1) (cur.setIfInBounds (o + i) v) (w.setRow g (cur.setIfInBounds (o + i) v)) (setRow_heap w g cur _ t _ hg) (by simpa using hfz) (by simp at hl ⊢; omega) (fun x hx => h1 x (by simp [hx]))
  simp only [storeCells, Sem.run_bind, hst, Result.andThen_ok, ih, setRow_setRow]
  congr 3
  have e := list_seg_step cur.toList (o + i) v rest (by simp at hl ⊢; omega)
  simpa [Array.toList_setIfInBounds, Nat.add_assoc] using e
theorem run_app_str (w : World) (v : Value) (n : Nat) (xs s : By) (hown : OwnB w v n xs) (ty : TypeId) (hb : n + s.length ≤ 140737488355328) :
  ∃ v' w', (Builtin.append_ #[28, 9] ty #[v, encStr s]).run Tryz.prog w = .ok v' w' ∧ OwnB w' v' (n + s.length) (xs ++ s) ∧ w.grownBy w' v.ownBlock ∧ (v'.ownBlock = v.ownBlock ∨ v'.ownBlock = some w.heap.size) := by
 obtain ⟨i0, hi, hz0, hz1, hz2⟩ := info_parts Tryz.infoByte
 have hsz := str_size s
 have hxl := hown.1
 rcases hown.2 with ⟨rfl, rfl⟩ | ⟨g, cap, cur, fr, rfl, hg, hfr, hnc, hcm, hcs, htake⟩
 ·have hx : xs = [] := List.eq_nil_of_length_eq_zero hxl
  subst hx
  have hnil : w.ownsRow 0 5 1 (.slice none 0 0) 0 (bys []) := World.ownsRow_nil w 0 5 1
  obtain ⟨v', w', hr, h2, h3, h4⟩ := Lib.run_append_own_string (P := Tryz.prog) w 0 28 9 ty 5 i0 Tryz.underlying28 Tryz.underlying9 hi hz0 hz1 hz2 _ 0 (bys []) hnil ⟨s.toArray⟩ (by rw [hsz]; unfold maxLen; omega) (by rw [hsz]; omega) (Nat.zero_le _)
  rw [hsz, strCells_bys, ← bys_append] at h2
  refine ⟨v', w', hr, OwnB.of h2, h3, ?_⟩
  by_cases hm : s.length = 0
  ·rw [h4.2 ⟨rfl, by rw [hsz]; exact hm⟩]; exact .inl rfl
  ·have hr2 := run_append_nil_string (P := Tryz.prog) w 28 9 ty 5 i0 (.int .u8 0) Tryz.underlying28 Tryz.underlying9 hi hz0 ⟨s.toArray⟩ (by omega) (by omega) (by rw [hz2]; omega)
   rw [hr2] at hr
   injection hr with hr _
   rw [← hr]
   exact .inr rfl
 ·by_cases hroom : n + s.length ≤ cap
  ·have hf := Lib.run_firstCells_string (P := Tryz.prog) w 1 ⟨s.toArray⟩
   have hst := run_store_cells Tryz.prog g n 5 fr (bys s) 0 cur w hg hfr (by rw [bys_length]; omega) (bys_oneCell s)
   simp only [Nat.add_zero, bys_length] at hst
   rw [strCells_bys] at hf
   refine ⟨.slice (some ⟨g, 0, none⟩) (n + s.length) cap, w.setRow g (cur.toList.take n ++ bys s ++ cur.toList.drop (n + s.length)).toArray, ?_, ⟨by simp [hxl], .inr ⟨g, cap, _, fr, rfl, setRow_heap w g cur _ _ _ hg, ?_, hroom, hcm, ?_, ?_⟩⟩, ⟨rfl, rfl, rfl, by simp, fun k _ hk => setRow_other w g k _ (fun e => hk (by simp [Value.ownBlock, e]))⟩, .inl rfl⟩
   ·rw [hsz] at hf
    simp [Builtin.append_, run_underlying Tryz.underlying28, run_underlying Tryz.underlying9, sizeOf, typeInfo, hi, hz1, Builtin.lenOf, hsz, hroom, hf, Addr.add_lit, hst]
   ·have : (cur.toList.take n ++ bys s ++ cur.toList.drop (n + s.length)).toArray.size = cur.size := by
     simp only [List.size_toArray, List.length_append, List.length_take, List.length_drop, Array.length_toList, bys_length]
     omega
    rw [this]
    exact hfr
   ·simp only [List.size_toArray, List.length_append, List.length_take, List.length_drop, Array.length_toList, bys_length]
    omega
   ·rw [htake, ← bys_append]
    exact List.take_left' (by simp [bys_length, hxl])
  ·have hsl : ∀ j u, (bys xs)[j]? = some u → w.cell? ((⟨g, 0, none⟩ : Addr).add j) = some u := by
    intro j u hu
    rw [add0, cell_of_row w g j cur _ fr hg]
    rw [← htake, List.getElem?_take] at hu
    split at hu
    ·simpa using hu
    ·cases hu
   have hr2 := Lib.run_append_grow_string (P := Tryz.prog) w 28 9 ty 5 i0 (.int .u8 0) Tryz.underlying28 Tryz.underlying9 hi hz0 ⟨g, 0, none⟩ n cap (bys xs) (by rw [hz1, bys_length]; omega) hsl ⟨s.toArray⟩ (by omega) (by omega) (by rw [hz2]; exact growslice_fits (by omega) (by omega))
   rw [hsz, strCells_bys] at hr2
   have hge := grownCap_ge w (n + s.length) cap 5
   have hcm2 : grownCap w (n + s.length) cap 5 ≤ maxLen := grownCap_le_maxLen w (n + s.length) cap 5 (by unfold maxLen; omega)
   refine ⟨_, _, hr2, ⟨by simp [hxl], .inr ⟨w.heap.size, _, _, (0, 0), rfl, heap_alloc_new w.drew _, noFr_zero _, hge, hcm2, ?_, ?_⟩⟩, ⟨rfl, rfl, rfl, by simp, fun k hk _ => Below.heap_alloc w.drew _ k hk⟩, .inr rfl⟩
   ·have hzc : (Value.int IntKind.u8 0).cells.size = 1 := rfl
    simp only [Array.size_append, List.size_toArray, size_zeroCells, hzc, bys_length, hxl]
    omega
   ·simp only [Array.toList_append, List.append_assoc]
    rw [← List.append_assoc, ← bys_append]
    exact List.take_left' (by simp [bys_length, hxl])
def over (xs : By) (a : Nat) (d : By) : By := xs.take a ++ d ++ xs.drop (a + d.length)
theorem over_nil (xs : By) (a : Nat) : over xs a [] = xs := by simp [over]
theorem over_length (xs : By) (a : Nat) (d : By) (h : a + d.length ≤ xs.length) : (over xs a d).length = xs.length := by
 unfold over; simp; omega
theorem run_copy_str (w : World) (g cap n a m : Nat) (xs d : By) (dC : Nat) (ty : TypeId) (hown : OwnB w (.slice (some ⟨g, 0, none⟩) n cap) n xs) (ha : a ≤ n) (hm : m = min d.length (n - a)) (hm0 : 0 < m) :
  ∃ w', (Builtin.copy_ #[28, 9] ty #[.slice (some ⟨g, a, none⟩) (n - a) dC, encStr d]).run Tryz.prog w = .ok (.int .i64 m) w' ∧ OwnB w' (.slice (some ⟨g, 0, none⟩) n cap) n (over xs a (d.take m)) ∧ w.grownBy w' (some g) := by
 obtain ⟨i0, hi, hz0, hz1, hz2⟩ := info_parts Tryz.infoByte
 rcases hown.2 with ⟨e, _⟩ | ⟨g', cap', cur, fr, e, hg, hfr, hnc, hcm, hcs, htake⟩
 ·simp at e
 injection e with e1 e2 e3
 injection e1 with e1
 injection e1 with e1 _ _
 subst e1 e3
 have hxl : xs.length = n := hown.1
 have hdm : (d.take m).length = m := by simp; omega
 have hst := run_store_cells Tryz.prog g a 5 fr (bys (d.take m)) 0 cur w hg hfr (by rw [bys_length, hdm]; omega) (bys_oneCell _)
 rw [bys_length, hdm] at hst
 simp only [Nat.add_zero] at hst
 have hmin : Nat.min d.length (n - a) = m := hm.symm
 have htk : List.take m (List.map (fun b : UInt8 => Value.int IntKind.u8 (b.toNat : Int)) d) = bys (d.take m) := by simp [bys, List.map_take]
 have hsize : (cur.toList.take a ++ bys (d.take m) ++ cur.toList.drop (a + m)).toArray.size = cur.size := by
  simp only [List.size_toArray, List.length_append, List.length_take, List.length_drop, Array.length_toList, bys_length, hdm]
  omega
 refine ⟨w.setRow g (cur.toList.take a ++ bys (d.take m) ++ cur.toList.drop (a + m)).toArray, ?_, ⟨by rw [over_length xs a (d.take m) (by omega), hxl], .inr ⟨g, cap, _, fr, rfl, setRow_heap w g cur _ _ _ hg, by rw [hsize]; exact hfr, hnc, hcm, by rw [hsize]; exact hcs, ?_⟩⟩, ⟨rfl, rfl, rfl, by simp, fun k _ hk => setRow_other w g k _ (fun e => hk (by rw [e]))⟩⟩
 ·simp [Builtin.copy_, run_underlying Tryz.underlying28, Builtin.lenOf, Builtin.firstCells, sizeOf, typeInfo, hi, hz1, str_size, hmin]
  rw [htk, hst]
  simp [Result.andThen, goInt]
 ·simp only [over, bys_append, List.append_assoc]
  have h1 : cur.toList.take a = (bys xs).take a := by rw [← htake, List.take_take, Nat.min_eq_left (by omega)]
  have h2 : (cur.toList.drop (a + m)).take (n - (a + m)) = (bys xs).drop (a + m) := by rw [← htake, List.drop_take]
  have key : ∀ (X Y Z : List Value), X.length = a → Y.length = m → a + m ≤ n → (X ++ (Y ++ Z)).take n = X ++ (Y ++ Z.take (n - (a + m))) := by
   intro X Y Z hX hY hn
   rw [List.take_append, List.take_of_length_le (by omega), hX, List.take_append, List.take_of_length_le (by omega), hY, Nat.sub_sub]
  rw [key _ _ _ (by simp; omega) (by rw [bys_length, hdm]) (by omega), h1, h2]
  simp [bys, List.map_take, List.map_drop, hdm]
theorem run_copy_no (w : World) (ao : Option Addr) (dl dC : Nat) (d : By) (ty : TypeId) (h : min d.length dl = 0) :
  (Builtin.copy_ #[28, 9] ty #[.slice ao dl dC, encStr d]).run Tryz.prog w = .ok (.int .i64 0) w := by
 obtain ⟨i0, hi, hz0, hz1, hz2⟩ := info_parts Tryz.infoByte
 have hmin : Nat.min d.length dl = 0 := h
 cases ao <;> simp [Builtin.copy_, run_underlying Tryz.underlying28, Builtin.lenOf, Builtin.firstCells, sizeOf, typeInfo, hi, hz1, str_size, hmin, storeCells, goInt]
set_option maxRecDepth 100000 in
theorem Tryz.cutFrom (W : World) (ao : Option Addr) (L cap m : Nat) (hm : m ≤ L) :
  ∃ ao', (Instr.slice 28 (.slice ao L cap) (some (.int .i64 m)) none none).run Tryz.prog W = .ok (.slice ao' (L - m) (cap - m)) W ∧ (∀ g, ao = some ⟨g, 0, none⟩ → m < cap → ao' = some ⟨g, m, none⟩) := by
 have hz : (sizeOf (Tryz.prog.elem 28)).run Tryz.prog W = .ok 1 W := by kernel_rfl
 have h := run_slice_l (P := Tryz.prog) W 28 ao L cap (by kernel_rfl) .i64 m (by omega) (by omega)
 rw [h, hz]
 cases ao with
 | none => exact ⟨none, by simp [sliced], by simp⟩
 | some ad =>
  by_cases hc : cap = m
  ·exact ⟨_, by simp [sliced, hc]; rfl, fun g e h => by omega⟩
  ·refine ⟨some (ad.add m), by simp [sliced, hc], fun g e h => ?_⟩
   injection e with e
   subst e
   rw [add0]
set_option maxRecDepth 100000 in
theorem Tryz.cutTo (W : World) (ao : Option Addr) (L cap m : Nat) (hm : m ≤ cap) :
  (Instr.slice 28 (.slice ao L cap) none (some (.int .i64 m)) none).run Tryz.prog W = .ok (.slice ao m cap) W := by
 have hz : (sizeOf (Tryz.prog.elem 28)).run Tryz.prog W = .ok 1 W := by kernel_rfl
 have h := run_slice_h (P := Tryz.prog) W 28 ao L cap (by kernel_rfl) .i64 m (by omega) (by omega)
 rw [h, hz]
 cases ao <;> simp [sliced, Addr.add]
theorem own_cut {w : World} {ao : Option Addr} {n cap : Nat} {xs : By} (h : OwnB w (.slice ao n cap) n xs) (m : Nat) (hm : m ≤ n) : OwnB w (.slice ao m cap) m (xs.take m) := by
 have hl := h.1
 refine ⟨by simp; omega, ?_⟩
 rcases h.2 with ⟨e, e2⟩ | ⟨g, cap', cur, fr, e, hg, hf, hn, hc, hs, ht⟩
 ·injection e with e1 _ e3
  subst e1 e3
  have : m = 0 := by omega
  subst this
  exact .inl ⟨rfl, rfl⟩
 ·injection e with e1 _ e3
  subst e1 e3
  refine .inr ⟨g, cap, cur, fr, rfl, hg, hf, by omega, hc, hs, ?_⟩
  have := congrArg (List.take m) ht
  rw [List.take_take, Nat.min_eq_left (by omega)] at this
  rw [this]
  simp [bys, List.map_take]
theorem run_of_str (w : World) (s : By) (hb : s.length ≤ 1073741824) : ∃ v w', (convert 9 28 (encStr s)).run Tryz.prog w = .ok v w' ∧ OwnB w' v s.length s ∧ Kept [] w w' ∧ v.ownBlock = some w.heap.size ∧ (∃ c, v = .slice (some ⟨w.heap.size, 0, none⟩) s.length c) := by
 have h := run_bytes_of_string (P := Tryz.prog) w 9 28 5 ⟨s.toArray⟩ Tryz.underlying9 Tryz.underlying28 Tryz.underlying5
 rw [str_size] at h
 have hge := grownCap_ge w s.length 0 5
 have hcm : grownCap w s.length 0 5 ≤ maxLen := grownCap_le_maxLen w s.length 0 5 (by unfold maxLen; omega)
 have hrow : (bytesRow ⟨s.toArray⟩ (grownCap w s.length 0 5)).toList = bys s ++ List.replicate (grownCap w s.length 0 5 - s.length) (.int .u8 0) := by
  simp [bytesRow, bys, str_size]
 have hsz : (bytesRow ⟨s.toArray⟩ (grownCap w s.length 0 5)).size = grownCap w s.length 0 5 := by
  rw [← Array.length_toList, hrow]
  simp [bys_length]
  omega
 refine ⟨_, _, h, ⟨rfl, .inr ⟨w.heap.size, _, _, _, rfl, heap_alloc_new w.drew _, noFr_mark _, hge, hcm, hsz, ?_⟩⟩, ((Kept.refl [] w).drew).alloc _, rfl, _, rfl⟩
 rw [hrow]
 exact List.take_left' (bys_length s)
theorem run_to_str (w : World) (v : Value) (n : Nat) (xs : By) (h : OwnB w v n xs) : (convert 28 9 v).run Tryz.prog w = .ok (encStr xs) w := by
 obtain ⟨bo, bc, rfl, hn, hc, h0, h1⟩ := h.shape
 have hxl := h.1
 cases bo with
 | none =>
  obtain ⟨rfl, rfl⟩ := h0 rfl
  have : xs = [] := List.eq_nil_of_length_eq_zero hxl
  subst this
  exact Lib.run_convert_nil_bytes w 28 9 5 0 Tryz.underlying28 Tryz.underlying5 Tryz.underlying9
 | some ad =>
  obtain ⟨g, rfl⟩ := h1 ad rfl
  have hsl := h.sl
  subst hxl
  refine run_convert_bytes_back w 28 9 5 ⟨g, 0, none⟩ bc xs Tryz.underlying28 Tryz.underlying5 Tryz.underlying9 (fun j hj => ?_)
  obtain ⟨b', off', e', hcell⟩ := hsl j hj
  injection e' with e'
  injection e' with e1 e2 _
  subst e1 e2
  rw [add0]
  rw [Nat.zero_add] at hcell
  rw [hcell]
  simp [List.getElem?_eq_getElem hj]
end

section
open Go.RowKit Dsk
set_option linter.unusedVariables false
set_option linter.unusedSimpArgs false
theorem nms_cell {w : World} {A : Nat → Nat} {l : Nm} {vo : Option Addr} {n vc : Nat} (h : w.ownsRow 0 139 2 (.slice vo n vc) l.length (nmsV A l)) {i : Nat} {p : By × Nat} (hi : l[i]? = some p) :
  ∃ g, vo = some ⟨g, 0, none⟩ ∧ w.cell? ⟨g, i * 2, none⟩ = some (encStr p.1) ∧ w.cell? ⟨g, i * 2 + 1, none⟩ = some (.pointer (some ⟨A p.2, 0, none⟩)) := by
 obtain ⟨g, hg⟩ : ∃ g, vo = some ⟨g, 0, none⟩ := by
  rcases h.2 with ⟨e, e2⟩ | ⟨g, cap, cur, e, _⟩
  ·have := (List.getElem?_eq_some_iff.1 hi).1; omega
  ·injection e with e _ _; exact ⟨g, e⟩
 subst hg
 obtain ⟨h1, h2⟩ := nmsV_at A l i p hi
 refine ⟨g, rfl, ?_, ?_⟩
 ·have := h.cells (g := g) rfl (2 * i) _ h1
  rw [add0, Nat.mul_comm] at this
  exact this
 ·have := h.cells (g := g) rfl (2 * i + 1) _ h2
  rw [add0, Nat.mul_comm] at this
  exact this
set_option maxHeartbeats 1600000 in
set_option maxRecDepth 100000 in
theorem rfind_ok (vo : Option Addr) (m vc : Nat) (A : Nat → Nat) (l : Nm) (n : By) (w : World) (hl : l.length = m) (hm : m ≤ 1073741824) (h : w.ownsRow 0 139 2 (.slice vo m vc) m (nmsV A l)) :
  Calls Tryz.prog 71 #[.slice vo m vc, encStr n] w fun e w' => e = .returned (.int .i64 (fix l n)) ∧ w' = w := by
 have HL := hide hl
 have HO : Hid (w.ownsRow 0 139 2 (.slice vo m vc) l.length (nmsV A l)) := hide (by rw [hl]; exact h)
 clear hl h
 go_enter Tryz.func71, Tryz.ntmps71
 go_wp2
 go_loopw [5] (fun i wr => ∃ k : Nat, k ≤ m ∧ i = .int .i64 k ∧ wr = w ∧ Hid (∀ j p, j < k → l[j]? = some p → p.1 ≠ n)) (fun i wr => m - (intOf i).toNat)
 case atStart => exact ⟨0, by omega, rfl, rfl, hide (fun j p hj => absurd hj (Nat.not_lt_zero _))⟩
 case round =>
  obtain ⟨k, hk, rfl, hwr, HR⟩ := hrel
  obtain rfl := hwr.symm
  by_cases hlt : k < m
  ·obtain ⟨⟨x, id⟩, hp⟩ : ∃ q, l[k]? = some q := ⟨l[k]'(by rw [HL.out]; exact hlt), List.getElem?_eq_getElem _⟩
   obtain ⟨g, rfl, hc, _⟩ := nms_cell HO.out hp
   by_cases e : x = n
   ·subst e
    have HF : Hid (fix l x = k) := hide (fix_at hp HR.out)
    clear hp
    go_wp2
    go_ret
    exact ⟨by rw [HF.out]; rfl, rfl⟩
   ·have HR2 : Hid (∀ j p, j < k + 1 → l[j]? = some p → p.1 ≠ n) := hide (fun j p hj hjp => by
     by_cases hjk : j < k
     ·exact HR.out j p hjk hjp
     ·obtain rfl : j = k := by omega
      rw [hp] at hjp
      injection hjp with hjp
      rw [← hjp]
      exact e)
    have he : (x == n) = false := by simpa using e
    clear hp HR e
    go_wp2
    go_roundw
    case rel => exact ⟨k + 1, by omega, by go_num, trivial, HR2⟩
    case measure => simp [intOf]; omega
  ·have HF : Hid (fix l n = -1) := hide (fix_miss (fun p hp => by
    obtain ⟨j, hj, e⟩ := List.getElem_of_mem hp
    exact HR.out j p (by have := HL.out; omega) (by rw [List.getElem?_eq_getElem hj, e])))
   go_wp2
   go_ret
   exact ⟨by rw [HF.out]; rfl, rfl⟩
set_option maxHeartbeats 1600000 in
set_option maxRecDepth 100000 in
theorem runits_ok (c : Ch) (dv : Value) (w : World) (h : ChD w (c, dv)) : Calls Tryz.prog 90 #[.agg #[.bool (isCut c), .int .i64 c.place, dv]] w fun e w' => e = .returned (.int .i64 c.units) ∧ Kept [] w w' := by
 cases c with
 | cut a =>
  have HK := hide ((Kept.refl [] w).alloc (.cells #[.bool true, .int .i64 a, dv] 144))
  simp only [isCut, Ch.place, Ch.units]
  clear h
  go_enter Tryz.func90, Tryz.ntmps90
  go_wp2
  go_ret
  exact ⟨rfl, HK.out⟩
 | wr a x =>
  obtain ⟨bo, bc, e, hn, hc, _⟩ := OwnB.shape (show OwnB w dv x.length x from h)
  subst e
  have HK := hide ((Kept.refl [] w).alloc (.cells #[.bool false, .int .i64 a, .slice bo x.length bc] 144))
  simp only [isCut, Ch.place, Ch.units]
  clear h
  go_enter Tryz.func90, Tryz.ntmps90
  go_wp2
  go_ret
  exact ⟨rfl, HK.out⟩
set_option maxHeartbeats 1600000 in
set_option maxRecDepth 100000 in
theorem rround_ok (ao : Option Addr) (m c : Nat) (ps : List Int) (k n : Nat) (w : World) (hl : ps.length = m) (hm : m ≤ 17592186044416) (hk : k ≤ 1073741824) (hn : n ≤ 1073741824) (h : Ints w ao ps) (hwf : ∀ p ∈ ps, (Lit.int .i64 p).wf = true) :
  Calls Tryz.prog 89 #[.slice ao m c, .int .i64 k, .int .i64 n] w fun e w' => e = .returned (.int .i64 (rnd (ps.getD k 0) n)) ∧ w' = w := by
 by_cases hlt : k < m
 ·obtain ⟨b, off, rfl, hc⟩ := h k (by omega)
  have hp : (Lit.int .i64 (ps.getD k 0)).wf = true := hwf _ (by
   rw [List.getD_eq_getElem?_getD, List.getElem?_eq_getElem (by omega)]
   exact List.getElem_mem _)
  generalize ps.getD k 0 = p at hc hp
  have hb : -((n : Int) + 1) < p.tmod ((n : Int) + 1) ∧ p.tmod ((n : Int) + 1) < (n : Int) + 1 := ⟨Int.lt_tmod_of_pos p (by omega), Int.tmod_lt_of_pos p (by omega)⟩
  have hg : Hid ((rnd p n : Int) = if p.tmod ((n : Int) + 1) < 0 then p.tmod ((n : Int) + 1) + n + 1 else p.tmod ((n : Int) + 1)) := hide (by
   unfold rnd
   have h0 := Int.emod_nonneg p (b := (n : Int) + 1) (by omega)
   rw [Int.toNat_of_nonneg h0]
   have h1 := Int.emod_lt_of_pos p (b := (n : Int) + 1) (by omega)
   rw [Int.tmod_eq_emod]
   have e : (((n : Int) + 1).natAbs : Int) = (n : Int) + 1 := by omega
   by_cases hz : 0 ≤ p ∨ ((n : Int) + 1) ∣ p
   ·rw [if_pos hz]; rw [if_neg (by omega)]; omega
   ·rw [if_neg hz, e, if_pos (by omega)]; omega)
  clear h hwf
  obtain ⟨x, hx⟩ : ∃ x, x = p.tmod ((n : Int) + 1) := ⟨_, rfl⟩
  rw [← hx] at hb hg
  have HX := hide hx.symm
  have hx' := hx.symm
  clear hx
  obtain ⟨hb1, hb2⟩ := hb
  go_enter Tryz.func89, Tryz.ntmps89
  by_cases hneg : x < 0
  ·rw [if_pos hneg] at hg
   go_wp2
   go_ret
   exact ⟨by rw [hg.out]; rfl, rfl⟩
  ·rw [if_neg hneg] at hg
   go_wp2
   go_ret
   exact ⟨by rw [hg.out]; rfl, rfl⟩
 ·have he : Hid (ps.getD k 0 = 0) := hide (by simp [List.getElem?_eq_none (show ps.length ≤ k by omega)])
  have hr : Hid (rnd 0 n = 0) := hide (by simp [rnd])
  clear h hwf
  go_enter Tryz.func89, Tryz.ntmps89
  go_wp2
  go_ret
  exact ⟨by rw [he.out, hr.out]; rfl, rfl⟩
end

end Go.Proofs.YtodihkdmneihiaaGreatDoor
