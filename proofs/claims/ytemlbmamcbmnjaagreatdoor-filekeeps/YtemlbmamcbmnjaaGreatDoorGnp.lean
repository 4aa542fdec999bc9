/-
  Contracts: strings.IndexByte, isName, round, pickAt.
-/
import Derived.Test.YtemlbmamcbmnjaaGreatDoorOlp
import Derived.Deep.QuietTactic
import Derived.BigQuiet
import Derived.WalkArith
import Derived.Lib.Bytealg
import Derived.Laws.Externs
import Derived.ProofKit
namespace Go.Proofs.YtemlbmamcbmnjaaGreatDoor
open Go.RowKit Dsk
set_option linter.unusedVariables false
set_option linter.unusedSimpArgs false


theorem Tryz.signAt (t : List UInt8) (j : Nat) (hj : j < t.length) (W : World) : (Instr.index 9 (.string ⟨t.toArray⟩) (.int .i64 j)).run Tryz.prog W = .ok (.int .u8 (t.getD j 0).toNat) W := by
  rw [run_index_string (P := Tryz.prog) W 9 ⟨t.toArray⟩ .i64 j Tryz.underlying9]
  have hs : (ByteArray.mk t.toArray).size = t.length := by simp [ByteArray.size]
  rw [dif_pos (by rw [hs]; omega)]
  congr 3
  show ((t.toArray)[(j : Int).toNat]'_).toNat = _
  simp [List.getElem?_eq_getElem hj]

set_option maxHeartbeats 800000 in
set_option maxRecDepth 100000 in
theorem liteIndex_ok (s : By) (c : UInt8) (w : World) : Calls Tryz.prog 132 #[.string ⟨s.toArray⟩, .int .u8 c.toNat] w fun e w' => e = .returned (.int .i64 (Lib.indexByte s c)) ∧ w' = w := by
  go_enter Tryz.func132, Tryz.ntmps132
  go_wp2
  rw [run_callFunc_extern Tryz.func136 (by kernel_rfl) (by kernel_rfl) (by kernel_rfl) (e := Extern.BytealgIndexByte.indexByte) (by kernel_rfl), Lib.run_indexByteString]
  have : ((c.toNat : Int).toNat.toUInt8) = c := by simp
  rw [this]
  simp only [Result.andThen]
  rw [Oper.upon_value]
  go_wp2
  go_ret
  exact ⟨rfl, rfl⟩

set_option maxHeartbeats 800000 in
set_option maxRecDepth 100000 in
theorem indexByte_ok (s : By) (c : UInt8) (w : World) : Calls Tryz.prog 117 #[.string ⟨s.toArray⟩, .int .u8 c.toNat] w fun e w' => e = .returned (.int .i64 (Lib.indexByte s c)) ∧ w' = w := by
  go_enter Tryz.func117, Tryz.ntmps117
  go_wp2_with (go_at_call 132; refine (liteIndex_ok s c _).mono ?_; rintro e w' ⟨rfl, rfl⟩)
  go_ret
  exact ⟨rfl, rfl⟩

def nameBs : By := [97, 98, 99, 100, 101, 102, 103, 104, 105, 106, 107, 108, 109, 110, 111, 112, 113, 114, 115, 116, 117, 118, 119, 120, 121, 122, 48, 49, 50, 51, 52, 53, 54, 55, 56, 57, 46, 45, 95, 43]
theorem index_neg (l : By) (c : UInt8) : Lib.indexByte l c < 0 ↔ c ∉ l := by
  induction l with
  | nil => simp [Lib.indexByte]
  | cons b r ih =>
    have hge := Lib.indexByte_ge r c
    by_cases e : b = c
    · subst e; simp [Lib.indexByte]
    · have e' : (b == c) = false := by simpa using e
      simp only [Lib.indexByte, e', Bool.false_eq_true, if_false, List.mem_cons, not_or]
      by_cases h1 : Lib.indexByte r c = -1
      · have : c ∉ r := ih.1 (by omega)
        simp [h1, this, Ne.symm e]
      · have h2 : ¬ Lib.indexByte r c < 0 := by omega
        have h3 : (Lib.indexByte r c == -1) = false := by simpa using h1
        rw [h3]
        have h4 : ¬ (c ∉ r) := fun h => h2 (ih.2 h)
        constructor
        · intro h; simp at h; omega
        · rintro ⟨_, h⟩; exact absurd h h4
theorem okByte_mem (c : UInt8) : okByte c = true ↔ c ∈ nameBs := by
  have h : ∀ n : Fin 256, okByte (UInt8.ofNat n.val) = nameBs.contains (UInt8.ofNat n.val) := by decide +kernel
  have h2 := h ⟨c.toNat, c.toNat_lt⟩
  simp only [UInt8.ofNat_toNat] at h2
  rw [h2]
  simp
theorem okByte_index (c : UInt8) : decide (Lib.indexByte nameBs c < 0) = !okByte c := by
  cases h : okByte c
  · have : c ∉ nameBs := fun hm => by rw [(okByte_mem c).2 hm] at h; cases h
    simp [(index_neg _ _).2 this]
  · have : c ∈ nameBs := (okByte_mem c).1 h
    have h2 : ¬ Lib.indexByte nameBs c < 0 := fun hn => (index_neg _ _).1 hn this
    simp only [Bool.not_true, decide_eq_false_iff_not]
    exact h2

set_option maxHeartbeats 800000 in
set_option maxRecDepth 100000 in
theorem isName_ok (t : By) (w : World) (hm : t.length ≤ 4611686018427387904) : Calls Tryz.prog 95 #[.string ⟨t.toArray⟩] w fun e w' => e = .returned (.bool (isNm t)) ∧ w' = w := by
  have hbs : (ByteArray.mk t.toArray).size = t.length := by simp [ByteArray.size]
  have hsz : t.toArray.size = t.length := by simp
  go_enter Tryz.func95, Tryz.ntmps95
  by_cases h1 : t.length < 1
  · have hf : isNm t = false := by unfold isNm; simp only [Bool.and_eq_false_iff, decide_eq_false_iff_not]; left; left; omega
    have HF := hide hf
    clear hf
    go_wp2
    go_ret
    exact ⟨by rw [HF.out]; rfl, rfl⟩
  by_cases h2 : 112 < t.length
  · have hf : isNm t = false := by unfold isNm; simp only [Bool.and_eq_false_iff, decide_eq_false_iff_not]; left; right; omega
    have HF := hide hf
    clear hf
    go_wp2
    go_ret
    exact ⟨by rw [HF.out]; rfl, rfl⟩
  have hall : isNm t = t.all okByte := by unfold isNm; simp [show 1 ≤ t.length by omega, show t.length ≤ 112 by omega]
  have HA := hide hall
  clear hall
  go_wp2
  go_loopw [14, 3] (fun i _ wr => ∃ k : Nat, k ≤ t.length ∧ i = .int .i64 k ∧ wr = w ∧ Hid ((t.take k).all okByte = true)) (fun i _ wr => t.length - (intOf i).toNat)
  case atStart => exact ⟨0, by omega, rfl, rfl, by show _ = _; simp⟩
  case round =>
    obtain ⟨k, hk, rfl, rfl, HR⟩ := hrel
    by_cases hlt : k < t.length
    · have s0 := fun W => Tryz.signAt t k hlt W
      have hc := okByte_index (t.getD k 0)
      have hix : ∀ W, Calls Tryz.prog 117 #[.string ⟨#[97, 98, 99, 100, 101, 102, 103, 104, 105, 106, 107, 108, 109, 110, 111, 112, 113, 114, 115, 116, 117, 118, 119, 120, 121, 122, 48, 49, 50, 51, 52, 53, 54, 55, 56, 57, 46, 45, 95, 43]⟩, .int .u8 (t.getD k 0).toNat] W fun e w' => e = .returned (.int .i64 (Lib.indexByte nameBs (t.getD k 0))) ∧ w' = W := fun W => indexByte_ok nameBs (t.getD k 0) W
      have hx1 : -1 ≤ Lib.indexByte nameBs (t.getD k 0) := Lib.indexByte_ge _ _
      have HG : Hid (t.take (k + 1) = t.take k ++ [t.getD k 0]) := by
        show _ = _
        rw [List.take_succ_eq_append_getElem hlt]
        simp [List.getElem?_eq_getElem hlt]
      have HM : Hid (t.getD k 0 ∈ t) := by
        show _ ∈ _
        simp [List.getElem?_eq_getElem hlt]
      generalize t.getD k 0 = c at s0 hc hix hx1 HG HM
      generalize Lib.indexByte nameBs c = x at hc hix hx1
      cases hok : okByte c
      · rw [hok] at hc
        have hxn : x < 0 := by simpa using hc
        have HO : Hid (isNm t = false) := by
          rw [HA.out]
          show _ = _
          rw [Bool.eq_iff_iff]
          simp only [List.all_eq_true]
          constructor
          · intro h; have := h c HM.out; rw [hok] at this; cases this
          · intro h; cases h
        clear hc hok
        go_wp2_with (go_at_call 117; refine (hix _).mono ?_; rintro e w' ⟨rfl, rfl⟩)
        go_ret
        exact ⟨by rw [HO.out]; rfl, rfl⟩
      · rw [hok] at hc
        have hxn : ¬ x < 0 := by simpa using hc
        have HO := hide hok
        clear hc hok
        go_wp2_with (go_at_call 117; refine (hix _).mono ?_; rintro e w' ⟨rfl, rfl⟩)
        go_roundw
        case rel => exact ⟨k + 1, by omega, by go_num, trivial, hide (by rw [HG.out, List.all_append, HR.out]; simp [HO.out])⟩
        case measure => simp [intOf]; omega
    · go_wp2
      go_ret
      refine ⟨?_, rfl⟩
      rw [HA.out]
      have := HR.out
      rw [List.take_of_length_le (by omega)] at this
      rw [this]
      rfl

theorem rnd_go (p : Int) (n : Nat) : ((p.tmod ((n : Int) + 1)) + ((n : Int) + 1)).tmod ((n : Int) + 1) = (rnd p n : Int) := by
  unfold rnd
  have hp : (0 : Int) < (n : Int) + 1 := by omega
  have h0 := Int.emod_nonneg p (b := (n : Int) + 1) (by omega)
  have h1 : (0 : Int) ≤ p.tmod ((n : Int) + 1) + ((n : Int) + 1) := by
    have := Int.lt_tmod_of_pos p hp
    omega
  rw [Int.tmod_eq_emod_of_nonneg h1, Int.add_emod_right]
  rw [Int.toNat_of_nonneg h0]
  rw [Int.tmod_eq_emod]
  split
  · simp
  · have e : (((n : Int) + 1).natAbs : Int) = (n : Int) + 1 := by omega
    rw [e]
    simp [Int.sub_emod]
set_option maxHeartbeats 800000 in
set_option maxRecDepth 100000 in
theorem round_ok (p : Int) (n : Nat) (w : World) (hp : (Lit.int .i64 p).wf = true) (hn : n ≤ 1073741824) : Calls Tryz.prog 110 #[.int .i64 p, .int .i64 n] w fun e w' => e = .returned (.int .i64 (rnd p n)) ∧ w' = w := by
  have hg := hide (rnd_go p n)
  have hb : -((n : Int) + 1) < p.tmod ((n : Int) + 1) ∧ p.tmod ((n : Int) + 1) < (n : Int) + 1 := ⟨Int.lt_tmod_of_pos p (by omega), Int.tmod_lt_of_pos p (by omega)⟩
  have hw : Hid (wrap64 (p.tmod ((n : Int) + 1) + ((n : Int) + 1)) = p.tmod ((n : Int) + 1) + ((n : Int) + 1)) := by
    show wrap64 (p.tmod ((n : Int) + 1) + ((n : Int) + 1)) = p.tmod ((n : Int) + 1) + ((n : Int) + 1)
    unfold wrap64
    omega
  clear hb
  go_enter Tryz.func110, Tryz.ntmps110
  go_wp2
  go_ret
  refine ⟨?_, rfl⟩
  show Ending.returned (.int .i64 ((wrap64 (p.tmod ((n : Int) + 1) + ((n : Int) + 1))).tmod ((n : Int) + 1))) = _
  rw [hw.out, hg.out]

/-- A row of picks. -/
def Ints (w : World) (ao : Option Addr) (ps : List Int) : Prop := ∀ i, i < ps.length → ∃ b off, ao = some ⟨b, off, none⟩ ∧ w.cell? ⟨b, off + i, none⟩ = some (.int .i64 (ps.getD i 0))
theorem Ints.kept {F : Nat → Prop} {w w' : World} {ao : Option Addr} {ps : List Int} (h : Ints w ao ps) (hk : Keep F w w') (hn : ps ≠ [] → ∀ a, ao = some a → ¬ F a.block) : Ints w' ao ps := by
  intro i hi
  obtain ⟨b, off, rfl, hc⟩ := h i hi
  exact ⟨b, off, rfl, hk.cellOf hc (hn (by rintro rfl; simp at hi) ⟨b, off, none⟩ rfl)⟩

set_option maxHeartbeats 800000 in
set_option maxRecDepth 100000 in
theorem pickAt_ok (ao : Option Addr) (n c : Nat) (ps : List Int) (i : Nat) (w : World) (hn : ps.length = n) (hm : n ≤ 17592186044416) (hi : i ≤ 1073741824) (h : Ints w ao ps) :
    Calls Tryz.prog 69 #[.slice ao n c, .int .i64 i] w fun e w' => e = .returned (.int .i64 (ps.getD i 0)) ∧ w' = w := by
  go_enter Tryz.func69, Tryz.ntmps69
  by_cases hlt : i < n
  · obtain ⟨b, off, rfl, hc⟩ := h i (by omega)
    clear h
    generalize ps.getD i 0 = x at hc
    go_wp2
    go_ret
    exact ⟨rfl, rfl⟩
  · have he : Hid (ps.getD i 0 = 0) := hide (by simp [List.getElem?_eq_none (show ps.length ≤ i by omega)])
    clear h
    go_wp2
    go_ret
    exact ⟨by rw [he.out]; rfl, rfl⟩
end Go.Proofs.YtemlbmamcbmnjaaGreatDoor
