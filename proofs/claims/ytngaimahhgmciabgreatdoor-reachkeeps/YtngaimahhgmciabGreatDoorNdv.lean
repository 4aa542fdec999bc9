import Derived.Test.YtngaimahhgmciabGreatDoorNav
import Derived.Lib.OthersKept
import Derived.Lib.DecodeNEq
import Derived.Deep.QuietTactic
import Derived.BigQuiet
import Derived.Defers
import Derived.Recover
import Derived.Laws.BitsAllLaws
import Derived.Test.YtngaimahhgmciabGreatDoorProg
import Derived.Test.YtngaimahhgmciabGreatDoorMemv
import Derived.Deep.MidRow
import Derived.StillTailTactics
import Derived.Deep.RegionHeld3
import Derived.Laws.CopyOwn
namespace Go.Proofs.YtngaimahhgmciabGreatDoor
section
open Go.RowKit
set_option linter.unusedVariables false
set_option linter.unusedSimpArgs false

theorem ext_drop (L : List UInt8) (k : Nat) : (ByteArray.mk L.toArray).extract k L.length = ByteArray.mk (L.drop k).toArray := by
  apply ByteArray.ext
  simp
  exact List.take_of_length_le (by simp)
theorem by_drop (L : List UInt8) (k j : Nat) : Tn.by' (L.drop k) j = Tn.by' L (k + j) := by simp [Tn.by', List.getD]
namespace Tn
theorem valid_nil : valid [] = false := rfl
theorem valid_long {L : List UInt8} (h : 32 < L.length) : valid L = false := by simp [valid, h]
theorem valid_dot : valid [46] = false := by simp [valid]
theorem valid_dots : valid [46, 46] = false := by simp [valid]
theorem valid_rest {L : List UInt8} (h0 : ¬ L = []) (h1 : ¬ 32 < L.length) (h2 : ¬ L = [46]) (h3 : ¬ L = [46, 46]) : valid L = vfrom L 0 := by
  simp [valid, h0, h1, h2, h3]
theorem vfrom_byte {L : List UInt8} {k : Nat} (hk : k < L.length) (h : okb L k = false) : vfrom L 0 = false := by
  rw [Bool.eq_false_iff]; intro hv
  have := ((both _ L 0 (Nat.le_refl _)).1 hv).1 k (Nat.zero_le _) hk
  rw [h] at this; cases this
theorem vfrom_chain {L : List UInt8} (h : ∀ j, j < L.length → okb L j = true) : vfrom L 0 = cfrom L 0 := by
  rw [Bool.eq_iff_iff, both _ L 0 (Nat.le_refl _)]
  exact ⟨fun a => a.2, fun a => ⟨fun j _ hj => h j hj, a⟩⟩
end Tn

set_option maxHeartbeats 1600000 in
set_option maxRecDepth 100000 in
theorem refvalid_nil (w : World) : Calls Tryz.prog 43 #[.string ⟨#[]⟩] w fun e w' => e = .returned (.bool false) ∧ w' = w := by
  go_enter Tryz.func43, Tryz.ntmps43
  go_wp2
  go_ret
  exact ⟨rfl, rfl⟩
set_option maxHeartbeats 1600000 in
set_option maxRecDepth 100000 in
theorem refvalid_dot (w : World) : Calls Tryz.prog 43 #[.string ⟨#[46]⟩] w fun e w' => e = .returned (.bool false) ∧ w' = w := by
  go_enter Tryz.func43, Tryz.ntmps43
  go_wp2
  go_ret
  exact ⟨rfl, rfl⟩
set_option maxHeartbeats 1600000 in
set_option maxRecDepth 100000 in
theorem refvalid_dots (w : World) : Calls Tryz.prog 43 #[.string ⟨#[46, 46]⟩] w fun e w' => e = .returned (.bool false) ∧ w' = w := by
  go_enter Tryz.func43, Tryz.ntmps43
  go_wp2
  go_ret
  exact ⟨rfl, rfl⟩
set_option maxHeartbeats 1600000 in
set_option maxRecDepth 100000 in
theorem refvalid_long (L : List UInt8) (w : World) (hm : L.length ≤ 4611686018427387904) (h : 32 < L.length) : Calls Tryz.prog 43 #[.string ⟨L.toArray⟩] w fun e w' => e = .returned (.bool false) ∧ w' = w := by
  have hsz := str_size L
  have h0 : ¬ L = [] := by rintro rfl; simp at h
  have h0' : L.isEmpty = false := by simp [h0]
  go_enter Tryz.func43, Tryz.ntmps43
  go_wp2
  go_ret
  exact ⟨rfl, rfl⟩

set_option maxHeartbeats 1600000 in
set_option maxRecDepth 100000 in
theorem refvalid_rest (L : List UInt8) (w : World) (h0 : ¬ L = []) (h1 : ¬ 32 < L.length) (h2 : ¬ L = [46]) (h3 : ¬ L = [46, 46]) :
    Calls Tryz.prog 43 #[.string ⟨L.toArray⟩] w fun e w' => e = .returned (.bool (Tn.vfrom L 0)) ∧ w' = w := by
  have hsz := str_size L
  have e0 : L.isEmpty = false := by simp [h0]
  have e2 : (L == [46]) = false := by simp [h2]
  have e3 : (L == [46, 46]) = false := by simp [h3]
  have e1 : decide (32 < (L.length : Int)) = false := by simp; omega
  go_enter Tryz.func43, Tryz.ntmps43
  go_wp2
  go_loopw [3] (fun x wr => wr = w ∧ ∃ k : Nat, k ≤ L.length ∧ x = .int .i64 k ∧ Hid (∀ j, j < k → Tn.okb L j = true)) (fun x wr => L.length - (intOf x).toNat)
  case atStart => exact ⟨rfl, 0, Nat.zero_le _, rfl, fun j hj => by omega⟩
  case round =>
    obtain ⟨rfl, k, hk, rfl, HB⟩ := hrel
    by_cases hlt : k < L.length
    · have ik := fun W => Tryz.signAt L k hlt W
      obtain ⟨x, hx⟩ : ∃ x, Tn.by' L k = x := ⟨_, rfl⟩
      have hxl : x < 256 := by rw [← hx]; exact Tn.by_lt L k
      rw [hx] at ik
      have HX : Hid (Tn.by' L k = x) := hx
      clear hx
      by_cases b1 : x < 32
      · have b1' : decide ((x : Int) < 32) = true := by simp; omega
        go_wp2
        go_ret
        exact ⟨by rw [Tn.vfrom_byte hlt (by simp [Tn.okb, HX.out, b1])]; rfl, rfl⟩
      · have b1' : decide ((x : Int) < 32) = false := by simp; omega
        by_cases b2 : x = 127
        · subst b2
          go_wp2
          go_ret
          exact ⟨by rw [Tn.vfrom_byte hlt (by simp [Tn.okb, HX.out])]; rfl, rfl⟩
        · by_cases b3 : x = 47
          · subst b3
            go_wp2
            go_ret
            exact ⟨by rw [Tn.vfrom_byte hlt (by simp [Tn.okb, HX.out])]; rfl, rfl⟩
          · have b2' : ((x : Int) == 127) = false := by simp; omega
            have b3' : ((x : Int) == 47) = false := by simp; omega
            have b2'' : ¬ ((x : Int) = 127) := by omega
            have b3'' : ¬ ((x : Int) = 47) := by omega
            go_wp2
            go_roundw
            case rel =>
              refine ⟨trivial, k + 1, by omega, by go_num, fun j hj => ?_⟩
              by_cases e : j = k
              · subst e; simp only [Tn.okb, HX.out]; simp [b1, b2, b3]
              · exact HB.out j (by omega)
            case measure => simp [intOf]; omega
    · have hv : Hid (Tn.vfrom L 0 = Tn.cfrom L 0) := Tn.vfrom_chain (fun j hj => HB.out j (by omega))
      clear HB
      go_wp2
      go_loopw [4] (fun x wr' => wr' = wr ∧ ∃ k : Nat, k ≤ L.length ∧ x = .int .i64 k ∧ Hid (Tn.cfrom L 0 = Tn.cfrom L k)) (fun x wr => L.length - (intOf x).toNat)
      case atStart => exact ⟨rfl, 0, Nat.zero_le _, rfl, rfl⟩
      case round =>
        obtain ⟨rfl, k, hk, rfl, HC⟩ := hrel
        by_cases hlt : k < L.length
        · have hE := ext_drop L k
          have hc := fun W => scalar_ok (L.drop k) W (by simp; omega) (by simp; omega)
          simp only [List.length_drop, by_drop, Nat.add_zero] at hc
          have hs0 : Tn.scal (L.length - k) (Tn.by' L k) (Tn.by' L (k + 1)) (Tn.by' L (k + 2)) (Tn.by' L (k + 3)) = Tn.scalAt L k := rfl
          rw [hs0] at hc
          have hstep := Tn.cfrom_step hlt
          have hle : Tn.scalAt L k ≤ L.length - k := by
            by_cases hl : Tn.by' L k < 128
            · rw [(Tn.scalAt_low hl).1]; omega
            · by_cases hs : Tn.scalAt L k = 0
              · omega
              · exact (Tn.scal_some _ _ _ _ _ (Tn.by_lt L k) (Tn.by_lt L (k + 1)) (Tn.by_lt L (k + 2)) (Tn.by_lt L (k + 3)) (by omega) hs).2.2.2.2.1
          obtain ⟨m, hsm⟩ : ∃ m, Tn.scalAt L k = m := ⟨_, rfl⟩
          rw [hsm] at hc hle
          have HS : Hid (Tn.cfrom L k = (decide (m ≠ 0) && Tn.cfrom L (k + m))) := by rw [← hsm]; exact hstep
          clear hstep hs0 hsm
          by_cases hz : m = 0
          · subst hz
            go_wp2_with (go_at_call 53; refine (hc _).mono ?_; rintro e w1 ⟨rfl, rfl⟩)
            go_ret
            exact ⟨by rw [hv.out, HC.out, HS.out]; simp, rfl⟩
          · have hz' : ((m : Int) == 0) = false := by simp; omega
            have hz'' : ¬ ((m : Int) = 0) := by omega
            go_wp2_with (go_at_call 53; refine (hc _).mono ?_; rintro e w1 ⟨rfl, rfl⟩)
            go_roundw
            case rel => exact ⟨trivial, k + m, by omega, by go_num, by show _ = _; rw [HC.out, HS.out]; simp [hz]⟩
            case measure => simp [intOf]; omega
        · have hz : Hid (Tn.vfrom L 0 = true) := by show _ = _; rw [hv.out, HC.out]; exact Tn.cfrom_end hlt
          go_wp2
          go_ret
          exact ⟨by rw [hz.out]; rfl, rfl⟩
/-- freightref7.Valid. -/
theorem refvalid_ok (L : List UInt8) (w : World) (hm : L.length ≤ 4611686018427387904) :
    Calls Tryz.prog 43 #[.string ⟨L.toArray⟩] w fun e w' => e = .returned (.bool (Tn.valid L)) ∧ w' = w := by
  by_cases h0 : L = []
  · subst h0; rw [Tn.valid_nil]; exact refvalid_nil w
  by_cases h1 : 32 < L.length
  · rw [Tn.valid_long h1]; exact refvalid_long L w hm h1
  by_cases h2 : L = [46]
  · subst h2; rw [Tn.valid_dot]; exact refvalid_dot w
  by_cases h3 : L = [46, 46]
  · subst h3; rw [Tn.valid_dots]; exact refvalid_dots w
  rw [Tn.valid_rest h0 h1 h2 h3]
  exact refvalid_rest L w h0 h1 h2 h3

set_option maxHeartbeats 1600000 in
set_option maxRecDepth 100000 in
theorem valid_nil (w : World) : Calls Tryz.prog 91 #[.string ⟨#[]⟩] w fun e w' => e = .returned (.bool false) ∧ w' = w := by
  go_enter Tryz.func91, Tryz.ntmps91
  go_wp2
  go_ret
  exact ⟨rfl, rfl⟩
set_option maxHeartbeats 1600000 in
set_option maxRecDepth 100000 in
theorem valid_dot (w : World) : Calls Tryz.prog 91 #[.string ⟨#[46]⟩] w fun e w' => e = .returned (.bool false) ∧ w' = w := by
  go_enter Tryz.func91, Tryz.ntmps91
  go_wp2
  go_ret
  exact ⟨rfl, rfl⟩
set_option maxHeartbeats 1600000 in
set_option maxRecDepth 100000 in
theorem valid_dots (w : World) : Calls Tryz.prog 91 #[.string ⟨#[46, 46]⟩] w fun e w' => e = .returned (.bool false) ∧ w' = w := by
  go_enter Tryz.func91, Tryz.ntmps91
  go_wp2
  go_ret
  exact ⟨rfl, rfl⟩
set_option maxHeartbeats 1600000 in
set_option maxRecDepth 100000 in
theorem valid_long (L : List UInt8) (w : World) (hm : L.length ≤ 4611686018427387904) (h : 32 < L.length) : Calls Tryz.prog 91 #[.string ⟨L.toArray⟩] w fun e w' => e = .returned (.bool false) ∧ w' = w := by
  have hsz := str_size L
  have h0 : ¬ L = [] := by rintro rfl; simp at h
  have h0' : L.isEmpty = false := by simp [h0]
  go_enter Tryz.func91, Tryz.ntmps91
  go_wp2
  go_ret
  exact ⟨rfl, rfl⟩

/-- The two tables of unicode/utf8 lie as they were laid. -/
abbrev Tabs (w : World) : Prop := Lib.Utf8Tabs 2 3 w
theorem Tabs.of {w w' : World} (h : Tabs w) (hc : ∀ p : Addr, p.block < 4 → w'.cell? p = w.cell? p) : Tabs w' :=
  ⟨fun c hc' => by rw [hc _ (by simp)]; exact h.1 c hc', fun i hi => ⟨by rw [hc _ (by simp)]; exact (h.2 i hi).1, by rw [hc _ (by simp)]; exact (h.2 i hi).2⟩⟩
theorem Tabs.big {w : World} (h : Tabs w) : 4 ≤ w.heap.size := by
  have : 3 < w.heap.size := World.block_lt_of_cell? _ _ ((h.2 0 (by omega)).1)
  omega
theorem Tabs.kept {l : List Nat} {w w' : World} (h : Tabs w) (hk : Kept l w w') (hl : ∀ i, i ∈ l → 4 ≤ i) : Tabs w' :=
  h.of fun p hp => hk.cell (by have := h.big; omega) (fun hm => by have := hl _ hm; omega)

/-- tree.isWhole of what begins at k. -/
theorem isWhole_ok (L : List UInt8) (w : World) (hT : Tabs w) (h0 : ¬ L = []) :
    Calls Tryz.prog 93 #[.string ⟨L.toArray⟩] w fun e w' => e = .returned (.bool (decide ((Utf8.decode ⟨L.toArray⟩ 0).2 = 3))) ∧ Below w.heap.size w w' := by
  have cD := Tryz.utf8_DecodeRuneInString ⟨L.toArray⟩ w hT
  have hd : Lib.decodeGo ⟨L.toArray⟩ = Utf8.decode ⟨L.toArray⟩ 0 := by
    unfold Lib.decodeGo
    rw [if_neg (by rw [str_size]; simpa using h0)]
  rw [hd] at cD
  obtain ⟨R, hR⟩ : ∃ R, (Utf8.decode ⟨L.toArray⟩ 0).1 = R := ⟨_, rfl⟩
  obtain ⟨K, hK⟩ : ∃ K, (Utf8.decode ⟨L.toArray⟩ 0).2 = K := ⟨_, rfl⟩
  rw [hR, hK] at cD
  rw [hK]
  have cR := fun W => Tryz.utf8_RuneLen 65533 W
  have hr : Lib.runeLen 65533 = 3 := by decide
  rw [hr] at cR
  clear hd hR hK
  go_enter Tryz.func93, Tryz.ntmps93
  go_wp2_with (first
    | (go_at_call 94; refine cD.mono ?_; rintro e w1 ⟨rfl, hb⟩)
    | (go_at_call 95; refine (cR _).mono ?_; rintro e w2 ⟨rfl, rfl⟩))
  go_ret
  refine ⟨?_, hb⟩
  by_cases e : K = 3
  · subst e; rfl
  · have e' : ¬ ((K : Int) = 3) := by omega
    simp [e, e', Act.eval]

theorem dec_drop (L : List UInt8) (k : Nat) : Utf8.decode ⟨(L.drop k).toArray⟩ 0 = Utf8.decode ⟨L.toArray⟩ k := by
  rw [Tn.dec_at, Tn.dec_at]; simp only [by_drop, List.length_drop, Nat.add_zero, Nat.zero_add, Nat.sub_zero]
theorem iterPos_of {w : World} {k : Nat} {s : ByteArray} {p : Nat} (h : w.heap[k]? = some (.stringIter s p)) : w.iterPos k = p := by simp [World.iterPos, h]
theorem Tabs.below {w w' : World} (h : Tabs w) (hb : Below w.heap.size w w') : Tabs w' :=
  h.kept (Kept.of_below hb) (by simp)

set_option maxHeartbeats 1600000 in
set_option maxRecDepth 100000 in
theorem valid_rest (L : List UInt8) (w : World) (hT : Tabs w) (h0 : ¬ L = []) (h1 : ¬ 32 < L.length) (h2 : ¬ L = [46]) (h3 : ¬ L = [46, 46]) :
    Calls Tryz.prog 91 #[.string ⟨L.toArray⟩] w fun e w' => e = .returned (.bool (Tn.vfrom L 0)) ∧ Below w.heap.size w w' := by
  have hsz := str_size L
  have l0 : (L.length == 0) = false := by simpa using h0
  have l0' : ((L.length : Int) == 0) = false := by simpa using h0
  have l0'' : ¬ ((L.length : Int) = 0) := by simpa using h0
  have e2 : (L == [46]) = false := by simp [h2]
  have e3 : (L == [46, 46]) = false := by simp [h3]
  have e1 : decide (32 < (L.length : Int)) = false := by simp; omega
  have HT : Hid (Tabs w) := hT
  clear hT
  go_enter Tryz.func91, Tryz.ntmps91
  go_wp2
  go_loopw [3] (fun x wr => ∃ k : Nat, wr.heap[w.heap.size]? = some (.stringIter ⟨L.toArray⟩ k) ∧ Hid (Below w.heap.size w wr) ∧ Hid (Tn.vfrom L 0 = Tn.vfrom L k)) (fun x wr => L.length - wr.iterPos w.heap.size)
  case atStart => exact ⟨0, World.iter_heap _ _ _, (Below.refl _ w).alloc (Nat.le_refl _) _, rfl⟩
  case round =>
    obtain ⟨k, hit, HB, HV⟩ := hrel
    have HP : Hid (wr.iterPos w.heap.size = k) := iterPos_of hit
    by_cases hlt : k < L.length
    · have hn := fun ty => Lib.run_next_any_at (P := Tryz.prog) wr w.heap.size ⟨L.toArray⟩ k ty hit (by rw [hsz]; exact hlt)
      have hE := ext_drop L k
      have hit2 := Lib.iterAt_heap wr w.heap.size ⟨L.toArray⟩ k (k + (Utf8.decode ⟨L.toArray⟩ k).2) hit
      have hB2 := Lib.below_iterAt HB.out (Nat.le_refl _) ⟨L.toArray⟩ (k + (Utf8.decode ⟨L.toArray⟩ k).2)
      have hw := isWhole_ok (L.drop k) (wr.iterAt w.heap.size ⟨L.toArray⟩ (k + (Utf8.decode ⟨L.toArray⟩ k).2)) (HT.out.below hB2) (by simp; omega)
      rw [dec_drop] at hw
      have hstep := Tn.vfrom_step hlt
      have hpos := Tn.dec_pos L k
      have hsm : k < 4611686018427387904 := by omega
      obtain ⟨c, hc⟩ : ∃ c, (Utf8.decode ⟨L.toArray⟩ k).1 = c := ⟨_, rfl⟩
      obtain ⟨wd, hwd⟩ : ∃ wd, (Utf8.decode ⟨L.toArray⟩ k).2 = wd := ⟨_, rfl⟩
      simp only [hc, hwd] at hn hit2 hB2 hw hstep hpos
      have HS : Hid (Tn.vfrom L k = (Tn.okc c wd && Tn.vfrom L (k + wd))) := hstep
      have HB2 : Hid (Below w.heap.size w (wr.iterAt w.heap.size ⟨L.toArray⟩ (k + wd))) := hB2
      have HI2 : Hid ((wr.iterAt w.heap.size ⟨L.toArray⟩ (k + wd)).heap[w.heap.size]? = some (.stringIter ⟨L.toArray⟩ (k + wd))) := hit2
      clear hstep hB2 hit2 hc hwd hit
      by_cases b1 : c < 32
      · have b1' : decide ((c : Int) < 32) = true := by simp; omega
        clear hw
        go_wp2
        go_ret
        exact ⟨by rw [HV.out, HS.out, show Tn.okc c wd = false by simp [Tn.okc, b1]]; rfl, HB2.out⟩
      · have b1' : decide ((c : Int) < 32) = false := by simp; omega
        by_cases b2 : c = 127
        · subst b2
          clear hw
          go_wp2
          go_ret
          exact ⟨by rw [HV.out, HS.out, show Tn.okc 127 wd = false by simp [Tn.okc]]; rfl, HB2.out⟩
        · by_cases b3 : c = 47
          · subst b3
            clear hw
            go_wp2
            go_ret
            exact ⟨by rw [HV.out, HS.out, show Tn.okc 47 wd = false by simp [Tn.okc]]; rfl, HB2.out⟩
          · have b2' : ((c : Int) == 127) = false := by simp; omega
            have b3' : ((c : Int) == 47) = false := by simp; omega
            have b2'' : ¬ ((c : Int) = 127) := by omega
            have b3'' : ¬ ((c : Int) = 47) := by omega
            by_cases b4 : c = 65533
            · subst b4
              by_cases b5 : wd = 3
              · subst b5
                simp only [decide_true] at hw
                have HS2 : Hid (Tn.vfrom L 0 = Tn.vfrom L (k + 3)) := by show _ = _; rw [HV.out, HS.out, show Tn.okc 65533 3 = true by decide]; rfl
                clear HS
                go_wp2_with (go_at_call 93; refine hw.mono ?_; rintro e w1 ⟨rfl, hb⟩; have HB3 := hide hb; clear hb hw)
                go_roundw
                case rel =>
                  have q : w1.heap[w.heap.size]? = some (.stringIter ⟨L.toArray⟩ (k + 3)) := by
                    rw [HB3.out.block w.heap.size (Array.getElem?_eq_some_iff.1 HI2.out).1]; exact HI2.out
                  exact ⟨k + 3, q, Below.trans HB2.out (HB3.out.mono (by have := (Array.getElem?_eq_some_iff.1 HI2.out).1; omega)), HS2⟩
                case measure =>
                  have q : w1.heap[w.heap.size]? = some (.stringIter ⟨L.toArray⟩ (k + 3)) := by
                    rw [HB3.out.block w.heap.size (Array.getElem?_eq_some_iff.1 HI2.out).1]; exact HI2.out
                  rw [iterPos_of q, HP.out]; omega
              · have b5' : decide (wd = 3) = false := by simp [b5]
                rw [b5'] at hw
                go_wp2_with (go_at_call 93; refine hw.mono ?_; rintro e w1 ⟨rfl, hb⟩; have HB3 := hide hb; clear hb hw)
                go_ret
                exact ⟨by rw [HV.out, HS.out, show Tn.okc 65533 wd = false by simp [Tn.okc, b5]]; rfl, Below.trans HB2.out (HB3.out.mono (by have := (Array.getElem?_eq_some_iff.1 HI2.out).1; omega))⟩
            · have b4' : ((c : Int) == 65533) = false := by simp; omega
              have b4'' : ¬ ((c : Int) = 65533) := by omega
              have HS2 : Hid (Tn.vfrom L 0 = Tn.vfrom L (k + wd)) := by show _ = _; rw [HV.out, HS.out, show Tn.okc c wd = true by simp [Tn.okc, b1, b2, b3, b4]]; rfl
              clear HS hw
              go_wp2
              go_roundw
              case rel => exact ⟨k + wd, HI2.out, HB2, HS2⟩
              case measure => rw [iterPos_of HI2.out, HP.out]; omega
    · have hn := fun ty => Lib.run_next_end_at (P := Tryz.prog) wr w.heap.size ⟨L.toArray⟩ k ty hit (by rw [hsz]; exact hlt)
      have HV2 : Hid (Tn.vfrom L 0 = true) := by show _ = _; rw [HV.out]; exact Tn.vfrom_end hlt
      clear hit
      go_wp2
      go_ret
      exact ⟨by rw [HV2.out]; rfl, HB.out⟩
/-- tree.Valid. -/
theorem valid_ok (L : List UInt8) (w : World) (hm : L.length ≤ 4611686018427387904) (hT : Tabs w) :
    Calls Tryz.prog 91 #[.string ⟨L.toArray⟩] w fun e w' => e = .returned (.bool (Tn.valid L)) ∧ Below w.heap.size w w' := by
  have wk : ∀ {b : Bool} {e : Ending} {w' : World}, (e = .returned (.bool b) ∧ w' = w) → e = .returned (.bool b) ∧ Below w.heap.size w w' := fun h => ⟨h.1, by rw [h.2]; exact Below.refl _ _⟩
  by_cases h0 : L = []
  · subst h0; rw [Tn.valid_nil]; exact (valid_nil w).mono fun e w' h => wk h
  by_cases h1 : 32 < L.length
  · rw [Tn.valid_long h1]; exact (valid_long L w hm h1).mono fun e w' h => wk h
  by_cases h2 : L = [46]
  · subst h2; rw [Tn.valid_dot]; exact (valid_dot w).mono fun e w' h => wk h
  by_cases h3 : L = [46, 46]
  · subst h3; rw [Tn.valid_dots]; exact (valid_dots w).mono fun e w' h => wk h
  rw [Tn.valid_rest h0 h1 h2 h3]
  exact valid_rest L w hT h0 h1 h2 h3
end

section
open Go.RowKit
set_option linter.unusedVariables false
set_option linter.unusedSimpArgs false

/-- How the reader gives up. -/
abbrev gaveUp : Ending := .panicked [{ v := .iface 178 (.agg #[]), recovered := false }]

set_option maxRecDepth 100000 in
theorem must_true (w : World) : Calls Tryz.prog 75 #[.bool true] w fun e w' => e = .returned (.tuple #[]) ∧ w' = w := by
  go_enter Tryz.func75, Tryz.ntmps75
  go_wp2
  go_end0
  exact ⟨rfl, rfl⟩

set_option maxRecDepth 100000 in
theorem must_false (w : World) : Calls Tryz.prog 75 #[.bool false] w fun e w' => e = gaveUp ∧ w' = w := by
  go_enter Tryz.func75, Tryz.ntmps75
  go_wp2
  exact ⟨rfl, rfl, rfl⟩
namespace Tn

def isK (k : Int) : Bool := decide (1 ≤ k) && decide (k ≤ 3)

end Tn

set_option maxRecDepth 100000 in
theorem isKind_ok (k : Int) (w : World) : Calls Tryz.prog 90 #[.int .i64 k] w fun e w' => e = .returned (.bool (Tn.isK k)) ∧ w' = w := by
  have hk : Hid (Tn.isK k = (decide (k = 1) || decide (k = 2) || decide (k = 3))) := by
    show _ = _
    rw [Bool.eq_iff_iff]; simp [Tn.isK]; omega
  by_cases h1 : k = 1
  · subst h1
    go_enter Tryz.func90, Tryz.ntmps90
    go_wp2
    go_ret
    exact ⟨by rw [hk.out]; rfl, rfl⟩
  · by_cases h2 : k = 2
    · subst h2
      go_enter Tryz.func90, Tryz.ntmps90
      go_wp2
      go_ret
      exact ⟨by rw [hk.out]; rfl, rfl⟩
    · by_cases h3 : k = 3
      · subst h3
        go_enter Tryz.func90, Tryz.ntmps90
        go_wp2
        go_ret
        exact ⟨by rw [hk.out]; rfl, rfl⟩
      · have b1 : (k == 1) = false := by simpa using h1
        have b2 : (k == 2) = false := by simpa using h2
        have b3 : (k == 3) = false := by simpa using h3
        go_enter Tryz.func90, Tryz.ntmps90
        go_wp2
        go_ret
        exact ⟨by rw [hk.out]; simp [h1, h2, h3, Act.eval], rfl⟩
end

section
namespace Pure
/-- What four turns of the register make of its lowest four bits. -/
def tbl : List Nat := [0, 498536548, 997073096, 651767980, 1994146192, 1802195444, 1303535960, 1342533948, 3988292384, 4027552580, 3604390888, 3412177804, 2607071920, 2262029012, 2685067896, 3183342108]
def tb (i : Nat) : Nat := tbl.getD i 0
theorem tb_lt (i : Nat) : tb i < 4294967296 := by
  unfold tb
  by_cases h : i < 16
  · have : ∀ i, i < 16 → tbl.getD i 0 < 4294967296 := by decide
    exact this i h
  · have : tbl.length ≤ i := by simp [tbl]; omega
    simp [List.getElem?_eq_none this]
theorem xor_lt32 {a b : Nat} (ha : a < 4294967296) (hb : b < 4294967296) : a ^^^ b < 4294967296 := Nat.xor_lt_two_pow (n := 32) ha hb
/-- Four turns of the register. -/
def nib (y : Nat) : Nat := (y / 16) ^^^ tb (y % 16)
theorem nib_lt {y : Nat} (h : y < 4294967296) : nib y < 4294967296 := xor_lt32 (by omega) (tb_lt _)
/-- The register behind one byte more. -/
def crcStep (x c : Nat) : Nat := nib (nib (x ^^^ c))
theorem crcStep_lt {x c : Nat} (h : x < 4294967296) (hc : c < 4294967296) : crcStep x c < 4294967296 := nib_lt (nib_lt (xor_lt32 h hc))
/-- The register behind bytes. -/
def crc (x : Nat) (l : List UInt8) : Nat := l.foldl (fun x c => crcStep x c.toNat) x
theorem crc_snoc (x : Nat) (l : List UInt8) (c : UInt8) : crc x (l ++ [c]) = crcStep (crc x l) c.toNat := by simp [crc]
theorem crc_lt {x : Nat} (h : x < 4294967296) (l : List UInt8) : crc x l < 4294967296 := by
  induction l generalizing x with
  | nil => exact h
  | cons c l ih => exact ih (crcStep_lt h (Nat.lt_trans (UInt8.toNat_lt c) (by omega)))
theorem ones_xor {x : Nat} (h : x < 4294967296) : 4294967295 ^^^ x = 4294967295 - x := by
  have h1 : (BitVec.allOnes 32 ^^^ BitVec.ofNat 32 x).toNat = (~~~ (BitVec.ofNat 32 x)).toNat := by rw [BitVec.allOnes_xor]
  rw [BitVec.toNat_xor, BitVec.toNat_not, BitVec.toNat_allOnes, BitVec.toNat_ofNat, Nat.mod_eq_of_lt (by omega)] at h1
  simpa using h1
/-- The sum of bytes. -/
def sum (l : List UInt8) : Nat := 4294967295 - crc 4294967295 l

theorem take_snoc {α : Type} (l : List α) (d : α) (k : Nat) (h : k < l.length) : l.take (k + 1) = l.take k ++ [l.getD k d] := by
  rw [List.take_succ_eq_append_getElem h]; simp [List.getElem?_eq_getElem h]
end Pure
end

section
open Go.RowKit
set_option linter.unusedVariables false
set_option linter.unusedSimpArgs false

/-- A Writer's cells. -/
def wrow (e p : Int) (q : Option Addr) (last : List UInt8) (n : Nat) : List Value :=
  .int .i64 e :: .int .i64 p :: .pointer q :: (bys last ++ [.int .i64 n])

theorem wrow_len (e p : Int) (q : Option Addr) (last : List UInt8) (n : Nat) : (wrow e p q last n).length = last.length + 4 := by simp [wrow, bys_length]

theorem wrow_size (e p : Int) (q : Option Addr) (last : List UInt8) (n : Nat) (h : last.length = 64) : (wrow e p q last n)[67]? = some (.int .i64 n) := by
  simp [wrow, bys_length, h]

theorem Tryz.follows : Tryz.prog.follows .mixedOrders = true := by kernel_rfl

theorem Tryz.cutFrom (W : World) (ao : Option Addr) (g off L cap m : Nat) (hm : m ≤ L) :
    (Instr.slice 33 (.slice (some ⟨g, off, none⟩) L cap) (some (.int .i64 m)) none none).run Tryz.prog W = .ok (.slice (if cap = m then some ⟨g, off, none⟩ else some ⟨g, off + m, none⟩) (L - m) (cap - m)) W := by
  have hz : (sizeOf (Tryz.prog.elem 33)).run Tryz.prog W = .ok 1 W := by kernel_rfl
  have h := run_slice_l (P := Tryz.prog) W 33 (some ⟨g, off, none⟩) L cap (by kernel_rfl) .i64 m (by omega) (by omega)
  rw [h, hz]
  by_cases hc : cap = m <;> simp [sliced, Addr.add_mid, hc]

theorem Tryz.cutTo (W : World) (ao : Option Addr) (L cap m : Nat) (hm : m ≤ cap) :
    (Instr.slice 33 (.slice ao L cap) none (some (.int .i64 m)) none).run Tryz.prog W = .ok (.slice ao m cap) W := by
  have hz : (sizeOf (Tryz.prog.elem 33)).run Tryz.prog W = .ok 1 W := by kernel_rfl
  have h := run_slice_h (P := Tryz.prog) W 33 ao L cap (by kernel_rfl) .i64 m (by omega) (by omega)
  rw [h, hz]
  cases ao <;> simp [sliced, Addr.add]

theorem range_of_len {L : List UInt8} (h : L.length = 64) : (List.range 64).map (fun i => L.getD i 0) = L := by
  apply List.ext_getElem
  · simp [h]
  · intro i h1 h2
    simp [List.getElem?_eq_getElem h2]

theorem Tryz.sizeByte : (Tryz.prog.info? 5).map (·.size) = some 1 := by kernel_rfl

/-- The row behind a copy into the last bytes. -/
theorem wrow_splice (e p : Int) (q : Option Addr) (last ys : List UInt8) (n s : Nat) (h : s + ys.length ≤ last.length) :
    (wrow e p q last n).take (3 + s) ++ (bys ys ++ (wrow e p q last n).drop (3 + s + ys.length)) = wrow e p q (splice last s ys) n := by
  have h1 : (bys last).length = last.length := bys_length _
  have e1 : (wrow e p q last n).take (3 + s) = .int .i64 e :: .int .i64 p :: .pointer q :: bys (last.take s) := by
    rw [show 3 + s = s + 1 + 1 + 1 by omega]
    simp only [wrow, List.take_succ_cons]
    rw [List.take_append_of_le_length (by omega)]
    simp [bys, List.map_take]
  have e2 : (wrow e p q last n).drop (3 + s + ys.length) = bys (last.drop (s + ys.length)) ++ [.int .i64 n] := by
    rw [show 3 + s + ys.length = (s + ys.length) + 1 + 1 + 1 by omega]
    simp only [wrow, List.drop_succ_cons]
    rw [List.drop_append_of_le_length (by omega)]
    simp [bys, List.map_drop]
  rw [e1, e2]
  simp [wrow, splice, bys, List.map_append]

theorem wrow_n (e p : Int) (q : Option Addr) (last : List UInt8) (n m : Nat) (h : last.length = 64) : (wrow e p q last n).set 67 (.int .i64 m) = wrow e p q last m := by
  simp only [wrow, List.set_cons_succ]
  rw [List.set_append_right _ _ (by simp [bys_length, h])]
  simp [bys_length, h]

theorem wrow_q (e p : Int) (q q' : Option Addr) (last : List UInt8) (n : Nat) : (wrow e p q last n).set 2 (.pointer q') = wrow e p q' last n := by
  simp only [wrow, List.set_cons_succ, List.set_cons_zero]

theorem kept_setRow {l : List Nat} {a w : World} (h : Kept l a w) {g : Nat} (hg : g < a.heap.size → g ∈ l) (cs : Array Value) : Kept l a (w.setRow g cs) :=
  h.trans (l2 := [g]) ⟨rfl, rfl, rfl, by simp [World.setRow], fun k _ hn => setRow_other w g k cs (by simpa using hn)⟩ (by simpa using hg)

/-- The last bytes behind a copy. -/
theorem last_splice {last zs t : List UInt8} {s : Nat} (hl : last.length = 64) (hs : s + t.length ≤ 64) (h : last.take s = zs) (hz : zs.length = s) :
    (splice last s t).take (s + t.length) = zs ++ t ∧ (splice last s t).length = 64 := by
  subst h
  refine ⟨?_, by rw [length_splice _ _ _ (by omega)]; exact hl⟩
  unfold splice
  rw [← List.append_assoc, List.take_append_of_le_length (by simp; omega), List.take_of_length_le (by simp; omega)]

theorem rangeAt_setCell_low {w : World} {b o : Nat} {cs : List Value} (h : w.rangeAt b o cs) (b' o' : Nat) (u : Value) (hl : o' < o) : (w.setCell ⟨b', o', none⟩ u).rangeAt b o cs := fun j v hv => by
  rw [World.cell?_setCell_other _ _ _ _ (by intro e; cases e; omega)]
  exact h j v hv

theorem wp_build_at {P : Program} {o : Oper} {a : Act} {w : World} {K : Act → World → Prop} {Q : Exit → Act → World → Prop} (t : TypeId) (parts : List (Nat × Operand)) (ho : o.op = .build t parts.toArray)
    (cells : Array Value) (hc : P.built t (parts.map fun x => (x.1, a.eval x.2)) = some cells) (h : K (a.put o.dst (.agg cells)) w) : o.wp P a w K Q := by
  have e : (parts.toArray.map fun (i, x) => (i, a.eval x)).toList = parts.map fun x => (x.1, a.eval x.2) := by simp
  refine wp_build t parts.toArray ho ?_ ?_
  · rw [e, hc]; rfl
  · rw [e, hc]; exact h

theorem wp_box_at {P : Program} {o : Oper} {a : Act} {w : World} {K : Act → World → Prop} {Q : Exit → Act → World → Prop} (t : TypeId) (x : Operand) (ho : o.op = .box t x) (cells : Array Value) (hx : a.eval x = .agg cells)
    (h : K (a.put o.dst (.pointer (some ⟨w.heap.size, 0, none⟩))) (w.alloc (.cells cells t))) : o.wp P a w K Q := by
  unfold Oper.wp execOp
  simp only [ho, hx]
  simp [Instr.box, newVar, newRow, Value.cells, go_sem]
  exact h

def lenOf : Value → Nat | .slice _ n _ => n | _ => 0
end

end Go.Proofs.YtngaimahhgmciabGreatDoor
