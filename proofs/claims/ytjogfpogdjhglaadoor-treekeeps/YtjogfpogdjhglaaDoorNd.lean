/-
  Contracts: freightref7.Valid; tree.isWhole, tree.Valid. (Written by tools/nd.py.)
-/
import Derived.Test.YtjogfpogdjhglaaDoorNc
import Derived.Test.YtjogfpogdjhglaaDoorNl
import Derived.Lib.OthersKept
import Derived.Lib.DecodeNEq
import Derived.Deep.QuietTactic
import Derived.BigQuiet
namespace Go.Proofs.YtjogfpogdjhglaaDoor
open Go.RowKit
set_option linter.unusedVariables false
set_option linter.unusedSimpArgs false

theorem ext_drop (L : List UInt8) (k : Nat) : (ByteArray.mk L.toArray).extract k L.length = ByteArray.mk (L.drop k).toArray := by
  apply ByteArray.ext
  simp
  exact List.take_of_length_le (by simp)
theorem by_drop (L : List UInt8) (k j : Nat) : Tn.by' (L.drop k) j = Tn.by' L (k + j) := by simp [Tn.by', List.getD]
namespace Tn
theorem valid_nil : valid [] = false := rfl
theorem valid_long {L : List UInt8} (h : 32 < L.length) : valid L = false := by simp [valid, h]
theorem valid_dot : valid [46] = false := by simp [valid]
theorem valid_dots : valid [46, 46] = false := by simp [valid]
theorem valid_rest {L : List UInt8} (h0 : ¬ L = []) (h1 : ¬ 32 < L.length) (h2 : ¬ L = [46]) (h3 : ¬ L = [46, 46]) : valid L = vfrom L 0 := by
  simp [valid, h0, h1, h2, h3]
theorem vfrom_byte {L : List UInt8} {k : Nat} (hk : k < L.length) (h : okb L k = false) : vfrom L 0 = false := by
  rw [Bool.eq_false_iff]; intro hv
  have := ((both _ L 0 (Nat.le_refl _)).1 hv).1 k (Nat.zero_le _) hk
  rw [h] at this; cases this
theorem vfrom_chain {L : List UInt8} (h : ∀ j, j < L.length → okb L j = true) : vfrom L 0 = cfrom L 0 := by
  rw [Bool.eq_iff_iff, both _ L 0 (Nat.le_refl _)]
  exact ⟨fun a => a.2, fun a => ⟨fun j _ hj => h j hj, a⟩⟩
end Tn

set_option maxHeartbeats 1600000 in
set_option maxRecDepth 100000 in
theorem refvalid_nil (w : World) : Calls Tryd.prog 37 #[.string ⟨#[]⟩] w fun e w' => e = .returned (.bool false) ∧ w' = w := by
  go_enter Tryd.func37, Tryd.ntmps37
  go_wp2
  go_ret
  exact ⟨rfl, rfl⟩
set_option maxHeartbeats 1600000 in
set_option maxRecDepth 100000 in
theorem refvalid_dot (w : World) : Calls Tryd.prog 37 #[.string ⟨#[46]⟩] w fun e w' => e = .returned (.bool false) ∧ w' = w := by
  go_enter Tryd.func37, Tryd.ntmps37
  go_wp2
  go_ret
  exact ⟨rfl, rfl⟩
set_option maxHeartbeats 1600000 in
set_option maxRecDepth 100000 in
theorem refvalid_dots (w : World) : Calls Tryd.prog 37 #[.string ⟨#[46, 46]⟩] w fun e w' => e = .returned (.bool false) ∧ w' = w := by
  go_enter Tryd.func37, Tryd.ntmps37
  go_wp2
  go_ret
  exact ⟨rfl, rfl⟩
set_option maxHeartbeats 1600000 in
set_option maxRecDepth 100000 in
theorem refvalid_long (L : List UInt8) (w : World) (hm : L.length ≤ 4611686018427387904) (h : 32 < L.length) : Calls Tryd.prog 37 #[.string ⟨L.toArray⟩] w fun e w' => e = .returned (.bool false) ∧ w' = w := by
  have hsz := str_size L
  have h0 : ¬ L = [] := by rintro rfl; simp at h
  have h0' : L.isEmpty = false := by simp [h0]
  go_enter Tryd.func37, Tryd.ntmps37
  go_wp2
  go_ret
  exact ⟨rfl, rfl⟩

set_option maxHeartbeats 1600000 in
set_option maxRecDepth 100000 in
theorem refvalid_rest (L : List UInt8) (w : World) (h0 : ¬ L = []) (h1 : ¬ 32 < L.length) (h2 : ¬ L = [46]) (h3 : ¬ L = [46, 46]) :
    Calls Tryd.prog 37 #[.string ⟨L.toArray⟩] w fun e w' => e = .returned (.bool (Tn.vfrom L 0)) ∧ w' = w := by
  have hsz := str_size L
  have e0 : L.isEmpty = false := by simp [h0]
  have e2 : (L == [46]) = false := by simp [h2]
  have e3 : (L == [46, 46]) = false := by simp [h3]
  have e1 : decide (32 < (L.length : Int)) = false := by simp; omega
  go_enter Tryd.func37, Tryd.ntmps37
  go_wp2
  go_loopw [3] (fun x wr => wr = w ∧ ∃ k : Nat, k ≤ L.length ∧ x = .int .i64 k ∧ Hid (∀ j, j < k → Tn.okb L j = true)) (fun x wr => L.length - (intOf x).toNat)
  case atStart => exact ⟨rfl, 0, Nat.zero_le _, rfl, fun j hj => by omega⟩
  case round =>
    obtain ⟨rfl, k, hk, rfl, HB⟩ := hrel
    by_cases hlt : k < L.length
    · have ik := fun W => Tryd.signAt L k hlt W
      obtain ⟨x, hx⟩ : ∃ x, Tn.by' L k = x := ⟨_, rfl⟩
      have hxl : x < 256 := by rw [← hx]; exact Tn.by_lt L k
      rw [hx] at ik
      have HX : Hid (Tn.by' L k = x) := hx
      clear hx
      by_cases b1 : x < 32
      · have b1' : decide ((x : Int) < 32) = true := by simp; omega
        go_wp2
        go_ret
        exact ⟨by rw [Tn.vfrom_byte hlt (by simp [Tn.okb, HX.out, b1])]; rfl, rfl⟩
      · have b1' : decide ((x : Int) < 32) = false := by simp; omega
        by_cases b2 : x = 127
        · subst b2
          go_wp2
          go_ret
          exact ⟨by rw [Tn.vfrom_byte hlt (by simp [Tn.okb, HX.out])]; rfl, rfl⟩
        · by_cases b3 : x = 47
          · subst b3
            go_wp2
            go_ret
            exact ⟨by rw [Tn.vfrom_byte hlt (by simp [Tn.okb, HX.out])]; rfl, rfl⟩
          · have b2' : ((x : Int) == 127) = false := by simp; omega
            have b3' : ((x : Int) == 47) = false := by simp; omega
            have b2'' : ¬ ((x : Int) = 127) := by omega
            have b3'' : ¬ ((x : Int) = 47) := by omega
            go_wp2
            go_roundw
            case rel =>
              refine ⟨trivial, k + 1, by omega, by go_num, fun j hj => ?_⟩
              by_cases e : j = k
              · subst e; simp only [Tn.okb, HX.out]; simp [b1, b2, b3]
              · exact HB.out j (by omega)
            case measure => simp [intOf]; omega
    · have hv : Hid (Tn.vfrom L 0 = Tn.cfrom L 0) := Tn.vfrom_chain (fun j hj => HB.out j (by omega))
      clear HB
      go_wp2
      go_loopw [4] (fun x wr' => wr' = wr ∧ ∃ k : Nat, k ≤ L.length ∧ x = .int .i64 k ∧ Hid (Tn.cfrom L 0 = Tn.cfrom L k)) (fun x wr => L.length - (intOf x).toNat)
      case atStart => exact ⟨rfl, 0, Nat.zero_le _, rfl, rfl⟩
      case round =>
        obtain ⟨rfl, k, hk, rfl, HC⟩ := hrel
        by_cases hlt : k < L.length
        · have hE := ext_drop L k
          have hc := fun W => scalar_ok (L.drop k) W (by simp; omega) (by simp; omega)
          simp only [List.length_drop, by_drop, Nat.add_zero] at hc
          have hs0 : Tn.scal (L.length - k) (Tn.by' L k) (Tn.by' L (k + 1)) (Tn.by' L (k + 2)) (Tn.by' L (k + 3)) = Tn.scalAt L k := rfl
          rw [hs0] at hc
          have hstep := Tn.cfrom_step hlt
          have hle : Tn.scalAt L k ≤ L.length - k := by
            by_cases hl : Tn.by' L k < 128
            · rw [(Tn.scalAt_low hl).1]; omega
            · by_cases hs : Tn.scalAt L k = 0
              · omega
              · exact (Tn.scal_some _ _ _ _ _ (Tn.by_lt L k) (Tn.by_lt L (k + 1)) (Tn.by_lt L (k + 2)) (Tn.by_lt L (k + 3)) (by omega) hs).2.2.2.2.1
          obtain ⟨m, hsm⟩ : ∃ m, Tn.scalAt L k = m := ⟨_, rfl⟩
          rw [hsm] at hc hle
          have HS : Hid (Tn.cfrom L k = (decide (m ≠ 0) && Tn.cfrom L (k + m))) := by rw [← hsm]; exact hstep
          clear hstep hs0 hsm
          by_cases hz : m = 0
          · subst hz
            go_wp2_with (go_at_call 48; refine (hc _).mono ?_; rintro e w1 ⟨rfl, rfl⟩)
            go_ret
            exact ⟨by rw [hv.out, HC.out, HS.out]; simp, rfl⟩
          · have hz' : ((m : Int) == 0) = false := by simp; omega
            have hz'' : ¬ ((m : Int) = 0) := by omega
            go_wp2_with (go_at_call 48; refine (hc _).mono ?_; rintro e w1 ⟨rfl, rfl⟩)
            go_roundw
            case rel => exact ⟨trivial, k + m, by omega, by go_num, by show _ = _; rw [HC.out, HS.out]; simp [hz]⟩
            case measure => simp [intOf]; omega
        · have hz : Hid (Tn.vfrom L 0 = true) := by show _ = _; rw [hv.out, HC.out]; exact Tn.cfrom_end hlt
          go_wp2
          go_ret
          exact ⟨by rw [hz.out]; rfl, rfl⟩
/-- freightref7.Valid. -/
theorem refvalid_ok (L : List UInt8) (w : World) (hm : L.length ≤ 4611686018427387904) :
    Calls Tryd.prog 37 #[.string ⟨L.toArray⟩] w fun e w' => e = .returned (.bool (Tn.valid L)) ∧ w' = w := by
  by_cases h0 : L = []
  · subst h0; rw [Tn.valid_nil]; exact refvalid_nil w
  by_cases h1 : 32 < L.length
  · rw [Tn.valid_long h1]; exact refvalid_long L w hm h1
  by_cases h2 : L = [46]
  · subst h2; rw [Tn.valid_dot]; exact refvalid_dot w
  by_cases h3 : L = [46, 46]
  · subst h3; rw [Tn.valid_dots]; exact refvalid_dots w
  rw [Tn.valid_rest h0 h1 h2 h3]
  exact refvalid_rest L w h0 h1 h2 h3

set_option maxHeartbeats 1600000 in
set_option maxRecDepth 100000 in
theorem valid_nil (w : World) : Calls Tryd.prog 14 #[.string ⟨#[]⟩] w fun e w' => e = .returned (.bool false) ∧ w' = w := by
  go_enter Tryd.func14, Tryd.ntmps14
  go_wp2
  go_ret
  exact ⟨rfl, rfl⟩
set_option maxHeartbeats 1600000 in
set_option maxRecDepth 100000 in
theorem valid_dot (w : World) : Calls Tryd.prog 14 #[.string ⟨#[46]⟩] w fun e w' => e = .returned (.bool false) ∧ w' = w := by
  go_enter Tryd.func14, Tryd.ntmps14
  go_wp2
  go_ret
  exact ⟨rfl, rfl⟩
set_option maxHeartbeats 1600000 in
set_option maxRecDepth 100000 in
theorem valid_dots (w : World) : Calls Tryd.prog 14 #[.string ⟨#[46, 46]⟩] w fun e w' => e = .returned (.bool false) ∧ w' = w := by
  go_enter Tryd.func14, Tryd.ntmps14
  go_wp2
  go_ret
  exact ⟨rfl, rfl⟩
set_option maxHeartbeats 1600000 in
set_option maxRecDepth 100000 in
theorem valid_long (L : List UInt8) (w : World) (hm : L.length ≤ 4611686018427387904) (h : 32 < L.length) : Calls Tryd.prog 14 #[.string ⟨L.toArray⟩] w fun e w' => e = .returned (.bool false) ∧ w' = w := by
  have hsz := str_size L
  have h0 : ¬ L = [] := by rintro rfl; simp at h
  have h0' : L.isEmpty = false := by simp [h0]
  go_enter Tryd.func14, Tryd.ntmps14
  go_wp2
  go_ret
  exact ⟨rfl, rfl⟩

/-- The two tables of unicode/utf8 lie as they were laid. -/
abbrev Tabs (w : World) : Prop := Lib.Utf8Tabs 0 1 w
theorem Tabs.of {w w' : World} (h : Tabs w) (hc : ∀ p : Addr, p.block < 2 → w'.cell? p = w.cell? p) : Tabs w' :=
  ⟨fun c hc' => by rw [hc _ (by simp)]; exact h.1 c hc', fun i hi => ⟨by rw [hc _ (by simp)]; exact (h.2 i hi).1, by rw [hc _ (by simp)]; exact (h.2 i hi).2⟩⟩
theorem Tabs.big {w : World} (h : Tabs w) : 2 ≤ w.heap.size := by
  have : 1 < w.heap.size := World.block_lt_of_cell? _ _ ((h.2 0 (by omega)).1)
  omega
theorem Tabs.kept {l : List Nat} {w w' : World} (h : Tabs w) (hk : Kept l w w') (hl : ∀ i, i ∈ l → 2 ≤ i) : Tabs w' :=
  h.of fun p hp => hk.cell (by have := h.big; omega) (fun hm => by have := hl _ hm; omega)

/-- tree.isWhole of what begins at k. -/
theorem isWhole_ok (L : List UInt8) (w : World) (hT : Tabs w) (h0 : ¬ L = []) :
    Calls Tryd.prog 25 #[.string ⟨L.toArray⟩] w fun e w' => e = .returned (.bool (decide ((Utf8.decode ⟨L.toArray⟩ 0).2 = 3))) ∧ Below w.heap.size w w' := by
  have cD := Tryd.utf8_DecodeRuneInString ⟨L.toArray⟩ w hT
  have hd : Lib.decodeGo ⟨L.toArray⟩ = Utf8.decode ⟨L.toArray⟩ 0 := by
    unfold Lib.decodeGo
    rw [if_neg (by rw [str_size]; simpa using h0)]
  rw [hd] at cD
  obtain ⟨R, hR⟩ : ∃ R, (Utf8.decode ⟨L.toArray⟩ 0).1 = R := ⟨_, rfl⟩
  obtain ⟨K, hK⟩ : ∃ K, (Utf8.decode ⟨L.toArray⟩ 0).2 = K := ⟨_, rfl⟩
  rw [hR, hK] at cD
  rw [hK]
  have cR := fun W => Tryd.utf8_RuneLen 65533 W
  have hr : Lib.runeLen 65533 = 3 := by decide
  rw [hr] at cR
  clear hd hR hK
  go_enter Tryd.func25, Tryd.ntmps25
  go_wp2_with (first
    | (go_at_call 38; refine cD.mono ?_; rintro e w1 ⟨rfl, hb⟩)
    | (go_at_call 39; refine (cR _).mono ?_; rintro e w2 ⟨rfl, rfl⟩))
  go_ret
  refine ⟨?_, hb⟩
  by_cases e : K = 3
  · subst e; rfl
  · have e' : ¬ ((K : Int) = 3) := by omega
    simp [e, e', Act.eval]

theorem dec_drop (L : List UInt8) (k : Nat) : Utf8.decode ⟨(L.drop k).toArray⟩ 0 = Utf8.decode ⟨L.toArray⟩ k := by
  rw [Tn.dec_at, Tn.dec_at]; simp only [by_drop, List.length_drop, Nat.add_zero, Nat.zero_add, Nat.sub_zero]
theorem iterPos_of {w : World} {k : Nat} {s : ByteArray} {p : Nat} (h : w.heap[k]? = some (.stringIter s p)) : w.iterPos k = p := by simp [World.iterPos, h]
theorem Tabs.below {w w' : World} (h : Tabs w) (hb : Below w.heap.size w w') : Tabs w' :=
  h.kept (Kept.of_below hb) (by simp)

set_option maxHeartbeats 1600000 in
set_option maxRecDepth 100000 in
theorem valid_rest (L : List UInt8) (w : World) (hT : Tabs w) (h0 : ¬ L = []) (h1 : ¬ 32 < L.length) (h2 : ¬ L = [46]) (h3 : ¬ L = [46, 46]) :
    Calls Tryd.prog 14 #[.string ⟨L.toArray⟩] w fun e w' => e = .returned (.bool (Tn.vfrom L 0)) ∧ Below w.heap.size w w' := by
  have hsz := str_size L
  have l0 : (L.length == 0) = false := by simpa using h0
  have l0' : ((L.length : Int) == 0) = false := by simpa using h0
  have l0'' : ¬ ((L.length : Int) = 0) := by simpa using h0
  have e2 : (L == [46]) = false := by simp [h2]
  have e3 : (L == [46, 46]) = false := by simp [h3]
  have e1 : decide (32 < (L.length : Int)) = false := by simp; omega
  have HT : Hid (Tabs w) := hT
  clear hT
  go_enter Tryd.func14, Tryd.ntmps14
  go_wp2
  go_loopw [3] (fun x wr => ∃ k : Nat, wr.heap[w.heap.size]? = some (.stringIter ⟨L.toArray⟩ k) ∧ Hid (Below w.heap.size w wr) ∧ Hid (Tn.vfrom L 0 = Tn.vfrom L k)) (fun x wr => L.length - wr.iterPos w.heap.size)
  case atStart => exact ⟨0, World.iter_heap _ _ _, (Below.refl _ w).alloc (Nat.le_refl _) _, rfl⟩
  case round =>
    obtain ⟨k, hit, HB, HV⟩ := hrel
    have HP : Hid (wr.iterPos w.heap.size = k) := iterPos_of hit
    by_cases hlt : k < L.length
    · have hn := fun ty => Lib.run_next_any_at (P := Tryd.prog) wr w.heap.size ⟨L.toArray⟩ k ty hit (by rw [hsz]; exact hlt)
      have hE := ext_drop L k
      have hit2 := Lib.iterAt_heap wr w.heap.size ⟨L.toArray⟩ k (k + (Utf8.decode ⟨L.toArray⟩ k).2) hit
      have hB2 := Lib.below_iterAt HB.out (Nat.le_refl _) ⟨L.toArray⟩ (k + (Utf8.decode ⟨L.toArray⟩ k).2)
      have hw := isWhole_ok (L.drop k) (wr.iterAt w.heap.size ⟨L.toArray⟩ (k + (Utf8.decode ⟨L.toArray⟩ k).2)) (HT.out.below hB2) (by simp; omega)
      rw [dec_drop] at hw
      have hstep := Tn.vfrom_step hlt
      have hpos := Tn.dec_pos L k
      have hsm : k < 4611686018427387904 := by omega
      obtain ⟨c, hc⟩ : ∃ c, (Utf8.decode ⟨L.toArray⟩ k).1 = c := ⟨_, rfl⟩
      obtain ⟨wd, hwd⟩ : ∃ wd, (Utf8.decode ⟨L.toArray⟩ k).2 = wd := ⟨_, rfl⟩
      simp only [hc, hwd] at hn hit2 hB2 hw hstep hpos
      have HS : Hid (Tn.vfrom L k = (Tn.okc c wd && Tn.vfrom L (k + wd))) := hstep
      have HB2 : Hid (Below w.heap.size w (wr.iterAt w.heap.size ⟨L.toArray⟩ (k + wd))) := hB2
      have HI2 : Hid ((wr.iterAt w.heap.size ⟨L.toArray⟩ (k + wd)).heap[w.heap.size]? = some (.stringIter ⟨L.toArray⟩ (k + wd))) := hit2
      clear hstep hB2 hit2 hc hwd hit
      by_cases b1 : c < 32
      · have b1' : decide ((c : Int) < 32) = true := by simp; omega
        clear hw
        go_wp2
        go_ret
        exact ⟨by rw [HV.out, HS.out, show Tn.okc c wd = false by simp [Tn.okc, b1]]; rfl, HB2.out⟩
      · have b1' : decide ((c : Int) < 32) = false := by simp; omega
        by_cases b2 : c = 127
        · subst b2
          clear hw
          go_wp2
          go_ret
          exact ⟨by rw [HV.out, HS.out, show Tn.okc 127 wd = false by simp [Tn.okc]]; rfl, HB2.out⟩
        · by_cases b3 : c = 47
          · subst b3
            clear hw
            go_wp2
            go_ret
            exact ⟨by rw [HV.out, HS.out, show Tn.okc 47 wd = false by simp [Tn.okc]]; rfl, HB2.out⟩
          · have b2' : ((c : Int) == 127) = false := by simp; omega
            have b3' : ((c : Int) == 47) = false := by simp; omega
            have b2'' : ¬ ((c : Int) = 127) := by omega
            have b3'' : ¬ ((c : Int) = 47) := by omega
            by_cases b4 : c = 65533
            · subst b4
              by_cases b5 : wd = 3
              · subst b5
                simp only [decide_true] at hw
                have HS2 : Hid (Tn.vfrom L 0 = Tn.vfrom L (k + 3)) := by show _ = _; rw [HV.out, HS.out, show Tn.okc 65533 3 = true by decide]; rfl
                clear HS
                go_wp2_with (go_at_call 25; refine hw.mono ?_; rintro e w1 ⟨rfl, hb⟩; have HB3 := hide hb; clear hb hw)
                go_roundw
                case rel =>
                  have q : w1.heap[w.heap.size]? = some (.stringIter ⟨L.toArray⟩ (k + 3)) := by
                    rw [HB3.out.block w.heap.size (Array.getElem?_eq_some_iff.1 HI2.out).1]; exact HI2.out
                  exact ⟨k + 3, q, Below.trans HB2.out (HB3.out.mono (by have := (Array.getElem?_eq_some_iff.1 HI2.out).1; omega)), HS2⟩
                case measure =>
                  have q : w1.heap[w.heap.size]? = some (.stringIter ⟨L.toArray⟩ (k + 3)) := by
                    rw [HB3.out.block w.heap.size (Array.getElem?_eq_some_iff.1 HI2.out).1]; exact HI2.out
                  rw [iterPos_of q, HP.out]; omega
              · have b5' : decide (wd = 3) = false := by simp [b5]
                rw [b5'] at hw
                go_wp2_with (go_at_call 25; refine hw.mono ?_; rintro e w1 ⟨rfl, hb⟩; have HB3 := hide hb; clear hb hw)
                go_ret
                exact ⟨by rw [HV.out, HS.out, show Tn.okc 65533 wd = false by simp [Tn.okc, b5]]; rfl, Below.trans HB2.out (HB3.out.mono (by have := (Array.getElem?_eq_some_iff.1 HI2.out).1; omega))⟩
            · have b4' : ((c : Int) == 65533) = false := by simp; omega
              have b4'' : ¬ ((c : Int) = 65533) := by omega
              have HS2 : Hid (Tn.vfrom L 0 = Tn.vfrom L (k + wd)) := by show _ = _; rw [HV.out, HS.out, show Tn.okc c wd = true by simp [Tn.okc, b1, b2, b3, b4]]; rfl
              clear HS hw
              go_wp2
              go_roundw
              case rel => exact ⟨k + wd, HI2.out, HB2, HS2⟩
              case measure => rw [iterPos_of HI2.out, HP.out]; omega
    · have hn := fun ty => Lib.run_next_end_at (P := Tryd.prog) wr w.heap.size ⟨L.toArray⟩ k ty hit (by rw [hsz]; exact hlt)
      have HV2 : Hid (Tn.vfrom L 0 = true) := by show _ = _; rw [HV.out]; exact Tn.vfrom_end hlt
      clear hit
      go_wp2
      go_ret
      exact ⟨by rw [HV2.out]; rfl, HB.out⟩
/-- tree.Valid. -/
theorem valid_ok (L : List UInt8) (w : World) (hm : L.length ≤ 4611686018427387904) (hT : Tabs w) :
    Calls Tryd.prog 14 #[.string ⟨L.toArray⟩] w fun e w' => e = .returned (.bool (Tn.valid L)) ∧ Below w.heap.size w w' := by
  have wk : ∀ {b : Bool} {e : Ending} {w' : World}, (e = .returned (.bool b) ∧ w' = w) → e = .returned (.bool b) ∧ Below w.heap.size w w' := fun h => ⟨h.1, by rw [h.2]; exact Below.refl _ _⟩
  by_cases h0 : L = []
  · subst h0; rw [Tn.valid_nil]; exact (valid_nil w).mono fun e w' h => wk h
  by_cases h1 : 32 < L.length
  · rw [Tn.valid_long h1]; exact (valid_long L w hm h1).mono fun e w' h => wk h
  by_cases h2 : L = [46]
  · subst h2; rw [Tn.valid_dot]; exact (valid_dot w).mono fun e w' h => wk h
  by_cases h3 : L = [46, 46]
  · subst h3; rw [Tn.valid_dots]; exact (valid_dots w).mono fun e w' h => wk h
  rw [Tn.valid_rest h0 h1 h2 h3]
  exact valid_rest L w hT h0 h1 h2 h3

end Go.Proofs.YtjogfpogdjhglaaDoor
