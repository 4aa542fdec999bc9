import Derived.Test.YtngaimahhgmciabGreatDoorNmv
import Derived.Defers
import Derived.Recover
import Derived.Laws.Pointers
namespace Go.Proofs.YtngaimahhgmciabGreatDoor
section
open Go.RowKit
set_option linter.unusedVariables false
set_option linter.unusedSimpArgs false

section

variable {w : World} {b : Nat} {ao : Option Addr} {cap : Nat} {xs : List UInt8}

theorem readEntry_none {a : Nat} {p : Int} (h : RdS w b ao cap xs ⟨a, 0, p⟩) (he : Tn.entAt xs a = none) :
    Calls Tryz.prog 79 #[.pointer (some ⟨b, 0, none⟩)] w fun r w' => r = gaveUp ∧ Kept [b] w w' := by
  refine (readEntry_ok h).mono ?_
  rintro r w' ⟨⟨e, a', h1, _⟩ | ⟨_, h2⟩, hk⟩
  · rw [he] at h1; cases h1
  · exact ⟨h2, hk⟩

theorem readEntry_some {a : Nat} {p : Int} {e : Ent} {a' : Nat} (h : RdS w b ao cap xs ⟨a, 0, p⟩) (he : Tn.entAt xs a = some (e, a')) :
    Calls Tryz.prog 79 #[.pointer (some ⟨b, 0, none⟩)] w fun r w' => r = .returned (.agg e.cells.toArray) ∧ RdS w' b ao cap xs ⟨a', 0, p⟩ ∧ Kept [b] w w' := by
  refine (readEntry_ok h).mono ?_
  rintro r w' ⟨⟨e2, a2, h1, h2, h3⟩ | ⟨h1, h2⟩, hk⟩
  · rw [he] at h1; cases h1
    exact ⟨h2, h3, hk⟩
  · rw [he] at h1; cases h1

end
namespace Tn

theorem rd1_val (xs : List UInt8) (p : Int) : (rd1 xs 0 p).1 = (by' xs 0 : Nat) := by
  by_cases h : 0 < xs.length
  · rw [rd1_ok p h]
  · rw [rd1_short p (by omega), by_past (by omega)]; rfl

/-- What a count says of a tree. -/
theorem count_no {xs : List UInt8} {v k c : Nat} (h : Pure.num (xs.drop 1) = (v, k, c)) (hc : c ≠ 0) : parse xs = none := by
  apply parse_head
  by_cases h2 : xs.length < 2
  · exact .inl h2
  · by_cases h3 : by' xs 1 ≤ 32
    · have := num_low (show 1 < xs.length by omega) (by omega)
      rw [h] at this
      simp at this
      omega
    · omega

theorem count_big {xs : List UInt8} {v k : Nat} (h : Pure.num (xs.drop 1) = (v, k, 0)) (hv : 127 < v) : parse xs = none := by
  apply parse_head
  by_cases h2 : xs.length < 2
  · exact .inl h2
  · by_cases h3 : by' xs 1 ≤ 32
    · have := num_low (show 1 < xs.length by omega) (by omega)
      rw [h] at this
      simp at this
      omega
    · omega

/-- Where the reading ends too early, there is no tree. -/
theorem read_stop {xs : List UInt8} {v k : Nat} (h : Pure.num (xs.drop 1) = (v, k, 0)) (hu : ∀ L a, upto xs (1 + k) v = some (L, a) → ¬ (a = xs.length ∧ isTree L = true)) : parse xs = none := by
  by_cases hv : 127 < v
  · exact count_big h hv
  · obtain ⟨_, rfl, rfl⟩ := num_32 h (by omega)
    exact parse_fails hu

theorem read_done {xs : List UInt8} {v k : Nat} {L : List Ent} (h0 : by' xs 0 = 84) (h : Pure.num (xs.drop 1) = (v, k, 0)) (hu : upto xs (1 + k) v = some (L, xs.length)) (ht : isTree L = true) : parse xs = some L := by
  have hl := upto_len hu
  have := isTree_len ht
  obtain ⟨h1, rfl, rfl⟩ := num_32 h (by omega)
  exact parse_works h0 (by omega) (by omega) hu ht

end Tn

/-- What read answers. -/
def ReadEnd (w w' : World) (b : Nat) (xs : List UInt8) (r : Ending) : Prop :=
  ((∃ L v, Tn.parse xs = some L ∧ r = .returned v ∧ OwnE w' w.heap.size v L) ∨ (Tn.parse xs = none ∧ r = gaveUp)) ∧ Kept [b] w w'

set_option maxHeartbeats 6400000 in
set_option maxRecDepth 100000 in
theorem read_ok {w : World} {b : Nat} {ao : Option Addr} {cap : Nat} {xs : List UInt8} (h : RdS w b ao cap xs ⟨0, 0, 0⟩) (hT : Tabs w) (hb2 : 4 ≤ b) :
    Calls Tryz.prog 68 #[.pointer (some ⟨b, 0, none⟩)] w fun r w' => ReadEnd w w' b xs r := by
  have hf := rfixed_st h 1
  have e1 : stFixed xs ⟨0, 0, 0⟩ 1 = Tn.rd1 xs 0 0 := rfl
  rw [e1, Tn.rd1_val] at hf
  have HT := hide hT
  have hlt := h.lt
  have HBL : Hid (xs ≠ [] → ∀ a, ao = some a → a.block < w.heap.size) := fun hx a ha => h.blk hx a ha
  clear hT h e1
  by_cases h84 : Tn.by' xs 0 = 84
  · have hx0 : 0 < xs.length := by
      rcases Nat.lt_or_ge 0 xs.length with g | g
      · exact g
      · rw [Tn.by_past g] at h84; cases h84
    rw [h84, Tn.rd1_ok 0 hx0] at hf
    simp only [Nat.zero_add] at hf
    have H84 := hide h84
    clear h84 hx0
    rcases hq : Pure.num (xs.drop 1) with ⟨v, k, c⟩
    by_cases hc : c = 0
    · subst hc
      have hst : stNumber xs ⟨1, 0, 0⟩ = ((v : Int), (⟨1 + k, 0, 0⟩ : Rs)) := by simp only [stNumber, if_true, hq]
      have hvm : v ≤ 2147483647 := by have := Pure.num_facts (xs.drop 1); rw [hq] at this; simp only at this; omega
      have HQ := hide hq
      have HST := hide hst
      clear hq hst
      have hmt := must_true
      go_enter Tryz.func68, Tryz.ntmps68
      go_upto_region 5 with (first
        | (go_at_call 76; refine hf.mono ?_; rintro r w1 ⟨rfl, hk1, hr1⟩; have hnu := rnumber_st hr1; rw [HST.out] at hnu; have HK1 := hide hk1; clear hk1 hr1 hf)
        | (go_at_call 75; refine (hmt _).mono ?_; rintro r v4 ⟨rfl, hv4⟩; obtain rfl := hv4.symm)
        | (go_at_call 77; refine hnu.mono ?_; rintro r w2 ⟨rfl, hk2, hr2⟩; have hso := isSound_ok hr2; rw [decide_eq_true (show (⟨1 + k, 0, 0⟩ : Rs).e = 0 from rfl)] at hso; have H2 : Hid (Kept [b] w w2 ∧ RdS w2 b ao cap xs ⟨1 + k, 0, 0⟩) := ⟨HK1.out.trans hk2 (by simp), hr2⟩; clear hnu hk2 hr2)
        | (go_at_call 78; refine hso.mono ?_; rintro r w3 ⟨rfl, m3, rfl⟩; have H3 : Hid (Kept [b] w (w2.drewN m3) ∧ RdS (w2.drewN m3) b ao cap xs ⟨1 + k, 0, 0⟩) := ⟨H2.out.1.drewN m3, H2.out.2.drewN m3⟩; clear hso H2; generalize World.drewN w2 m3 = w3 at H3 ⊢))
      clear hmt HK1 HST
      have HT3 : Hid (Tabs w) := HT
      go_wp2_with (fail)
      go_loopw [4, 16] (fun x y wr => ∃ (i : Nat) (L : List Ent) (at_ : Nat), i ≤ v ∧ y = .int .i64 i ∧ Hid (Tn.upto xs (1 + k) i = some (L, at_)) ∧ Hid (OwnE wr w.heap.size x L) ∧ Hid (RdS wr b ao cap xs ⟨at_, 0, 0⟩) ∧ Hid (Kept [b] w wr) ∧ Hid (∀ j, j < L.length → Tn.may (L.take j) (L.getD j ent0) = true)) (fun x y wr => v - (intOf y).toNat)
      case atStart => exact ⟨0, [], 1 + k, Nat.zero_le _, rfl, rfl, ⟨World.ownsRow_nil _ _ _ _, by simp⟩, H3.out.2, H3.out.1, fun j hj => by simp at hj⟩
      case round =>
        obtain ⟨i, L, at_, hi, rfl, HU, HO, HR, HK, HM⟩ := hrel
        have hLl : L.length ≤ 32 := Tn.isTree_len (Tn.isTree_yes HM.out)
        have hLi : L.length = i := Tn.upto_len HU.out
        by_cases hlt2 : i < v
        · rcases hea : Tn.entAt xs at_ with _ | ⟨e, a'⟩
          · have hre := readEntry_none HR.out hea
            have hp := hide (Tn.read_stop HQ.out (fun L' a2 h2 => by rw [Tn.upto_stop HU.out hea v hlt2] at h2; cases h2))
            clear hea
            go_wp2_with (go_at_call 79; refine hre.mono ?_; rintro r w5 ⟨rfl, hk5⟩; have HK5 := hide (HK.out.trans hk5 (by simp)); clear hre hk5)
            exact ⟨rfl, .inr ⟨hp.out, rfl⟩, HK5.out⟩
          · have hre := readEntry_some HR.out hea
            have hok := (Tn.rd_some (p := 0) hea).2.2.2
            obtain ⟨ao4, cap4, hx4, hlc4, hE4, hbl4, hcm4⟩ := HO.out.ents
            subst hx4
            have HEA := hide hea
            have HOK := hide hok
            have HE4 := hide (And.intro hE4 hbl4)
            have hia : (Tryz.prog.info? 45).map (·.size) = some e.cells.toArray.size := by rw [ent_size hok]; exact Tryz.infoEntry
            have hzs := zero_size hok
            have hal := ent_all e
            have hz := Tryz.zeroEntry
            clear hea hok hE4 hbl4
            go_upto_region 8 with (first
              | (go_at_call 79; refine hre.mono ?_; rintro r w5 ⟨rfl, hr5, hk5⟩; have hnz := new_zero w5; have H5 : Hid (RdS w5 b ao cap xs ⟨a', 0, 0⟩ ∧ Kept [b] wr w5) := ⟨hr5, hk5⟩; clear hre hr5 hk5)
              | refine wpList_store_rowTo rfl 45 (.tmp 5) (.tmp 19) rfl rfl w5.heap.size e.cells.toArray rfl rfl 45 zeroE hnz hia hzs hal ?_)
            have hW : (w5.alloc (.cells zeroE 45)).setRow w5.heap.size e.cells.toArray = withEnt w5 e := rfl
            rw [hW]
            have hWb := withEnt_below w5 e
            have hWr := withEnt_row w5 e
            have k1 : Kept [b] w w5 := HK.out.trans H5.out.2 (by simp)
            have k2 : Kept [b] w (withEnt w5 e) := k1.trans (Kept.of_below hWb) (by simp)
            have k3 : Kept [b] wr (withEnt w5 e) := H5.out.2.trans (Kept.of_below hWb) (by simp)
            have t2 : Tabs (withEnt w5 e) := HT3.out.kept k2 (by simp; omega)
            have r2 : RdS (withEnt w5 e) b ao cap xs ⟨a', 0, 0⟩ := H5.out.1.kept (Kept.of_below hWb) (by simp) (by simp)
            have ob : ∀ g, (Value.slice ao4 L.length cap4).ownBlock = some g → w.heap.size ≤ g := fun g hg => by
              cases ao4 with
              | none => simp [Value.ownBlock] at hg
              | some a4 =>
                obtain ⟨g', rfl, h1, _, h2⟩ := HE4.out.2 a4 rfl
                rw [hg] at h2; cases h2; exact h1
            have o2 : OwnE (withEnt w5 e) w.heap.size (Value.slice ao4 L.length cap4) L := HO.out.kept k3 (fun g hg => by have := ob g hg; simp; omega)
            have e2 : Ents (withEnt w5 e) ao4 L := HE4.out.1.kept k3 (fun _ a ha => by obtain ⟨g, rfl, h1, _, _⟩ := HE4.out.2 a ha; simp; omega)
            have hmay := mayFollow_ok ao4 i cap4 L e (withEnt w5 e) hLi e2 HOK.out t2 (by omega)
            have HW : Hid (Kept [b] w (withEnt w5 e) ∧ RdS (withEnt w5 e) b ao cap xs ⟨a', 0, 0⟩ ∧ OwnE (withEnt w5 e) w.heap.size (Value.slice ao4 L.length cap4) L ∧ ∀ g, (Value.slice ao4 L.length cap4).ownBlock = some g → w.heap.size ≤ g) := ⟨k2, r2, o2, ob⟩
            obtain ⟨B5, hB5⟩ : ∃ B5, w5.heap.size = B5 := ⟨_, rfl⟩
            rw [hB5] at hWr ⊢
            clear hW hWb k1 k2 k3 t2 r2 ob o2 e2 H5 HE4 hnz
            generalize withEnt w5 e = W at *
            obtain ⟨M, hM⟩ : ∃ M, Tn.may L e = M := ⟨_, rfl⟩
            rw [hM] at hmay
            have HMM := hide hM
            clear hM hB5
            cases M with
            | false =>
              have hp := hide (Tn.read_stop HQ.out (fun L' a2 h2 => by rw [Tn.upto_no HU.out HEA.out HMM.out v hlt2 L' a2 h2]; simp))
              have hmf := must_false
              go_wp2_with (first
                | refine wpList_load_row rfl 45 (.tmp 5) rfl B5 rfl 45 _ (0, 0) _ hWr Tryz.underlying45 rfl hia ?_
                | (go_at_call 80; refine hmay.mono ?_; rintro r w6 ⟨rfl, hb6⟩; have HK6 := hide (HW.out.1.trans (Kept.of_below hb6) (by simp)); clear hmay hb6)
                | (go_at_call 75; refine (hmf _).mono ?_; rintro r v4 ⟨rfl, rfl⟩; clear hmf))
              exact ⟨rfl, .inr ⟨hp.out, rfl⟩, HK6.out⟩
            | true =>
              have hmt := must_true
              go_upto_region 9 with (first
                | refine wpList_load_row rfl 45 (.tmp 5) rfl B5 rfl 45 _ (0, 0) _ hWr Tryz.underlying45 rfl hia ?_
                | (go_at_call 80; refine hmay.mono ?_; rintro r w6 ⟨rfl, hb6⟩; have HB6 := hide hb6; clear hmay hb6)
                | (go_at_call 75; refine (hmt _).mono ?_; rintro r v4 ⟨rfl, hv4⟩; obtain rfl := hv4.symm))
              have k6 : Kept [] W w6 := Kept.of_below HB6.out
              have r6 : w6.heap[B5]? = some (.cells e.cells.toArray 45 (0, 0)) := by rw [k6.block B5 (Array.getElem?_eq_some_iff.1 hWr).1 (by simp)]; exact hWr
              have o6 := HW.out.2.2.1.kept k6 (by simp)
              obtain ⟨v7, w7, hrun, o7, k7, g7⟩ := run_appE w6 w.heap.size _ L e o6 HOK.out (by omega) (Nat.le_trans HW.out.1.size k6.size)
              rw [hLi] at hrun
              clear hmt hWr
              have hok := HOK.out
              go_wp2_with (first
                | refine wpList_load_row rfl 45 (.tmp 5) rfl B5 rfl 45 _ (0, 0) _ r6 Tryz.underlying45 rfl hia ?_
                | refine wpList_build1 rfl (.tmp 25) rfl e rfl hok ?_
                | refine wpList_app_run rfl (.tmp 24) (.tmp 26) 43 43 rfl _ _ rfl rfl v7 w7 hrun ?_)
              go_roundw
              case rel =>
                have hob : ∀ g, (Value.slice ao4 L.length cap4).ownBlock = some g → w.heap.size ≤ g := HW.out.2.2.2
                have k67 : Kept [b] w w7 := by
                  have kx := HW.out.1.trans k6 (by simp)
                  have ky := k7 ((Value.slice ao4 L.length cap4).ownBlock.toList) (by simp)
                  exact kx.trans ky (fun g hg hlt => by have := hob g (by simpa using hg); omega)
                have ky := k7 ((Value.slice ao4 L.length cap4).ownBlock.toList) (by simp)
                refine ⟨i + 1, L ++ [e], a', by omega, by go_num, Tn.upto_next HU.out HEA.out, o7, ?_, k67, fun j hj => ?_⟩
                · have r6' := HW.out.2.1.kept k6 (by simp) (by simp)
                  have hbl := HR.out
                  refine r6'.kept ky (fun hm => ?_) (fun hx a ha hm => ?_)
                  · have := hob b (by simpa using hm); omega
                  · have h1 := hob a.block (by simpa using hm)
                    have h2 := HBL.out hx a ha
                    omega
                · by_cases hj2 : j < L.length
                  · have e1 : (L ++ [e]).take j = L.take j := List.take_append_of_le_length (by omega)
                    have e2 : (L ++ [e]).getD j ent0 = L.getD j ent0 := by simp [List.getD, List.getElem?_append_left hj2]
                    rw [e1, e2]; exact HM.out j hj2
                  · obtain rfl : j = L.length := by simp at hj; omega
                    have e1 : (L ++ [e]).take L.length = L := by simp
                    have e2 : (L ++ [e]).getD L.length ent0 = e := by simp [List.getD]
                    rw [e1, e2]; exact HMM.out
              case measure => simp [intOf]; omega
        · obtain rfl : i = v := by omega
          have hle := left_st HR.out
          have hat : at_ ≤ xs.length := by
            obtain ⟨a1, h1, h2⟩ := HR.out
            have e1 : a1 = at_ := h1 rfl
            rw [← e1]; exact h2.le
          have hsm : xs.length ≤ 140737488355328 := by
            obtain ⟨a1, h1, h2⟩ := HR.out
            exact h2.small
          have hst : stLeft xs ⟨at_, 0, 0⟩ = ((xs.length - at_ : Nat) : Int) := by simp [stLeft]
          rw [hst] at hle
          have ht := Tn.isTree_yes HM.out
          obtain ⟨m, hm⟩ : ∃ m, xs.length - at_ = m := ⟨_, rfl⟩
          rw [hm] at hle
          by_cases hz : m = 0
          · subst hz
            obtain rfl : at_ = xs.length := by omega
            have hp := hide (Tn.read_done H84.out HQ.out HU.out ht)
            have hmt := must_true
            clear ht hm hst
            go_wp2_with (first
              | (go_at_call 81; refine hle.mono ?_; rintro r w5 ⟨rfl, m5, rfl⟩; clear hle)
              | (go_at_call 75; refine (hmt _).mono ?_; rintro r v4 ⟨rfl, hv4⟩; obtain rfl := hv4.symm; clear hmt))
            go_ret
            exact ⟨.inl ⟨L, _, hp.out, rfl, HO.out.kept ((Kept.refl [] wr).drewN m5) (by simp)⟩, HK.out.drewN m5⟩
          · have hz' : ((m : Int) == 0) = false := by simp; omega
            have hp := hide (Tn.read_stop HQ.out (fun L' a2 h2 => by rw [HU.out] at h2; cases h2; omega))
            have hmf := must_false
            clear ht hm hst
            go_wp2_with (first
              | (go_at_call 81; refine hle.mono ?_; rintro r w5 ⟨rfl, m5, rfl⟩; clear hle)
              | (go_at_call 75; refine (hmf _).mono ?_; rintro r v4 ⟨rfl, rfl⟩; clear hmf))
            exact ⟨rfl, .inr ⟨hp.out, rfl⟩, HK.out.drewN m5⟩
    · have hst : stNumber xs ⟨1, 0, 0⟩ = (0, (⟨1, (c : Int), 1⟩ : Rs)) := by simp only [stNumber, if_true, hq]; rw [if_neg hc]; rfl
      have hp := hide (Tn.count_no hq hc)
      have hce : decide ((⟨1, (c : Int), 1⟩ : Rs).e = 0) = false := by simp; omega
      have HST := hide hst
      clear hq hst
      have hmt := must_true
      have hmf := must_false
      go_enter Tryz.func68, Tryz.ntmps68
      go_wp2_with (first
        | (go_at_call 76; refine hf.mono ?_; rintro r w1 ⟨rfl, hk1, hr1⟩; have hnu := rnumber_st hr1; rw [HST.out] at hnu; have HK1 := hide hk1; clear hk1 hr1 hf)
        | (go_at_call_of 75 (Value.bool true); refine (hmt _).mono ?_; rintro r v4 ⟨rfl, hv4⟩; obtain rfl := hv4.symm)
        | (go_at_call 77; refine hnu.mono ?_; rintro r w2 ⟨rfl, hk2, hr2⟩; have hso := isSound_ok hr2; rw [hce] at hso; have H2 : Hid (Kept [b] w w2) := HK1.out.trans hk2 (by simp); clear hnu hk2 hr2)
        | (go_at_call 78; refine hso.mono ?_; rintro r w3 ⟨rfl, m3, rfl⟩; have H3 : Hid (Kept [b] w (w2.drewN m3)) := H2.out.drewN m3; clear hso H2; generalize World.drewN w2 m3 = w3 at H3 ⊢)
        | (go_at_call_of 75 (Value.bool false); refine (hmf _).mono ?_; rintro r v4 ⟨rfl, rfl⟩; clear hmf))
      exact ⟨rfl, .inr ⟨hp.out, rfl⟩, H3.out⟩
  · have h84' : (((Tn.by' xs 0 : Nat) : Int) == 84) = false := by simp; omega
    have hp := hide (Tn.parse_head (xs := xs) (.inr (.inl h84)))
    generalize Tn.by' xs 0 = K at *
    have hmf := must_false
    go_enter Tryz.func68, Tryz.ntmps68
    go_wp2_with (first
      | (go_at_call 76; refine hf.mono ?_; rintro r w1 ⟨rfl, hk1, hr1⟩; have HK := hide hk1; clear hk1 hr1 hf)
      | (go_at_call 75; refine (hmf _).mono ?_; rintro r v4 ⟨rfl, rfl⟩; clear hmf))
    exact ⟨rfl, .inr ⟨hp.out, rfl⟩, HK.out⟩
end

section
open Go.RowKit
set_option linter.unusedVariables false
set_option linter.unusedSimpArgs false

set_option maxRecDepth 100000 in
theorem catch_panicking (p q : Nat) (x : Value) (n : Int) (u : TypeId) (pv : Value) (older : List PanicEntry) (w : World) (hc : w.cell? ⟨p, 0, none⟩ = some x) (hz : w.frozen? ⟨p, 0, none⟩ = false) (hc2 : w.cell? ⟨q, 0, none⟩ = some (.int .i64 n)) (hz2 : w.frozen? ⟨q, 0, none⟩ = false) (hpq : p ≠ q) :
    CallsD Tryz.prog 67 #[.pointer (some ⟨p, 0, none⟩), .pointer (some ⟨q, 0, none⟩)] (.panicking ({ v := .iface u pv, recovered := false } :: older)) w fun e u' w' =>
      e = .returned (.tuple #[]) ∧ u' = .panicking ({ v := .iface u pv, recovered := true } :: older) ∧ w' = (w.setCell ⟨p, 0, none⟩ (.slice none 0 0)).setCell ⟨q, 0, none⟩ (.int .i64 70) := by
  refine callsD_of_wpS Tryz.func67 rfl fun c₀ cs hu => ?_
  apply wpS_seq
  apply wpS_region
  simp [wpOpsS, go_sem, recoverD, hu, Tryz.ntmps67, Exit.thenS]
  refine wpS_cond (t := true) (by simp [Act.eval, Array.replicate]) ?_
  simp only [if_true]
  apply wpS_region
  have h3 : (w.setCell ⟨p, 0, none⟩ (.slice none 0 0)).cell? ⟨q, 0, none⟩ = some (.int .i64 n) := by
    rw [World.cell?_setCell_other _ _ _ _ (by intro e; cases e; exact hpq rfl)]; exact hc2
  have h4 : (w.setCell ⟨p, 0, none⟩ (.slice none 0 0)).frozen? ⟨q, 0, none⟩ = false := by simpa using hz2
  have e0 : (#[Value.pointer (some ⟨p, 0, none⟩), Value.pointer (some ⟨q, 0, none⟩)] ++ ((Array.replicate 2 undef).setIfInBounds 0 (Value.iface u pv)).setIfInBounds 1 (Value.bool true)) = #[Value.pointer (some ⟨p, 0, none⟩), Value.pointer (some ⟨q, 0, none⟩), Value.iface u pv, Value.bool true] := rfl
  rw [e0]
  simp [wpOpsS, go_sem, hc, hz, h3, h4, bodyPostS, results, Tryz.results67]

set_option maxRecDepth 100000 in
theorem catch_idle (p q : Nat) (w : World) :
    CallsD Tryz.prog 67 #[.pointer (some ⟨p, 0, none⟩), .pointer (some ⟨q, 0, none⟩)] .returning w fun e u' w' => e = .returned (.tuple #[]) ∧ u' = .returning ∧ w' = w := by
  refine callsD_of_wpS Tryz.func67 rfl fun c₀ cs hu => ?_
  apply wpS_seq
  apply wpS_region
  simp [wpOpsS, go_sem, recoverD, hu, Tryz.ntmps67, Exit.thenS]
  refine wpS_cond (t := false) (by simp [Act.eval, Array.replicate]) ?_
  simp only [Bool.false_eq_true, if_false]
  refine wpS_of_wp (wp_skip ?_)
  cases c₀
  simp_all [bodyPostS, results, Tryz.results67]

theorem two_set (w : World) (A B : Nat) (hAB : A ≠ B) (x y : Value) {x0 y0 : Value} (hA : w.cell? ⟨A, 0, none⟩ = some x0) (hB : w.cell? ⟨B, 0, none⟩ = some y0) :
    ((w.setCell ⟨A, 0, none⟩ x).setCell ⟨B, 0, none⟩ y).cell? ⟨A, 0, none⟩ = some x ∧ ((w.setCell ⟨A, 0, none⟩ x).setCell ⟨B, 0, none⟩ y).cell? ⟨B, 0, none⟩ = some y := by
  have n1 : (⟨A, 0, none⟩ : Addr) ≠ ⟨B, 0, none⟩ := fun e => hAB (by injection e)
  refine ⟨?_, ?_⟩
  · rw [World.cell?_setCell_other _ _ _ _ (by first | exact n1 | exact n1.symm)]
    exact World.cell?_setCell_same _ _ _ hA
  · refine World.cell?_setCell_same _ _ _ (u := y0) ?_
    rw [World.cell?_setCell_other _ _ _ _ (by first | exact n1 | exact n1.symm)]
    exact hB

/-- What Parse answers: entries of its own and a number. -/
def ToldE (w w' : World) (r : Ending) (o : Option (List Ent)) : Prop :=
  (∃ v, r = .returned (.tuple #[v, .int .i64 (Tn.code o.isSome)]) ∧ OwnE w' w.heap.size v (o.getD [])) ∧ Below w.heap.size w w'

set_option maxHeartbeats 1600000 in
set_option maxRecDepth 100000 in
theorem parse_ok (ao : Option Addr) (n cap : Nat) (xs : List UInt8) (w : World) (hn : xs.length = n) (hm : n ≤ 140737488355328) (hs : Sl w ao xs) (h0 : ao = none → xs = [] ∧ cap = 0) (hT : Tabs w) :
    Calls Tryz.prog 55 #[.slice ao n cap] w fun r w' => ToldE w w' r (Tn.parse xs) := by
  have hmf : ∀ (fn : Fn) (first cap : Array Value) (w : World), (Instr.makeFunc fn first cap).run Tryz.prog w = .ok (.func fn first cap) w := fun _ _ _ _ => rfl
  have HT := hide hT
  have HS := hide hs
  clear hs hT
  go_enter_defers Tryz.func55, Tryz.ntmps55
  go_wp2_with (fail)
  obtain ⟨W0, hW0⟩ : ∃ W0, (w.alloc (.cells #[.slice none 0 0] 43)).alloc (.cells #[.int .i64 0] 38) = W0 := ⟨_, rfl⟩
  rw [hW0]
  have kb : Kept [] w W0 := by rw [← hW0]; exact ((Kept.refl [] w).alloc _).alloc _
  have sz : W0.heap.size = w.heap.size + 2 := by rw [← hW0]; simp
  have cA : W0.cell? ⟨w.heap.size, 0, none⟩ = some (.slice none 0 0) := by rw [← hW0]; simp [go_sem]
  have cB : W0.cell? ⟨w.heap.size + 1, 0, none⟩ = some (.int .i64 0) := by rw [← hW0]; simp [go_sem]
  have fA : W0.frozen? ⟨w.heap.size, 0, none⟩ = false := by rw [← hW0]; simp [go_sem]
  have fB : W0.frozen? ⟨w.heap.size + 1, 0, none⟩ = false := by rw [← hW0]; simp [go_sem]
  clear hW0
  refine (read_any ao n cap xs W0 hn (by omega) (HS.out.kept kb (by simp)) h0).mono ?_
  rintro r w1 ⟨b, ao', cap', rfl, hb, hbl, hbl2, hrd, hk1⟩
  have hkb1 : Kept [] w w1 := kb.trans hk1 (by simp)
  have hro := read_ok (w := w1) (b := b) (ao := ao') (cap := cap') (xs := xs) ⟨0, fun _ => rfl, hrd⟩ (HT.out.kept hkb1 (by simp)) (by have := HT.out.big; omega)
  have hlt := hrd.lt
  have sz1 := hk1.size
  have dA := hk1.cellOf cA (by simp)
  have dB := hk1.cellOf cB (by simp)
  have gA : w1.frozen? ⟨w.heap.size, 0, none⟩ = false := by rw [hk1.frozen (by simp; omega) (by simp)]; exact fA
  have gB : w1.frozen? ⟨w.heap.size + 1, 0, none⟩ = false := by rw [hk1.frozen (by simp; omega) (by simp)]; exact fB
  clear cA cB fA fB hrd hbl hbl2 hk1
  rcases hp : Tn.parse xs with _ | L
  · have hro2 : Calls Tryz.prog 68 #[.pointer (some ⟨b, 0, none⟩)] w1 fun r w' => r = gaveUp ∧ Kept [b] w1 w' := by
      refine hro.mono ?_
      rintro r w' ⟨⟨L, v, h1, _⟩ | ⟨_, h2⟩, hk⟩
      · rw [hp] at h1; cases h1
      · exact ⟨h2, hk⟩
    clear hro
    go_wp2_with (go_at_call 68; refine hro2.mono ?_; rintro r w2 ⟨rfl, hk2⟩; have HK2 := hide hk2; clear hro2 hk2)
    have k2 := HK2.out
    have iA : w.heap.size ∉ [b] := by simp; omega
    have iB : w.heap.size + 1 ∉ [b] := by simp; omega
    have lA : w.heap.size < w1.heap.size := by omega
    have lB : w.heap.size + 1 < w1.heap.size := by omega
    refine leaves_cons (f := 67) (args := #[.pointer (some ⟨w.heap.size, 0, none⟩), .pointer (some ⟨w.heap.size + 1, 0, none⟩)]) (by simp) (by simp [go_sem]) ?_
    refine (catch_panicking w.heap.size (w.heap.size + 1) _ 0 _ _ [] w2 (k2.cellOf dA iA) ((k2.frozen lA iA).trans gA) (k2.cellOf dB iB) ((k2.frozen lB iB).trans gB) (by omega)).mono ?_
    rintro e u' w'' ⟨rfl, rfl, rfl⟩
    obtain ⟨W3, hW3⟩ : ∃ W3, (w2.setCell ⟨w.heap.size, 0, none⟩ (.slice none 0 0)).setCell ⟨w.heap.size + 1, 0, none⟩ (.int .i64 70) = W3 := ⟨_, rfl⟩
    obtain ⟨eA, eB⟩ : W3.cell? ⟨w.heap.size, 0, none⟩ = some (.slice none 0 0) ∧ W3.cell? ⟨w.heap.size + 1, 0, none⟩ = some (.int .i64 70) := by
      rw [← hW3]; exact two_set w2 _ _ (by omega) _ _ (k2.cellOf dA iA) (k2.cellOf dB iB)
    have k3 : Kept [b, w.heap.size, w.heap.size + 1] w1 W3 := by rw [← hW3]; exact ((k2.mono (by simp)).setCell (by simp) _).setCell (by simp) _
    have hB : Below w.heap.size w W3 := (hkb1.below (Nat.le_refl _) (by simp)).trans (k3.below hkb1.size (by simp; omega))
    rw [hW3]
    simp [Leaves, settle, results, Tryz.results55, go_sem, eA, eB]
    rw [hp]
    exact ⟨⟨_, rfl, World.ownsRow_nil _ _ _ _, by simp⟩, hB⟩
  · have hro2 : Calls Tryz.prog 68 #[.pointer (some ⟨b, 0, none⟩)] w1 fun r w' => (∃ v, r = .returned v ∧ OwnE w' w1.heap.size v L) ∧ Kept [b] w1 w' := by
      refine hro.mono ?_
      rintro r w' ⟨⟨L', v, h1, h2, h3⟩ | ⟨h1, h2⟩, hk⟩
      · rw [hp] at h1; cases h1
        exact ⟨⟨v, h2, h3⟩, hk⟩
      · rw [hp] at h1; cases h1
    clear hro
    go_wp2_with (go_at_call 68; refine hro2.mono ?_; rintro r w2 ⟨⟨v, rfl, hv⟩, hk2⟩; have HK2 := hide (And.intro hk2 hv); obtain ⟨ao2, cap2, hv2, _, _, hbv, _⟩ := hv.ents; subst hv2; have HBV := hide hbv; have dA2 : w2.cell? ⟨w.heap.size, 0, none⟩ = some (.slice none 0 0) := hk2.cellOf dA (by simp; omega); have dB2 : w2.cell? ⟨w.heap.size + 1, 0, none⟩ = some (.int .i64 0) := hk2.cellOf dB (by simp; omega); have gA2 : w2.frozen? ⟨w.heap.size, 0, none⟩ = false := (hk2.frozen (show w.heap.size < w1.heap.size by omega) (by simp; omega)).trans gA; have gB2 : w2.frozen? ⟨w.heap.size + 1, 0, none⟩ = false := (hk2.frozen (show w.heap.size + 1 < w1.heap.size by omega) (by simp; omega)).trans gB; clear hro2 hk2 hv hbv)
    refine leaves_cons (f := 67) (args := #[.pointer (some ⟨w.heap.size, 0, none⟩), .pointer (some ⟨w.heap.size + 1, 0, none⟩)]) (by simp) (by simp [go_sem]) ?_
    refine (catch_idle w.heap.size (w.heap.size + 1) _).mono ?_
    rintro e u' w'' ⟨rfl, rfl, rfl⟩
    obtain ⟨W3, hW3⟩ : ∃ W3, (w2.setCell ⟨w.heap.size, 0, none⟩ (.slice ao2 L.length cap2)).setCell ⟨w.heap.size + 1, 0, none⟩ (.int .i64 0) = W3 := ⟨_, rfl⟩
    obtain ⟨eA, eB⟩ : W3.cell? ⟨w.heap.size, 0, none⟩ = some (.slice ao2 L.length cap2) ∧ W3.cell? ⟨w.heap.size + 1, 0, none⟩ = some (.int .i64 0) := by
      rw [← hW3]; exact two_set w2 _ _ (by omega) _ _ dA2 dB2
    have k3 : Kept [w.heap.size, w.heap.size + 1] w2 W3 := by rw [← hW3]; exact ((Kept.refl _ w2).setCell (by simp) _).setCell (by simp) _
    have k4 : Kept [b, w.heap.size, w.heap.size + 1] w1 W3 := (HK2.out.1.mono (by simp)).trans k3 (by simp)
    have hB : Below w.heap.size w W3 := (hkb1.below (Nat.le_refl _) (by simp)).trans (k4.below hkb1.size (by simp; omega))
    have hO : OwnE W3 w1.heap.size (.slice ao2 L.length cap2) L := HK2.out.2.kept k3 (fun g hg => by
      cases ao2 with
      | none => simp [Value.ownBlock] at hg
      | some a4 =>
        obtain ⟨g', rfl, h1, _, h2⟩ := HBV.out a4 rfl
        rw [hg] at h2; cases h2
        simp; omega)
    have hO2 : OwnE W3 w.heap.size (.slice ao2 L.length cap2) L := ⟨own_base hO.1 (by omega), hO.2⟩
    rw [hW3]
    simp [Leaves, settle, results, Tryz.results55, go_sem, eA, eB]
    rw [hp]
    exact ⟨⟨_, rfl, hO2⟩, hB⟩
end

end Go.Proofs.YtngaimahhgmciabGreatDoor
