/-
  The walk of DigestPieces.
-/
import Derived.Test.YthfbpbibpgblaaaPp0
import Derived.Deep.Cut
import Derived.Deep.RegionHeld3
namespace Go.Proofs.Ythfbpbibpgblaaa
open Go.RowKit
set_option linter.unusedVariables false
set_option linter.unusedSimpArgs false

theorem range_row' {w : World} {g : Nat} {L : List UInt8} {t : TypeId} (h : w.heap[g]? = some (.cells (bys L).toArray t (0, 0))) : w.rangeAt g 0 (bys L) := fun j v hv => by
  rw [cell_of_row _ _ _ _ _ _ h, List.getElem?_toArray, Nat.zero_add]; exact hv
theorem range_kept {w w2 : World} {g : Nat} {L : List Value} (h : w.rangeAt g 0 L) (hk : Kept [] w w2) : w2.rangeAt g 0 L := fun j v hv => hk.cellOf (h j v hv) (by simp)

theorem PcsK.kept {w w2 : World} {ao : Option Addr} {L : List Pc} (h : Pcs w ao L) (hk : Kept [] w w2) (_ : True) : Pcs w2 ao L := fun i hi => by
  obtain ⟨b, off, e, hc, hp⟩ := h i hi
  exact ⟨b, off, e, hk.cellOf hc (by simp), hp.kept hk (by simp)⟩

/-- One piece more. -/
theorem PcRel.more {w wr w3 w4 : World} {base Hb : Nat} {xs : List UInt8} {t : Nat} {v v' : Value} {i : Nat} {L : List Pc} {ro ro2 : Option Addr} {rc : Nat} {dao : Option Addr} (h : PcRel w wr base Hb xs t v i L ro rc dao) (k : Nat) (hk : k ≤ xs.length - t)
    (ho : w3.ownsRow base 31 1 v' (i + 1) (pvs L ++ [.slice ro k rc])) (hk3 : Kept [] w w3) (hk4 : Kept [Hb] w3 w4) (hs : Hs w4 Hb 29 [] [] (xs.take t ++ (xs.drop t).take k)) (hsz : wr.heap.size ≤ w3.heap.size)
    (hr2 : ∀ w, Sl w ro (xs.drop t) → Sl w ro2 ((xs.drop t).drop k)) (hf2 : ∀ a2, ro2 = some a2 → ∃ a, ro = some a ∧ a2.block = a.block) :
    PcRel w w4 base Hb xs (t + k) v' (i + 1) (L ++ [⟨ro, rc, (xs.drop t).take k⟩]) ro2 (rc - k) dao := by
  have hle := h.le
  have htl := h.t
  have hge := h.ge
  have e1 : xs.take (t + k) = xs.take t ++ (xs.drop t).take k := by rw [List.take_add]
  have hlk : ((xs.drop t).take k).length = k := by simp; omega
  refine ⟨by rw [e1]; exact hs, ?_, by simp [h.len], by rw [joined_snoc, h.join, e1], ?_, ?_, by omega, ?_, by omega, hk3.trans hk4 (by simp; omega), ⟨hge.1, hge.2.1, hge.2.2.1, Nat.le_trans (Nat.le_trans hge.2.2.2 hsz) hk4.size⟩⟩
  · rw [pvs_snoc]
    simp only [hlk]
    exact own_keptl ho hk4 (fun q hq => by have := (ho.lt q hq).1; simp; omega)
  · intro c hc
    rcases List.mem_append.1 hc with hc | hc
    · exact h.pcs c hc
    · simp at hc
      subst hc
      exact ⟨h.rest.take k, by show ((xs.drop t).take k).length ≤ rc; omega⟩
  · have := hr2 w h.rest
    rwa [List.drop_drop] at this
  · intro a2 ha2
    obtain ⟨a, ha, hb⟩ := hf2 a2 ha2
    obtain ⟨b, hb1, hb2⟩ := h.far a ha
    exact ⟨b, hb1, hb.trans hb2⟩

set_option maxHeartbeats 4000000 in
set_option maxRecDepth 100000 in
theorem pieces_law (ao : Option Addr) (n cap : Nat) (bo : Option Addr) (m cap2 : Nat) (xs : List UInt8) (zs : List Int) (w : World) (hi : InB w ao n cap xs) (hj : InI w bo m zs) :
    Calls Try.prog 4 #[.slice ao n cap, .slice bo m cap2] w fun e w' => e = .returned (.bool true) ∧ Below w.heap.size w w' := by
  obtain ⟨i0, hinf, hz0, hz1, hz2⟩ := info_parts Try.infoRow
  have HI := hide hi
  have HJ := hide hj
  have hlx := hi.len
  have hle := hi.le
  have hmx := hi.max
  have HLX := hide hlx
  have hzb := Try.zeroB32
  have hzh := Try.zeroHash
  clear hi hj hlx
  go_enter Try.func4, Try.ntmps4
  go_wp2_with (fail)
  refine (known_any _).mono ?_
  rintro e w1 ⟨rfl, hb1⟩
  have hH0 : (w1.alloc (.cells zeroH 29)).heap[w1.heap.size]? = some (.cells zeroH 29 (0, 0)) := heap_alloc_new _ _
  have HP0 : Hid (PcRel w (w1.alloc (.cells zeroH 29)) (w1.heap.size + 1) w1.heap.size xs 0 (.slice none 0 0) 0 [] ao cap ao) :=
    ⟨by rw [List.take_zero]; exact hs_zero_of hH0, World.ownsRow_nil _ _ _ _, rfl, by simp [joined], by simp, by rw [List.drop_zero]; exact HI.out.sl, by have := HLX.out; omega, fun a ha => ⟨a, ha, rfl⟩, Nat.zero_le _, (Kept.of_below hb1).alloc _, by have := hb1.size; omega, hb1.size, by omega, by simp⟩
  clear hH0 hb1
  go_wp2_with (fail)
  generalize w1.alloc _ = w2 at HP0 ⊢
  obtain ⟨Hb, hHb⟩ : ∃ Hb, Hb = w1.heap.size := ⟨_, rfl⟩
  obtain ⟨base, hbase⟩ : ∃ base, base = w1.heap.size + 1 := ⟨_, rfl⟩
  rw [← hbase] at HP0
  rw [← hHb] at HP0 ⊢
  clear hHb hbase
  go_loopw [6, 7, 8] (fun pv rv x wr => ∃ (i t : Nat) (L : List Pc) (po : Option Addr) (pc : Nat) (ro : Option Addr) (rc : Nat), i ≤ m ∧ i ≤ 60 ∧ x = .int .i64 i ∧ pv = .slice po i pc ∧ rv = .slice ro (n - t) rc ∧ Hid (PcRel w wr base Hb xs t (.slice po i pc) i L ro rc ao)) (fun pv rv x wr => m - (intOf x).toNat)
  case atStart => exact ⟨0, 0, [], none, 0, ao, cap, Nat.zero_le _, by omega, rfl, rfl, rfl, HP0⟩
  case round =>
    clear HP0
    obtain ⟨i, t, L, po, pc, ro, rc, him, hi60, rfl, rfl, rfl, HP⟩ := hrel
    have hgeP := HP.out.ge
    have htl := HP.out.t
    have hrle := HP.out.le
    rw [HLX.out] at htl hrle
    by_cases hgo : i < m ∧ i < 60
    · obtain ⟨hgo1, hgo2⟩ := hgo
      obtain ⟨b, off, hbo, hcell⟩ := HJ.out.at_ i hgo1
      subst hbo
      have hwz := HJ.out.wf i hgo1
      have hc0 : wr.cell? ⟨b, off + i, none⟩ = some (.int .i64 (zs.getD i 0)) := HP.out.kept.cellOf hcell (by simp)
      generalize zs.getD i 0 = z at hc0 hwz
      clear hcell
      obtain ⟨r, hr⟩ : ∃ r, r = n - t := ⟨_, rfl⟩
      have HR := hide hr
      rw [← hr] at hrle ⊢
      have hrn : r ≤ n := by omega
      clear hr
      obtain ⟨q, hq⟩ : ∃ q, q = z.tmod ((r : Int) + 1) := ⟨_, rfl⟩
      have hqb : -((r : Int) + 1) < q ∧ q < (r : Int) + 1 := by
        have h1 := Int.tmod_lt_of_pos z (show (0 : Int) < (r : Int) + 1 by omega)
        have h2 := Int.lt_tmod_of_pos z (show (0 : Int) < (r : Int) + 1 by omega)
        rw [hq]
        omega
      have hdn : ¬ ((r : Int) + 1 = 0) := by omega
      have hq' : z.tmod ((r : Int) + 1) = q := hq.symm
      clear hq
      by_cases hq0 : q < 0
      · obtain ⟨k, hk⟩ : ∃ k : Nat, (k : Int) = q + (r : Int) + 1 := ⟨(q + (r : Int) + 1).toNat, by omega⟩
        have hkr : k ≤ r := by omega
        have hkv : q + (r : Int) + 1 = (k : Int) := hk.symm
        clear hk
        go_upto_region 12 with (fail)
        have hlk : ((xs.drop t).take k).length = k := by have h1 := HLX.out; have h2 := HR.out; simp; omega
        have hld : (xs.drop t).length = r := by have h1 := HLX.out; have h2 := HR.out; simp; omega
        have hct : ∀ W, (Instr.slice 31 (.slice ro r rc) none (some (.int .i64 k)) none).run Try.prog W = .ok (.slice ro k rc) W := fun W => cut_to W ro r rc k (by omega)
        obtain ⟨ro2, hcr, hs2, hf2⟩ := cut_rest ro r rc k (xs.drop t) hkr hld hrle
        have HS2 := hide hs2
        have HF2 := hide hf2
        have HLK := hide hlk
        have hka : Kept [] wr (wr.alloc (.cells #[.slice ro k rc] 31)) := (Kept.refl [] wr).alloc _
        have HKA := hide hka
        clear hs2 hf2 hlk hld hka hc0
        go_wp2_with (at_builtin; refine wpList_append_own_at _ rfl (.tmp 39) (.tmp 43) 44 rfl base 31 i0 (.slice none 0 0) 1 24 Try.underlying44 hinf hz0 hz1 hz2 rfl (by decide) (.slice po i pc) i (pvs L) rfl (HP.out.own.alloc _) ⟨wr.heap.size, 0, none⟩ 1 1 [.slice ro k rc] rfl rfl (cell_one_new _ _ _) (by intro u hu; simp at hu; subst hu; rfl) (by unfold maxLen; omega) (by omega) (Nat.le_trans hgeP.2.2.2 HKA.out.size) ?_)
        intro v' w3 ho3 hg3 hnn3 hat3
        have nq : ∀ q, (Value.slice po i pc).ownBlock = some q → base ≤ q := fun q hq => (HP.out.own.lt q hq).1
        have hk3 : Kept (Value.slice po i pc).ownBlock.toList wr w3 := (HKA.out.mono (by simp)).grown hg3 (by intro q hq hlt; simp [hq])
        have hkw : Kept [] w w3 := HP.out.kept.trans hk3 (fun q hq hlt => by have := nq q (by simpa using hq); omega)
        have HHS := hide (HP.out.hs.kept hk3 (fun hm => by have := nq Hb (by simpa using hm); omega))
        have HK3 := hide hkw
        have HSZ := hide hk3.size
        have HO3 := hide ho3
        obtain ⟨po', pc', rfl⟩ := own_shape ho3
        have HWR : Hid (Calls Try.prog 8 #[.pointer (some ⟨Hb, 0, none⟩), .slice ro k rc] w3 fun e w' => e = .returned (.tuple #[]) ∧ Hs w' Hb 29 [] [] (xs.take t ++ (xs.drop t).take k) ∧ Kept [Hb] w3 w') := by
          have := write_ok Hb 29 [] [] (xs.take t) ((xs.drop t).take k) ro rc w3 HHS.out ((HP.out.rest.kept HK3.out (by simp)).take k) (fun hne a ha => by
            have hne2 : xs.drop t ≠ [] := by intro h0; rw [h0] at hne; simp at hne
            obtain ⟨b2, off2, e2, hlt2, _⟩ := HP.out.rest.open hne2
            rw [e2] at ha
            cases ha
            show b2 ≠ Hb
            omega) (by rw [HLK.out]; omega) (by have h1 := HLX.out; rw [HLK.out, List.length_take]; omega) 0 rfl
          rw [HLK.out] at this
          exact this
        have HMO : Hid (∀ w4, Kept [Hb] w3 w4 → Hs w4 Hb 29 [] [] (xs.take t ++ (xs.drop t).take k) → PcRel w w4 base Hb xs (t + k) (.slice po' (i + 1) pc') (i + 1) (L ++ [⟨ro, rc, (xs.drop t).take k⟩]) ro2 (rc - k) ao) := fun w4 hk4 hh4 => HP.out.more k (by have h1 := HLX.out; have h2 := HR.out; omega) HO3.out HK3.out hk4 hh4 HSZ.out HS2.out HF2.out
        have hnk : r - k = n - (t + k) := by have h2 := HR.out; omega
        have HNK := hide hnk
        clear ho3 hg3 hnn3 hat3 nq hk3 hkw HHS HK3 HSZ HO3 HS2 HF2 HKA HP hnk hgeP
        go_wp2_with (fail)
        refine HWR.out.mono ?_
        rintro e w4 ⟨rfl, hh4, hk4⟩
        have HPN := hide (HMO.out w4 hk4 hh4)
        clear hh4 hk4 HMO HWR
        go_wp2
        go_roundw
        case rel => exact ⟨i + 1, t + k, _, po', pc', ro2, rc - k, by omega, by omega, by go_num, rfl, by rw [HNK.out], HPN⟩
        case measure => simp [intOf]; omega
      · have hq1 : 0 ≤ q := by omega
        obtain ⟨k, rfl⟩ : ∃ k : Nat, q = (k : Int) := ⟨q.toNat, by omega⟩
        have hkr : k ≤ r := by omega
        go_upto_region 12 with (fail)
        have hlk : ((xs.drop t).take k).length = k := by have h1 := HLX.out; have h2 := HR.out; simp; omega
        have hld : (xs.drop t).length = r := by have h1 := HLX.out; have h2 := HR.out; simp; omega
        have hct : ∀ W, (Instr.slice 31 (.slice ro r rc) none (some (.int .i64 k)) none).run Try.prog W = .ok (.slice ro k rc) W := fun W => cut_to W ro r rc k (by omega)
        obtain ⟨ro2, hcr, hs2, hf2⟩ := cut_rest ro r rc k (xs.drop t) hkr hld hrle
        have HS2 := hide hs2
        have HF2 := hide hf2
        have HLK := hide hlk
        have hka : Kept [] wr (wr.alloc (.cells #[.slice ro k rc] 31)) := (Kept.refl [] wr).alloc _
        have HKA := hide hka
        clear hs2 hf2 hlk hld hka hc0
        go_wp2_with (at_builtin; refine wpList_append_own_at _ rfl (.tmp 39) (.tmp 43) 44 rfl base 31 i0 (.slice none 0 0) 1 24 Try.underlying44 hinf hz0 hz1 hz2 rfl (by decide) (.slice po i pc) i (pvs L) rfl (HP.out.own.alloc _) ⟨wr.heap.size, 0, none⟩ 1 1 [.slice ro k rc] rfl rfl (cell_one_new _ _ _) (by intro u hu; simp at hu; subst hu; rfl) (by unfold maxLen; omega) (by omega) (Nat.le_trans hgeP.2.2.2 HKA.out.size) ?_)
        intro v' w3 ho3 hg3 hnn3 hat3
        have nq : ∀ q, (Value.slice po i pc).ownBlock = some q → base ≤ q := fun q hq => (HP.out.own.lt q hq).1
        have hk3 : Kept (Value.slice po i pc).ownBlock.toList wr w3 := (HKA.out.mono (by simp)).grown hg3 (by intro q hq hlt; simp [hq])
        have hkw : Kept [] w w3 := HP.out.kept.trans hk3 (fun q hq hlt => by have := nq q (by simpa using hq); omega)
        have HHS := hide (HP.out.hs.kept hk3 (fun hm => by have := nq Hb (by simpa using hm); omega))
        have HK3 := hide hkw
        have HSZ := hide hk3.size
        have HO3 := hide ho3
        obtain ⟨po', pc', rfl⟩ := own_shape ho3
        have HWR : Hid (Calls Try.prog 8 #[.pointer (some ⟨Hb, 0, none⟩), .slice ro k rc] w3 fun e w' => e = .returned (.tuple #[]) ∧ Hs w' Hb 29 [] [] (xs.take t ++ (xs.drop t).take k) ∧ Kept [Hb] w3 w') := by
          have := write_ok Hb 29 [] [] (xs.take t) ((xs.drop t).take k) ro rc w3 HHS.out ((HP.out.rest.kept HK3.out (by simp)).take k) (fun hne a ha => by
            have hne2 : xs.drop t ≠ [] := by intro h0; rw [h0] at hne; simp at hne
            obtain ⟨b2, off2, e2, hlt2, _⟩ := HP.out.rest.open hne2
            rw [e2] at ha
            cases ha
            show b2 ≠ Hb
            omega) (by rw [HLK.out]; omega) (by have h1 := HLX.out; rw [HLK.out, List.length_take]; omega) 0 rfl
          rw [HLK.out] at this
          exact this
        have HMO : Hid (∀ w4, Kept [Hb] w3 w4 → Hs w4 Hb 29 [] [] (xs.take t ++ (xs.drop t).take k) → PcRel w w4 base Hb xs (t + k) (.slice po' (i + 1) pc') (i + 1) (L ++ [⟨ro, rc, (xs.drop t).take k⟩]) ro2 (rc - k) ao) := fun w4 hk4 hh4 => HP.out.more k (by have h1 := HLX.out; have h2 := HR.out; omega) HO3.out HK3.out hk4 hh4 HSZ.out HS2.out HF2.out
        have hnk : r - k = n - (t + k) := by have h2 := HR.out; omega
        have HNK := hide hnk
        clear ho3 hg3 hnn3 hat3 nq hk3 hkw HHS HK3 HSZ HO3 HS2 HF2 HKA HP hnk hgeP
        go_wp2_with (fail)
        refine HWR.out.mono ?_
        rintro e w4 ⟨rfl, hh4, hk4⟩
        have HPN := hide (HMO.out w4 hk4 hh4)
        clear hh4 hk4 HMO HWR
        go_wp2
        go_roundw
        case rel => exact ⟨i + 1, t + k, _, po', pc', ro2, rc - k, by omega, by omega, by go_num, rfl, by rw [HNK.out], HPN⟩
        case measure => simp [intOf]; omega
    · by_cases hex : i < m
      · have hex2 : ¬ i < 60 := by omega
        obtain ⟨k, hr⟩ : ∃ k, k = n - t := ⟨_, rfl⟩
        have HR := hide hr
        rw [← hr] at hrle ⊢
        have hrn : k ≤ n := by omega
        have hkr : k ≤ k := Nat.le_refl _
        clear hr
        have hlk : ((xs.drop t).take k).length = k := by have h1 := HLX.out; have h2 := HR.out; simp; omega
        have hld : (xs.drop t).length = k := by have h1 := HLX.out; have h2 := HR.out; simp; omega
        have hct : ∀ W, (Instr.slice 31 (.slice ro k rc) none (some (.int .i64 k)) none).run Try.prog W = .ok (.slice ro k rc) W := fun W => cut_to W ro k rc k (by omega)
        obtain ⟨ro2, hcr, hs2, hf2⟩ := cut_rest ro k rc k (xs.drop t) hkr hld hrle
        have HS2 := hide hs2
        have HF2 := hide hf2
        have HLK := hide hlk
        have hka : Kept [] wr (wr.alloc (.cells #[.slice ro k rc] 31)) := (Kept.refl [] wr).alloc _
        have HKA := hide hka
        clear hs2 hf2 hlk hld hka
        go_wp2_with (at_builtin; refine wpList_append_own_at _ rfl (.tmp 52) (.tmp 54) 44 rfl base 31 i0 (.slice none 0 0) 1 24 Try.underlying44 hinf hz0 hz1 hz2 rfl (by decide) (.slice po i pc) i (pvs L) rfl (HP.out.own.alloc _) ⟨wr.heap.size, 0, none⟩ 1 1 [.slice ro k rc] rfl rfl (cell_one_new _ _ _) (by intro u hu; simp at hu; subst hu; rfl) (by unfold maxLen; omega) (by omega) (Nat.le_trans hgeP.2.2.2 HKA.out.size) ?_)
        intro v' w3 ho3 hg3 hnn3 hat3
        have nq : ∀ q, (Value.slice po i pc).ownBlock = some q → base ≤ q := fun q hq => (HP.out.own.lt q hq).1
        have hk3 : Kept (Value.slice po i pc).ownBlock.toList wr w3 := (HKA.out.mono (by simp)).grown hg3 (by intro q hq hlt; simp [hq])
        have hkw : Kept [] w w3 := HP.out.kept.trans hk3 (fun q hq hlt => by have := nq q (by simpa using hq); omega)
        have HHS := hide (HP.out.hs.kept hk3 (fun hm => by have := nq Hb (by simpa using hm); omega))
        have HK3 := hide hkw
        have HSZ := hide hk3.size
        have HO3 := hide ho3
        obtain ⟨po', pc', rfl⟩ := own_shape ho3
        have HWR : Hid (Calls Try.prog 8 #[.pointer (some ⟨Hb, 0, none⟩), .slice ro k rc] w3 fun e w' => e = .returned (.tuple #[]) ∧ Hs w' Hb 29 [] [] (xs.take t ++ (xs.drop t).take k) ∧ Kept [Hb] w3 w') := by
          have := write_ok Hb 29 [] [] (xs.take t) ((xs.drop t).take k) ro rc w3 HHS.out ((HP.out.rest.kept HK3.out (by simp)).take k) (fun hne a ha => by
            have hne2 : xs.drop t ≠ [] := by intro h0; rw [h0] at hne; simp at hne
            obtain ⟨b2, off2, e2, hlt2, _⟩ := HP.out.rest.open hne2
            rw [e2] at ha
            cases ha
            show b2 ≠ Hb
            omega) (by rw [HLK.out]; omega) (by have h1 := HLX.out; rw [HLK.out, List.length_take]; omega) 0 rfl
          rw [HLK.out] at this
          exact this
        have HMO : Hid (∀ w4, Kept [Hb] w3 w4 → Hs w4 Hb 29 [] [] (xs.take t ++ (xs.drop t).take k) → PcRel w w4 base Hb xs (t + k) (.slice po' (i + 1) pc') (i + 1) (L ++ [⟨ro, rc, (xs.drop t).take k⟩]) ro2 (rc - k) ao) := fun w4 hk4 hh4 => HP.out.more k (by have h1 := HLX.out; have h2 := HR.out; omega) HO3.out HK3.out hk4 hh4 HSZ.out HS2.out HF2.out
        have hnk : k - k = n - (t + k) := by have h2 := HR.out; omega
        have HNK := hide hnk
        clear ho3 hg3 hnn3 hat3 nq hk3 hkw HHS HK3 HSZ HO3 HS2 HF2 HKA HP hnk hgeP
        go_wp2_with (fail)
        refine HWR.out.mono ?_
        rintro e w4 ⟨rfl, hh4, hk4⟩
        have HPN := hide (HMO.out w4 hk4 hh4)
        clear hh4 hk4 HMO HWR
        have htk : t + k = n := by have h2 := HR.out; omega
        have hxs : xs.take (t + k) = xs := by rw [htk, ← HLX.out]; exact List.take_length
        have HXS := hide hxs
        obtain ⟨L2, hL2⟩ : ∃ L2, L2 = L ++ [⟨ro, rc, (xs.drop t).take k⟩] := ⟨_, rfl⟩
        rw [← hL2] at HPN
        obtain ⟨q, hq0⟩ : ∃ q, po' = some ⟨q, 0, none⟩ := by
          rcases HPN.out.own.2 with ⟨hv, hz⟩ | ⟨q, c', cur, hv, _⟩
          · omega
          · cases hv; exact ⟨q, rfl⟩
        subst hq0
        have hpcs : Pcs w4 (some ⟨q, 0, none⟩) L2 := fun j hj => by
          have hl2 := HPN.out.len
          have hcl := HPN.out.own.cellAt j (by omega)
          have e2 : L2.getD j pc0 = L2[j] := by simp [List.getElem?_eq_getElem hj]
          refine ⟨q, 0, rfl, ?_, ?_⟩
          · rw [Nat.zero_add, hcl, e2]
            simp [pvs, List.getElem?_map, List.getElem?_eq_getElem hj]
          · rw [e2]
            have hm := HPN.out.pcs _ (List.getElem_mem hj)
            exact ⟨hm.1.kept HPN.out.kept (by simp), hm.2⟩
        have HPC := hide hpcs
        have HHS := hide (show Hs w4 Hb 29 [] [] xs by have := HPN.out.hs; rw [HXS.out] at this; exact this)
        have HJN := hide (show joined L2 = xs by have := HPN.out.join; rw [HXS.out] at this; exact this)
        have HLN := hide HPN.out.len
        have HK4 := hide HPN.out.kept
        clear hpcs HPN hL2 hxs HXS htk HLK HR
        have hka4 : Kept [] w4 (w4.alloc (.cells #[.slice ao n cap] 31)) := (Kept.refl [] w4).alloc _
        have HKA4 := hide hka4
        have HP1 : Hid (∀ W : World, Kept [] w W → Pcs (W.alloc (.cells #[.slice ao n cap] 31)) (some ⟨W.heap.size, 0, none⟩) [⟨ao, cap, xs⟩]) := fun W hW => by
          have h := heap_alloc_new W (.cells #[.slice ao n cap] 31)
          intro j hj
          have hi3 : j < 1 := hj
          obtain rfl : j = 0 := by omega
          refine ⟨_, _, rfl, by rw [cell_of_row _ _ _ _ _ _ h, ← HLX.out]; rfl, (HI.out.sl.kept hW (by simp)).kept ((Kept.refl [] W).alloc _) (by simp), ?_⟩
          show xs.length ≤ cap
          have := HLX.out
          omega
        obtain ⟨F0, hF⟩ : ∃ F, F = Sha.full xs := ⟨_, rfl⟩
        have lF : F0.length = 32 := by rw [hF]; exact Sha.full_len _
        obtain ⟨I0, hI⟩ : ∃ I, I = Sha.ident 32 xs := ⟨_, rfl⟩
        have lI : I0.length = 32 := by rw [hI]; exact Sha.ident_len _ _
        have hln : xs.length ≤ 140737488351232 := by have h1 := HLX.out; omega
        have CF1 : Hid (∀ (W : World) (b : Nat), Pcs W (some ⟨b, 0, none⟩) [⟨ao, cap, xs⟩] → Calls Try.prog 12 #[.slice (some ⟨b, 0, none⟩) 1 1] W fun e w' => e = .returned (.agg (bys F0).toArray) ∧ Kept [] W w') := fun W b h => by
          have := full_ok (some ⟨b, 0, none⟩) 1 [⟨ao, cap, xs⟩] W (by simp) h (by simp [joined]; omega) 1 rfl
          rw [show joined [⟨ao, cap, xs⟩] = xs by simp [joined], ← hF] at this
          exact this.mono fun e w' ⟨he, hb⟩ => ⟨he, Kept.of_below hb⟩
        have CO1 : Hid (∀ (W : World) (b : Nat), Pcs W (some ⟨b, 0, none⟩) [⟨ao, cap, xs⟩] → Calls Try.prog 13 #[.int .i64 32, .slice (some ⟨b, 0, none⟩) 1 1] W fun e w' => e = .returned (.agg (bys I0).toArray) ∧ Kept [] W w') := fun W b h => by
          have := of_ok 32 (some ⟨b, 0, none⟩) 1 [⟨ao, cap, xs⟩] W (by simp) h (by simp [joined]; omega) 1 rfl
          rw [show joined [⟨ao, cap, xs⟩] = xs by simp [joined], ← hI] at this
          exact this.mono fun e w' ⟨he, hb⟩ => ⟨he, Kept.of_below hb⟩
        have CFL : Hid (∀ (W : World), Pcs W (some ⟨q, 0, none⟩) L2 → Calls Try.prog 12 #[.slice (some ⟨q, 0, none⟩) (i + 1) pc'] W fun e w' => e = .returned (.agg (bys F0).toArray) ∧ Kept [] W w') := fun W h => by
          have := full_ok (some ⟨q, 0, none⟩) pc' L2 W (by rw [HLN.out]; omega) h (by rw [HJN.out]; omega) (i + 1) HLN.out
          rw [HJN.out, ← hF] at this
          exact this.mono fun e w' ⟨he, hb⟩ => ⟨he, Kept.of_below hb⟩
        have COL : Hid (∀ (W : World), Pcs W (some ⟨q, 0, none⟩) L2 → Calls Try.prog 13 #[.int .i64 32, .slice (some ⟨q, 0, none⟩) (i + 1) pc'] W fun e w' => e = .returned (.agg (bys I0).toArray) ∧ Kept [] W w') := fun W h => by
          have := of_ok 32 (some ⟨q, 0, none⟩) pc' L2 W (by rw [HLN.out]; omega) h (by rw [HJN.out]; omega) (i + 1) HLN.out
          rw [HJN.out, ← hI] at this
          exact this.mono fun e w' ⟨he, hb⟩ => ⟨he, Kept.of_below hb⟩
        have CS1 : Hid (∀ (W : World), Hs W Hb 29 [] [] xs → Calls Try.prog 11 #[.pointer (some ⟨Hb, 0, none⟩)] W fun e w' => e = .returned (.agg (bys F0).toArray) ∧ Kept [] W w') := fun W h => by
          rw [hF]
          exact (sum_ok (some ⟨Hb, 0, none⟩) xs W (.inr ⟨Hb, _, [], [], rfl, h⟩) (by omega)).mono fun e w' ⟨he, hb⟩ => ⟨he, Kept.of_below hb⟩
        have CRF : Hid (∀ (W : World), Kept [] w W → Calls Try.prog 10 #[.slice ao n cap] W fun e w' => e = .returned (.agg (bys F0).toArray) ∧ Kept [] W w') := fun W h => by
          rw [hF]
          exact (rfull_any ao cap xs W n HLX.out (by omega) (HI.out.sl.kept h (by simp)) (fun h => HI.out.nil h)).mono fun e w' ⟨he, hb⟩ => ⟨he, Kept.of_below hb⟩
        clear hF hI hka4
        have iF := Try.info32b F0 lF
        have zF := zero_size F0 lF
        have oF := bys_all F0
        go_wp2_with (fail)
        refine (CF1.out _ _ (HP1.out w4 HK4.out)).mono ?_
        rintro e w5 ⟨rfl, hk5⟩
        have HK5 := hide (HKA4.out.trans hk5 (by simp))
        clear hk5
        go_wp2_with (refine wpList_store_rowTo rfl 39 (.tmp 10) (.tmp 60) rfl rfl w5.heap.size (bys F0).toArray rfl rfl 39 zero32 (heap_alloc_new _ _) iF zF oF ?_)
        have hl5 := laid_new (Below.refl w5.heap.size w5) (Nat.le_refl _) zero32 (bys F0).toArray 39
        obtain ⟨Fb, hFb⟩ : ∃ Z, Z = w5.heap.size := ⟨_, rfl⟩
        rw [← hFb] at hl5 ⊢
        generalize (w5.alloc _).setRow _ _ = w6 at hl5 ⊢
        obtain ⟨hF6, hB6⟩ := hl5
        rw [hFb] at hB6
        have hk46 : Kept [] w4 w6 := HK5.out.trans (Kept.of_below hB6) (by simp)
        have HK6 := hide (HK4.out.trans hk46 (by simp))
        have HH6 := hide (HHS.out.kept hk46 (by simp))
        have HPC6 : Hid (Pcs w6 (some ⟨q, 0, none⟩) L2) := fun j hj => by
          obtain ⟨b, off, e, hc, hp⟩ := HPC.out j hj
          exact ⟨b, off, e, hk46.cellOf hc (by simp), hp.kept hk46 (by simp)⟩
        have rF : Hid (w6.rangeAt Fb 0 (bys F0)) := range_row' hF6
        have HPK : Hid (∀ W, Kept [] w6 W → Pcs W (some ⟨q, 0, none⟩) L2) := fun W h j hj => by
          obtain ⟨b, off, e, hc, hp⟩ := HPC6.out j hj
          exact ⟨b, off, e, h.cellOf hc (by simp), hp.kept h (by simp)⟩
        clear hF6 hB6 hFb hk46 HK5 HPC HHS HKA4 HK4 iF zF oF
        have u39 := Try.underlying39
        have iF' : (Try.prog.info? 39).map (·.size) = some (bys F0).length := Try.info32b F0 lF
        have qF : ∀ W, (Op.equalIn 10000 39 (.agg (bys F0).toArray) (.agg (bys F0).toArray)).run Try.prog W = .ok true W := fun W => by rw [Try.eql32 F0 F0 lF lF W, decide_eq_true rfl]
        have qI : ∀ W, (Op.equalIn 10000 46 (.agg (bys I0).toArray) (.agg (bys I0).toArray)).run Try.prog W = .ok true W := fun W => by rw [Try.eqlID I0 I0 lI lI W, decide_eq_true rfl]
        have g1 : Try.prog.eqGuardType Try.prog.depth 39 = false := by kernel_rfl
        have g2 : Try.prog.eqGuardType Try.prog.depth 46 = false := by kernel_rfl
        go_upto_region 18 with (fail)
        refine wp_region_held_drew (S := fun w' => Kept [] w6 w') (by kernel_rfl) ((Kept.refl [] w6).drew) (fun h0 => ?_)
        generalize World.drew w6 = v0 at h0 ⊢
        refine wpAnyH_take (i := 0) (v := .slice (some ⟨q, 0, none⟩) (i + 1) pc') rfl (by kernel_rfl) (by kernel_rfl) (by kernel_rfl) (fun _ _ _ h => h) (Or.inl ⟨by rfl, fun w hSw => by go_simp⟩) h0 ?_
        try simp only [List.getElem_toArray, List.getElem_cons_zero, List.getElem_cons_succ, Act.put, List.setIfInBounds_toArray, List.set_cons_zero, List.set_cons_succ]
        refine wpAnyH_take (i := 2) rfl (by kernel_rfl) (by kernel_rfl) (by kernel_rfl) (fun _ _ _ h => h) (yieldsIf_load_mid (by rfl) _ _ rfl _ _ rfl _ _ (fun w h => range_kept rF.out h) u39 rfl iF') h0 ?_
        try simp only [List.getElem_toArray, List.getElem_cons_zero, List.getElem_cons_succ, Act.put, List.setIfInBounds_toArray, List.set_cons_zero, List.set_cons_succ]
        refine wpAnyH_ready (rs := [1]) (by kernel_rfl) (by simp) (AllReadyH.cons (i := 1) rfl (fun K hK => ?_) AllReadyH.nil)
        rw [if_pos (by rfl)]
        go_simp
        refine (CFL.out _ (HPK.out _ h0)).mono ?_
        rintro e v1 ⟨rfl, hq⟩
        refine hK.out _ _ (h0.trans hq (by simp)) (fun h1 => ?_)
        clear hK K hq h0
        try simp only [List.getElem_toArray, List.getElem_cons_zero, List.getElem_cons_succ, Act.put, List.setIfInBounds_toArray, List.set_cons_zero, List.set_cons_succ]
        refine wpAnyH_take (i := 3) (v := .bool true) rfl (by kernel_rfl) (by kernel_rfl) (by kernel_rfl) (fun _ _ _ h => h) (Or.inl ⟨by rfl, fun w hSw => by go_simp⟩) h1 ?_
        try simp only [List.getElem_toArray, List.getElem_cons_zero, List.getElem_cons_succ, Act.put, List.setIfInBounds_toArray, List.set_cons_zero, List.set_cons_succ]
        refine wpAnyH_take (i := 4) (v := .bool true) rfl (by kernel_rfl) (by kernel_rfl) (by kernel_rfl) (fun _ _ _ h => h) (Or.inl ⟨by rfl, fun w hSw => by go_simp⟩) h1 ?_
        try simp only [List.getElem_toArray, List.getElem_cons_zero, List.getElem_cons_succ, Act.put, List.setIfInBounds_toArray, List.set_cons_zero, List.set_cons_succ]
        refine wpAnyH_take (i := 6) rfl (by kernel_rfl) (by kernel_rfl) (by kernel_rfl) (fun _ _ _ h => h) (yieldsIf_load_mid (by rfl) _ _ rfl _ _ rfl _ _ (fun w h => range_kept rF.out h) u39 rfl iF') h1 ?_
        try simp only [List.getElem_toArray, List.getElem_cons_zero, List.getElem_cons_succ, Act.put, List.setIfInBounds_toArray, List.set_cons_zero, List.set_cons_succ]
        refine wpAnyH_ready (rs := [5]) (by kernel_rfl) (by simp) (AllReadyH.cons (i := 5) rfl (fun K hK => ?_) AllReadyH.nil)
        rw [if_pos (by rfl)]
        go_simp
        refine (CS1.out _ (HH6.out.kept h1 (by simp))).mono ?_
        rintro e v2 ⟨rfl, hq⟩
        refine hK.out _ _ (h1.trans hq (by simp)) (fun h2 => ?_)
        clear hK K hq h1
        try simp only [List.getElem_toArray, List.getElem_cons_zero, List.getElem_cons_succ, Act.put, List.setIfInBounds_toArray, List.set_cons_zero, List.set_cons_succ]
        refine wpAnyH_take (i := 7) (v := .bool true) rfl (by kernel_rfl) (by kernel_rfl) (by kernel_rfl) (fun _ _ _ h => h) (Or.inl ⟨by rfl, fun w hSw => by go_simp⟩) h2 ?_
        try simp only [List.getElem_toArray, List.getElem_cons_zero, List.getElem_cons_succ, Act.put, List.setIfInBounds_toArray, List.set_cons_zero, List.set_cons_succ]
        refine wpAnyH_take (i := 8) (v := .bool true) rfl (by kernel_rfl) (by kernel_rfl) (by kernel_rfl) (fun _ _ _ h => h) (Or.inl ⟨by rfl, fun w hSw => by go_simp⟩) h2 ?_
        try simp only [List.getElem_toArray, List.getElem_cons_zero, List.getElem_cons_succ, Act.put, List.setIfInBounds_toArray, List.set_cons_zero, List.set_cons_succ]
        refine wpAnyH_take (i := 9) (v := .bool true) rfl (by kernel_rfl) (by kernel_rfl) (by kernel_rfl) (fun _ _ _ h => h) (Or.inl ⟨by rfl, fun w hSw => by go_simp⟩) h2 ?_
        try simp only [List.getElem_toArray, List.getElem_cons_zero, List.getElem_cons_succ, Act.put, List.setIfInBounds_toArray, List.set_cons_zero, List.set_cons_succ]
        refine wpAnyH_take (i := 10) (v := .slice (some ⟨q, 0, none⟩) (i + 1) pc') rfl (by kernel_rfl) (by kernel_rfl) (by kernel_rfl) (fun _ _ _ h => h) (Or.inl ⟨by rfl, fun w hSw => by go_simp⟩) h2 ?_
        try simp only [List.getElem_toArray, List.getElem_cons_zero, List.getElem_cons_succ, Act.put, List.setIfInBounds_toArray, List.set_cons_zero, List.set_cons_succ]
        refine wpAnyH_take (i := 12) (v := .slice ao n cap) rfl (by kernel_rfl) (by kernel_rfl) (by kernel_rfl) (fun _ _ _ h => h) (Or.inl ⟨by rfl, fun w hSw => by go_simp⟩) h2 ?_
        try simp only [List.getElem_toArray, List.getElem_cons_zero, List.getElem_cons_succ, Act.put, List.setIfInBounds_toArray, List.set_cons_zero, List.set_cons_succ]
        refine wpAnyH_ready (rs := [11, 13]) (by kernel_rfl) (by simp) (AllReadyH.cons (i := 11) rfl (fun K hK => ?_) (AllReadyH.cons (i := 13) rfl (fun K hK => ?_) AllReadyH.nil))
        next =>
          rw [if_pos (by rfl)]
          go_simp
          refine (COL.out _ (HPK.out _ h2)).mono ?_
          rintro e v3 ⟨rfl, hq⟩
          refine hK.out _ _ (h2.trans hq (by simp)) (fun h3 => ?_)
          clear hK K hq h2
          try simp only [List.getElem_toArray, List.getElem_cons_zero, List.getElem_cons_succ, Act.put, List.setIfInBounds_toArray, List.set_cons_zero, List.set_cons_succ]
          refine wpAnyH_ready (rs := [13]) (by kernel_rfl) (by simp) (AllReadyH.cons (i := 13) rfl (fun K hK => ?_) AllReadyH.nil)
          rw [if_pos (by rfl)]
          go_simp
          have hp1 : Pcs (v3.alloc (Obj.cells #[.slice ao n cap] 31)) (some ⟨v3.heap.size, 0, none⟩) [⟨ao, cap, xs⟩] := HP1.out (v3) (HK6.out.trans h3 (by simp))
          have gb1 : w6.heap.size ≤ (v3).heap.size := h3.size
          refine hK.out _ _ (h3.alloc (Obj.cells #[.slice ao n cap] 31)) (fun h4 => ?_)
          clear hK K h3
          try simp only [List.getElem_toArray, List.getElem_cons_zero, List.getElem_cons_succ, Act.put, List.setIfInBounds_toArray, List.set_cons_zero, List.set_cons_succ]
          generalize World.alloc (v3) _ = v4 at h4 hp1 ⊢
          generalize (v3).heap.size = b1 at gb1 hp1 ⊢
          refine wpAnyH_ready (rs := [14]) (by kernel_rfl) (by simp) (AllReadyH.cons (i := 14) rfl (fun K hK => ?_) AllReadyH.nil)
          rw [if_pos (by rfl)]
          go_simp
          refine (CO1.out _ _ hp1).mono ?_
          rintro e v5 ⟨rfl, hq⟩
          replace hp1 := PcsK.kept hp1 (hq) trivial
          refine hK.out _ _ (h4.trans hq (by simp)) (fun h5 => ?_)
          clear hK K hq h4
          try simp only [List.getElem_toArray, List.getElem_cons_zero, List.getElem_cons_succ, Act.put, List.setIfInBounds_toArray, List.set_cons_zero, List.set_cons_succ]
          clear hp1
          refine wpAnyH_take (i := 15) (v := .bool true) rfl (by kernel_rfl) (by kernel_rfl) (by kernel_rfl) (fun _ _ _ h => h) (Or.inl ⟨by rfl, fun w hSw => by go_simp⟩) h5 ?_
          try simp only [List.getElem_toArray, List.getElem_cons_zero, List.getElem_cons_succ, Act.put, List.setIfInBounds_toArray, List.set_cons_zero, List.set_cons_succ]
          refine wpAnyH_take (i := 16) (v := .bool true) rfl (by kernel_rfl) (by kernel_rfl) (by kernel_rfl) (fun _ _ _ h => h) (Or.inl ⟨by rfl, fun w hSw => by go_simp⟩) h5 ?_
          try simp only [List.getElem_toArray, List.getElem_cons_zero, List.getElem_cons_succ, Act.put, List.setIfInBounds_toArray, List.set_cons_zero, List.set_cons_succ]
          refine wpAnyH_take (i := 17) (v := .bool true) rfl (by kernel_rfl) (by kernel_rfl) (by kernel_rfl) (fun _ _ _ h => h) (Or.inl ⟨by rfl, fun w hSw => by go_simp⟩) h5 ?_
          try simp only [List.getElem_toArray, List.getElem_cons_zero, List.getElem_cons_succ, Act.put, List.setIfInBounds_toArray, List.set_cons_zero, List.set_cons_succ]
          refine wpAnyH_take (i := 18) rfl (by kernel_rfl) (by kernel_rfl) (by kernel_rfl) (fun _ _ _ h => h) (yieldsIf_load_mid (by rfl) _ _ rfl _ _ rfl _ _ (fun w h => range_kept rF.out h) u39 rfl iF') h5 ?_
          try simp only [List.getElem_toArray, List.getElem_cons_zero, List.getElem_cons_succ, Act.put, List.setIfInBounds_toArray, List.set_cons_zero, List.set_cons_succ]
          refine wpAnyH_take (i := 19) (v := .slice ao n cap) rfl (by kernel_rfl) (by kernel_rfl) (by kernel_rfl) (fun _ _ _ h => h) (Or.inl ⟨by rfl, fun w hSw => by go_simp⟩) h5 ?_
          try simp only [List.getElem_toArray, List.getElem_cons_zero, List.getElem_cons_succ, Act.put, List.setIfInBounds_toArray, List.set_cons_zero, List.set_cons_succ]
          refine wpAnyH_ready (rs := [20]) (by kernel_rfl) (by simp) (AllReadyH.cons (i := 20) rfl (fun K hK => ?_) AllReadyH.nil)
          rw [if_pos (by rfl)]
          go_simp
          refine (CRF.out _ (HK6.out.trans h5 (by simp))).mono ?_
          rintro e v6 ⟨rfl, hq⟩
          refine hK.out _ _ (h5.trans hq (by simp)) (fun h6 => ?_)
          clear hK K hq h5
          try simp only [List.getElem_toArray, List.getElem_cons_zero, List.getElem_cons_succ, Act.put, List.setIfInBounds_toArray, List.set_cons_zero, List.set_cons_succ]
          refine wpAnyH_take (i := 21) (v := .bool true) rfl (by kernel_rfl) (by kernel_rfl) (by kernel_rfl) (fun _ _ _ h => h) (Or.inl ⟨by rfl, fun w hSw => by go_simp⟩) h6 ?_
          try simp only [List.getElem_toArray, List.getElem_cons_zero, List.getElem_cons_succ, Act.put, List.setIfInBounds_toArray, List.set_cons_zero, List.set_cons_succ]
          refine wpAnyH_take (i := 22) (v := .bool true) rfl (by kernel_rfl) (by kernel_rfl) (by kernel_rfl) (fun _ _ _ h => h) (Or.inl ⟨by rfl, fun w hSw => by go_simp⟩) h6 ?_
          try simp only [List.getElem_toArray, List.getElem_cons_zero, List.getElem_cons_succ, Act.put, List.setIfInBounds_toArray, List.set_cons_zero, List.set_cons_succ]
          refine wpAnyH_take (i := 23) (v := .bool true) rfl (by kernel_rfl) (by kernel_rfl) (by kernel_rfl) (fun _ _ _ h => h) (Or.inl ⟨by rfl, fun w hSw => by go_simp⟩) h6 ?_
          try simp only [List.getElem_toArray, List.getElem_cons_zero, List.getElem_cons_succ, Act.put, List.setIfInBounds_toArray, List.set_cons_zero, List.set_cons_succ]
          refine wpAnyH_done (by kernel_rfl) ?_ _
          go_wp2_with (fail)
          go_ret
          exact ⟨rfl, (HK6.out.trans h6 (by simp)).below (Nat.le_refl _) (by simp)⟩
        next =>
          rw [if_pos (by rfl)]
          go_simp
          have hp1 : Pcs (v2.alloc (Obj.cells #[.slice ao n cap] 31)) (some ⟨v2.heap.size, 0, none⟩) [⟨ao, cap, xs⟩] := HP1.out (v2) (HK6.out.trans h2 (by simp))
          have gb1 : w6.heap.size ≤ (v2).heap.size := h2.size
          refine hK.out _ _ (h2.alloc (Obj.cells #[.slice ao n cap] 31)) (fun h3 => ?_)
          clear hK K h2
          try simp only [List.getElem_toArray, List.getElem_cons_zero, List.getElem_cons_succ, Act.put, List.setIfInBounds_toArray, List.set_cons_zero, List.set_cons_succ]
          generalize World.alloc (v2) _ = v3 at h3 hp1 ⊢
          generalize (v2).heap.size = b1 at gb1 hp1 ⊢
          refine wpAnyH_ready (rs := [11]) (by kernel_rfl) (by simp) (AllReadyH.cons (i := 11) rfl (fun K hK => ?_) AllReadyH.nil)
          rw [if_pos (by rfl)]
          go_simp
          refine (COL.out _ (HPK.out _ h3)).mono ?_
          rintro e v4 ⟨rfl, hq⟩
          replace hp1 := PcsK.kept hp1 (hq) trivial
          refine hK.out _ _ (h3.trans hq (by simp)) (fun h4 => ?_)
          clear hK K hq h3
          try simp only [List.getElem_toArray, List.getElem_cons_zero, List.getElem_cons_succ, Act.put, List.setIfInBounds_toArray, List.set_cons_zero, List.set_cons_succ]
          refine wpAnyH_ready (rs := [14]) (by kernel_rfl) (by simp) (AllReadyH.cons (i := 14) rfl (fun K hK => ?_) AllReadyH.nil)
          rw [if_pos (by rfl)]
          go_simp
          refine (CO1.out _ _ hp1).mono ?_
          rintro e v5 ⟨rfl, hq⟩
          replace hp1 := PcsK.kept hp1 (hq) trivial
          refine hK.out _ _ (h4.trans hq (by simp)) (fun h5 => ?_)
          clear hK K hq h4
          try simp only [List.getElem_toArray, List.getElem_cons_zero, List.getElem_cons_succ, Act.put, List.setIfInBounds_toArray, List.set_cons_zero, List.set_cons_succ]
          clear hp1
          refine wpAnyH_take (i := 15) (v := .bool true) rfl (by kernel_rfl) (by kernel_rfl) (by kernel_rfl) (fun _ _ _ h => h) (Or.inl ⟨by rfl, fun w hSw => by go_simp⟩) h5 ?_
          try simp only [List.getElem_toArray, List.getElem_cons_zero, List.getElem_cons_succ, Act.put, List.setIfInBounds_toArray, List.set_cons_zero, List.set_cons_succ]
          refine wpAnyH_take (i := 16) (v := .bool true) rfl (by kernel_rfl) (by kernel_rfl) (by kernel_rfl) (fun _ _ _ h => h) (Or.inl ⟨by rfl, fun w hSw => by go_simp⟩) h5 ?_
          try simp only [List.getElem_toArray, List.getElem_cons_zero, List.getElem_cons_succ, Act.put, List.setIfInBounds_toArray, List.set_cons_zero, List.set_cons_succ]
          refine wpAnyH_take (i := 17) (v := .bool true) rfl (by kernel_rfl) (by kernel_rfl) (by kernel_rfl) (fun _ _ _ h => h) (Or.inl ⟨by rfl, fun w hSw => by go_simp⟩) h5 ?_
          try simp only [List.getElem_toArray, List.getElem_cons_zero, List.getElem_cons_succ, Act.put, List.setIfInBounds_toArray, List.set_cons_zero, List.set_cons_succ]
          refine wpAnyH_take (i := 18) rfl (by kernel_rfl) (by kernel_rfl) (by kernel_rfl) (fun _ _ _ h => h) (yieldsIf_load_mid (by rfl) _ _ rfl _ _ rfl _ _ (fun w h => range_kept rF.out h) u39 rfl iF') h5 ?_
          try simp only [List.getElem_toArray, List.getElem_cons_zero, List.getElem_cons_succ, Act.put, List.setIfInBounds_toArray, List.set_cons_zero, List.set_cons_succ]
          refine wpAnyH_take (i := 19) (v := .slice ao n cap) rfl (by kernel_rfl) (by kernel_rfl) (by kernel_rfl) (fun _ _ _ h => h) (Or.inl ⟨by rfl, fun w hSw => by go_simp⟩) h5 ?_
          try simp only [List.getElem_toArray, List.getElem_cons_zero, List.getElem_cons_succ, Act.put, List.setIfInBounds_toArray, List.set_cons_zero, List.set_cons_succ]
          refine wpAnyH_ready (rs := [20]) (by kernel_rfl) (by simp) (AllReadyH.cons (i := 20) rfl (fun K hK => ?_) AllReadyH.nil)
          rw [if_pos (by rfl)]
          go_simp
          refine (CRF.out _ (HK6.out.trans h5 (by simp))).mono ?_
          rintro e v6 ⟨rfl, hq⟩
          refine hK.out _ _ (h5.trans hq (by simp)) (fun h6 => ?_)
          clear hK K hq h5
          try simp only [List.getElem_toArray, List.getElem_cons_zero, List.getElem_cons_succ, Act.put, List.setIfInBounds_toArray, List.set_cons_zero, List.set_cons_succ]
          refine wpAnyH_take (i := 21) (v := .bool true) rfl (by kernel_rfl) (by kernel_rfl) (by kernel_rfl) (fun _ _ _ h => h) (Or.inl ⟨by rfl, fun w hSw => by go_simp⟩) h6 ?_
          try simp only [List.getElem_toArray, List.getElem_cons_zero, List.getElem_cons_succ, Act.put, List.setIfInBounds_toArray, List.set_cons_zero, List.set_cons_succ]
          refine wpAnyH_take (i := 22) (v := .bool true) rfl (by kernel_rfl) (by kernel_rfl) (by kernel_rfl) (fun _ _ _ h => h) (Or.inl ⟨by rfl, fun w hSw => by go_simp⟩) h6 ?_
          try simp only [List.getElem_toArray, List.getElem_cons_zero, List.getElem_cons_succ, Act.put, List.setIfInBounds_toArray, List.set_cons_zero, List.set_cons_succ]
          refine wpAnyH_take (i := 23) (v := .bool true) rfl (by kernel_rfl) (by kernel_rfl) (by kernel_rfl) (fun _ _ _ h => h) (Or.inl ⟨by rfl, fun w hSw => by go_simp⟩) h6 ?_
          try simp only [List.getElem_toArray, List.getElem_cons_zero, List.getElem_cons_succ, Act.put, List.setIfInBounds_toArray, List.set_cons_zero, List.set_cons_succ]
          refine wpAnyH_done (by kernel_rfl) ?_ _
          go_wp2_with (fail)
          go_ret
          exact ⟨rfl, (HK6.out.trans h6 (by simp)).below (Nat.le_refl _) (by simp)⟩
      · have hex2 : True := trivial
        obtain ⟨k, hr⟩ : ∃ k, k = n - t := ⟨_, rfl⟩
        have HR := hide hr
        rw [← hr] at hrle ⊢
        have hrn : k ≤ n := by omega
        have hkr : k ≤ k := Nat.le_refl _
        clear hr
        have hlk : ((xs.drop t).take k).length = k := by have h1 := HLX.out; have h2 := HR.out; simp; omega
        have hld : (xs.drop t).length = k := by have h1 := HLX.out; have h2 := HR.out; simp; omega
        have hct : ∀ W, (Instr.slice 31 (.slice ro k rc) none (some (.int .i64 k)) none).run Try.prog W = .ok (.slice ro k rc) W := fun W => cut_to W ro k rc k (by omega)
        obtain ⟨ro2, hcr, hs2, hf2⟩ := cut_rest ro k rc k (xs.drop t) hkr hld hrle
        have HS2 := hide hs2
        have HF2 := hide hf2
        have HLK := hide hlk
        have hka : Kept [] wr (wr.alloc (.cells #[.slice ro k rc] 31)) := (Kept.refl [] wr).alloc _
        have HKA := hide hka
        clear hs2 hf2 hlk hld hka
        go_wp2_with (at_builtin; refine wpList_append_own_at _ rfl (.tmp 52) (.tmp 54) 44 rfl base 31 i0 (.slice none 0 0) 1 24 Try.underlying44 hinf hz0 hz1 hz2 rfl (by decide) (.slice po i pc) i (pvs L) rfl (HP.out.own.alloc _) ⟨wr.heap.size, 0, none⟩ 1 1 [.slice ro k rc] rfl rfl (cell_one_new _ _ _) (by intro u hu; simp at hu; subst hu; rfl) (by unfold maxLen; omega) (by omega) (Nat.le_trans hgeP.2.2.2 HKA.out.size) ?_)
        intro v' w3 ho3 hg3 hnn3 hat3
        have nq : ∀ q, (Value.slice po i pc).ownBlock = some q → base ≤ q := fun q hq => (HP.out.own.lt q hq).1
        have hk3 : Kept (Value.slice po i pc).ownBlock.toList wr w3 := (HKA.out.mono (by simp)).grown hg3 (by intro q hq hlt; simp [hq])
        have hkw : Kept [] w w3 := HP.out.kept.trans hk3 (fun q hq hlt => by have := nq q (by simpa using hq); omega)
        have HHS := hide (HP.out.hs.kept hk3 (fun hm => by have := nq Hb (by simpa using hm); omega))
        have HK3 := hide hkw
        have HSZ := hide hk3.size
        have HO3 := hide ho3
        obtain ⟨po', pc', rfl⟩ := own_shape ho3
        have HWR : Hid (Calls Try.prog 8 #[.pointer (some ⟨Hb, 0, none⟩), .slice ro k rc] w3 fun e w' => e = .returned (.tuple #[]) ∧ Hs w' Hb 29 [] [] (xs.take t ++ (xs.drop t).take k) ∧ Kept [Hb] w3 w') := by
          have := write_ok Hb 29 [] [] (xs.take t) ((xs.drop t).take k) ro rc w3 HHS.out ((HP.out.rest.kept HK3.out (by simp)).take k) (fun hne a ha => by
            have hne2 : xs.drop t ≠ [] := by intro h0; rw [h0] at hne; simp at hne
            obtain ⟨b2, off2, e2, hlt2, _⟩ := HP.out.rest.open hne2
            rw [e2] at ha
            cases ha
            show b2 ≠ Hb
            omega) (by rw [HLK.out]; omega) (by have h1 := HLX.out; rw [HLK.out, List.length_take]; omega) 0 rfl
          rw [HLK.out] at this
          exact this
        have HMO : Hid (∀ w4, Kept [Hb] w3 w4 → Hs w4 Hb 29 [] [] (xs.take t ++ (xs.drop t).take k) → PcRel w w4 base Hb xs (t + k) (.slice po' (i + 1) pc') (i + 1) (L ++ [⟨ro, rc, (xs.drop t).take k⟩]) ro2 (rc - k) ao) := fun w4 hk4 hh4 => HP.out.more k (by have h1 := HLX.out; have h2 := HR.out; omega) HO3.out HK3.out hk4 hh4 HSZ.out HS2.out HF2.out
        have hnk : k - k = n - (t + k) := by have h2 := HR.out; omega
        have HNK := hide hnk
        clear ho3 hg3 hnn3 hat3 nq hk3 hkw HHS HK3 HSZ HO3 HS2 HF2 HKA HP hnk hgeP
        go_wp2_with (fail)
        refine HWR.out.mono ?_
        rintro e w4 ⟨rfl, hh4, hk4⟩
        have HPN := hide (HMO.out w4 hk4 hh4)
        clear hh4 hk4 HMO HWR
        have htk : t + k = n := by have h2 := HR.out; omega
        have hxs : xs.take (t + k) = xs := by rw [htk, ← HLX.out]; exact List.take_length
        have HXS := hide hxs
        obtain ⟨L2, hL2⟩ : ∃ L2, L2 = L ++ [⟨ro, rc, (xs.drop t).take k⟩] := ⟨_, rfl⟩
        rw [← hL2] at HPN
        obtain ⟨q, hq0⟩ : ∃ q, po' = some ⟨q, 0, none⟩ := by
          rcases HPN.out.own.2 with ⟨hv, hz⟩ | ⟨q, c', cur, hv, _⟩
          · omega
          · cases hv; exact ⟨q, rfl⟩
        subst hq0
        have hpcs : Pcs w4 (some ⟨q, 0, none⟩) L2 := fun j hj => by
          have hl2 := HPN.out.len
          have hcl := HPN.out.own.cellAt j (by omega)
          have e2 : L2.getD j pc0 = L2[j] := by simp [List.getElem?_eq_getElem hj]
          refine ⟨q, 0, rfl, ?_, ?_⟩
          · rw [Nat.zero_add, hcl, e2]
            simp [pvs, List.getElem?_map, List.getElem?_eq_getElem hj]
          · rw [e2]
            have hm := HPN.out.pcs _ (List.getElem_mem hj)
            exact ⟨hm.1.kept HPN.out.kept (by simp), hm.2⟩
        have HPC := hide hpcs
        have HHS := hide (show Hs w4 Hb 29 [] [] xs by have := HPN.out.hs; rw [HXS.out] at this; exact this)
        have HJN := hide (show joined L2 = xs by have := HPN.out.join; rw [HXS.out] at this; exact this)
        have HLN := hide HPN.out.len
        have HK4 := hide HPN.out.kept
        clear hpcs HPN hL2 hxs HXS htk HLK HR
        have hka4 : Kept [] w4 (w4.alloc (.cells #[.slice ao n cap] 31)) := (Kept.refl [] w4).alloc _
        have HKA4 := hide hka4
        have HP1 : Hid (∀ W : World, Kept [] w W → Pcs (W.alloc (.cells #[.slice ao n cap] 31)) (some ⟨W.heap.size, 0, none⟩) [⟨ao, cap, xs⟩]) := fun W hW => by
          have h := heap_alloc_new W (.cells #[.slice ao n cap] 31)
          intro j hj
          have hi3 : j < 1 := hj
          obtain rfl : j = 0 := by omega
          refine ⟨_, _, rfl, by rw [cell_of_row _ _ _ _ _ _ h, ← HLX.out]; rfl, (HI.out.sl.kept hW (by simp)).kept ((Kept.refl [] W).alloc _) (by simp), ?_⟩
          show xs.length ≤ cap
          have := HLX.out
          omega
        obtain ⟨F0, hF⟩ : ∃ F, F = Sha.full xs := ⟨_, rfl⟩
        have lF : F0.length = 32 := by rw [hF]; exact Sha.full_len _
        obtain ⟨I0, hI⟩ : ∃ I, I = Sha.ident 32 xs := ⟨_, rfl⟩
        have lI : I0.length = 32 := by rw [hI]; exact Sha.ident_len _ _
        have hln : xs.length ≤ 140737488351232 := by have h1 := HLX.out; omega
        have CF1 : Hid (∀ (W : World) (b : Nat), Pcs W (some ⟨b, 0, none⟩) [⟨ao, cap, xs⟩] → Calls Try.prog 12 #[.slice (some ⟨b, 0, none⟩) 1 1] W fun e w' => e = .returned (.agg (bys F0).toArray) ∧ Kept [] W w') := fun W b h => by
          have := full_ok (some ⟨b, 0, none⟩) 1 [⟨ao, cap, xs⟩] W (by simp) h (by simp [joined]; omega) 1 rfl
          rw [show joined [⟨ao, cap, xs⟩] = xs by simp [joined], ← hF] at this
          exact this.mono fun e w' ⟨he, hb⟩ => ⟨he, Kept.of_below hb⟩
        have CO1 : Hid (∀ (W : World) (b : Nat), Pcs W (some ⟨b, 0, none⟩) [⟨ao, cap, xs⟩] → Calls Try.prog 13 #[.int .i64 32, .slice (some ⟨b, 0, none⟩) 1 1] W fun e w' => e = .returned (.agg (bys I0).toArray) ∧ Kept [] W w') := fun W b h => by
          have := of_ok 32 (some ⟨b, 0, none⟩) 1 [⟨ao, cap, xs⟩] W (by simp) h (by simp [joined]; omega) 1 rfl
          rw [show joined [⟨ao, cap, xs⟩] = xs by simp [joined], ← hI] at this
          exact this.mono fun e w' ⟨he, hb⟩ => ⟨he, Kept.of_below hb⟩
        have CFL : Hid (∀ (W : World), Pcs W (some ⟨q, 0, none⟩) L2 → Calls Try.prog 12 #[.slice (some ⟨q, 0, none⟩) (i + 1) pc'] W fun e w' => e = .returned (.agg (bys F0).toArray) ∧ Kept [] W w') := fun W h => by
          have := full_ok (some ⟨q, 0, none⟩) pc' L2 W (by rw [HLN.out]; omega) h (by rw [HJN.out]; omega) (i + 1) HLN.out
          rw [HJN.out, ← hF] at this
          exact this.mono fun e w' ⟨he, hb⟩ => ⟨he, Kept.of_below hb⟩
        have COL : Hid (∀ (W : World), Pcs W (some ⟨q, 0, none⟩) L2 → Calls Try.prog 13 #[.int .i64 32, .slice (some ⟨q, 0, none⟩) (i + 1) pc'] W fun e w' => e = .returned (.agg (bys I0).toArray) ∧ Kept [] W w') := fun W h => by
          have := of_ok 32 (some ⟨q, 0, none⟩) pc' L2 W (by rw [HLN.out]; omega) h (by rw [HJN.out]; omega) (i + 1) HLN.out
          rw [HJN.out, ← hI] at this
          exact this.mono fun e w' ⟨he, hb⟩ => ⟨he, Kept.of_below hb⟩
        have CS1 : Hid (∀ (W : World), Hs W Hb 29 [] [] xs → Calls Try.prog 11 #[.pointer (some ⟨Hb, 0, none⟩)] W fun e w' => e = .returned (.agg (bys F0).toArray) ∧ Kept [] W w') := fun W h => by
          rw [hF]
          exact (sum_ok (some ⟨Hb, 0, none⟩) xs W (.inr ⟨Hb, _, [], [], rfl, h⟩) (by omega)).mono fun e w' ⟨he, hb⟩ => ⟨he, Kept.of_below hb⟩
        have CRF : Hid (∀ (W : World), Kept [] w W → Calls Try.prog 10 #[.slice ao n cap] W fun e w' => e = .returned (.agg (bys F0).toArray) ∧ Kept [] W w') := fun W h => by
          rw [hF]
          exact (rfull_any ao cap xs W n HLX.out (by omega) (HI.out.sl.kept h (by simp)) (fun h => HI.out.nil h)).mono fun e w' ⟨he, hb⟩ => ⟨he, Kept.of_below hb⟩
        clear hF hI hka4
        have iF := Try.info32b F0 lF
        have zF := zero_size F0 lF
        have oF := bys_all F0
        go_wp2_with (fail)
        refine (CF1.out _ _ (HP1.out w4 HK4.out)).mono ?_
        rintro e w5 ⟨rfl, hk5⟩
        have HK5 := hide (HKA4.out.trans hk5 (by simp))
        clear hk5
        go_wp2_with (refine wpList_store_rowTo rfl 39 (.tmp 10) (.tmp 60) rfl rfl w5.heap.size (bys F0).toArray rfl rfl 39 zero32 (heap_alloc_new _ _) iF zF oF ?_)
        have hl5 := laid_new (Below.refl w5.heap.size w5) (Nat.le_refl _) zero32 (bys F0).toArray 39
        obtain ⟨Fb, hFb⟩ : ∃ Z, Z = w5.heap.size := ⟨_, rfl⟩
        rw [← hFb] at hl5 ⊢
        generalize (w5.alloc _).setRow _ _ = w6 at hl5 ⊢
        obtain ⟨hF6, hB6⟩ := hl5
        rw [hFb] at hB6
        have hk46 : Kept [] w4 w6 := HK5.out.trans (Kept.of_below hB6) (by simp)
        have HK6 := hide (HK4.out.trans hk46 (by simp))
        have HH6 := hide (HHS.out.kept hk46 (by simp))
        have HPC6 : Hid (Pcs w6 (some ⟨q, 0, none⟩) L2) := fun j hj => by
          obtain ⟨b, off, e, hc, hp⟩ := HPC.out j hj
          exact ⟨b, off, e, hk46.cellOf hc (by simp), hp.kept hk46 (by simp)⟩
        have rF : Hid (w6.rangeAt Fb 0 (bys F0)) := range_row' hF6
        have HPK : Hid (∀ W, Kept [] w6 W → Pcs W (some ⟨q, 0, none⟩) L2) := fun W h j hj => by
          obtain ⟨b, off, e, hc, hp⟩ := HPC6.out j hj
          exact ⟨b, off, e, h.cellOf hc (by simp), hp.kept h (by simp)⟩
        clear hF6 hB6 hFb hk46 HK5 HPC HHS HKA4 HK4 iF zF oF
        have u39 := Try.underlying39
        have iF' : (Try.prog.info? 39).map (·.size) = some (bys F0).length := Try.info32b F0 lF
        have qF : ∀ W, (Op.equalIn 10000 39 (.agg (bys F0).toArray) (.agg (bys F0).toArray)).run Try.prog W = .ok true W := fun W => by rw [Try.eql32 F0 F0 lF lF W, decide_eq_true rfl]
        have qI : ∀ W, (Op.equalIn 10000 46 (.agg (bys I0).toArray) (.agg (bys I0).toArray)).run Try.prog W = .ok true W := fun W => by rw [Try.eqlID I0 I0 lI lI W, decide_eq_true rfl]
        have g1 : Try.prog.eqGuardType Try.prog.depth 39 = false := by kernel_rfl
        have g2 : Try.prog.eqGuardType Try.prog.depth 46 = false := by kernel_rfl
        go_upto_region 18 with (fail)
        refine wp_region_held_drew (S := fun w' => Kept [] w6 w') (by kernel_rfl) ((Kept.refl [] w6).drew) (fun h0 => ?_)
        generalize World.drew w6 = v0 at h0 ⊢
        refine wpAnyH_take (i := 0) (v := .slice (some ⟨q, 0, none⟩) (i + 1) pc') rfl (by kernel_rfl) (by kernel_rfl) (by kernel_rfl) (fun _ _ _ h => h) (Or.inl ⟨by rfl, fun w hSw => by go_simp⟩) h0 ?_
        try simp only [List.getElem_toArray, List.getElem_cons_zero, List.getElem_cons_succ, Act.put, List.setIfInBounds_toArray, List.set_cons_zero, List.set_cons_succ]
        refine wpAnyH_take (i := 2) rfl (by kernel_rfl) (by kernel_rfl) (by kernel_rfl) (fun _ _ _ h => h) (yieldsIf_load_mid (by rfl) _ _ rfl _ _ rfl _ _ (fun w h => range_kept rF.out h) u39 rfl iF') h0 ?_
        try simp only [List.getElem_toArray, List.getElem_cons_zero, List.getElem_cons_succ, Act.put, List.setIfInBounds_toArray, List.set_cons_zero, List.set_cons_succ]
        refine wpAnyH_ready (rs := [1]) (by kernel_rfl) (by simp) (AllReadyH.cons (i := 1) rfl (fun K hK => ?_) AllReadyH.nil)
        rw [if_pos (by rfl)]
        go_simp
        refine (CFL.out _ (HPK.out _ h0)).mono ?_
        rintro e v1 ⟨rfl, hq⟩
        refine hK.out _ _ (h0.trans hq (by simp)) (fun h1 => ?_)
        clear hK K hq h0
        try simp only [List.getElem_toArray, List.getElem_cons_zero, List.getElem_cons_succ, Act.put, List.setIfInBounds_toArray, List.set_cons_zero, List.set_cons_succ]
        refine wpAnyH_take (i := 3) (v := .bool true) rfl (by kernel_rfl) (by kernel_rfl) (by kernel_rfl) (fun _ _ _ h => h) (Or.inl ⟨by rfl, fun w hSw => by go_simp⟩) h1 ?_
        try simp only [List.getElem_toArray, List.getElem_cons_zero, List.getElem_cons_succ, Act.put, List.setIfInBounds_toArray, List.set_cons_zero, List.set_cons_succ]
        refine wpAnyH_take (i := 4) (v := .bool true) rfl (by kernel_rfl) (by kernel_rfl) (by kernel_rfl) (fun _ _ _ h => h) (Or.inl ⟨by rfl, fun w hSw => by go_simp⟩) h1 ?_
        try simp only [List.getElem_toArray, List.getElem_cons_zero, List.getElem_cons_succ, Act.put, List.setIfInBounds_toArray, List.set_cons_zero, List.set_cons_succ]
        refine wpAnyH_take (i := 6) rfl (by kernel_rfl) (by kernel_rfl) (by kernel_rfl) (fun _ _ _ h => h) (yieldsIf_load_mid (by rfl) _ _ rfl _ _ rfl _ _ (fun w h => range_kept rF.out h) u39 rfl iF') h1 ?_
        try simp only [List.getElem_toArray, List.getElem_cons_zero, List.getElem_cons_succ, Act.put, List.setIfInBounds_toArray, List.set_cons_zero, List.set_cons_succ]
        refine wpAnyH_ready (rs := [5]) (by kernel_rfl) (by simp) (AllReadyH.cons (i := 5) rfl (fun K hK => ?_) AllReadyH.nil)
        rw [if_pos (by rfl)]
        go_simp
        refine (CS1.out _ (HH6.out.kept h1 (by simp))).mono ?_
        rintro e v2 ⟨rfl, hq⟩
        refine hK.out _ _ (h1.trans hq (by simp)) (fun h2 => ?_)
        clear hK K hq h1
        try simp only [List.getElem_toArray, List.getElem_cons_zero, List.getElem_cons_succ, Act.put, List.setIfInBounds_toArray, List.set_cons_zero, List.set_cons_succ]
        refine wpAnyH_take (i := 7) (v := .bool true) rfl (by kernel_rfl) (by kernel_rfl) (by kernel_rfl) (fun _ _ _ h => h) (Or.inl ⟨by rfl, fun w hSw => by go_simp⟩) h2 ?_
        try simp only [List.getElem_toArray, List.getElem_cons_zero, List.getElem_cons_succ, Act.put, List.setIfInBounds_toArray, List.set_cons_zero, List.set_cons_succ]
        refine wpAnyH_take (i := 8) (v := .bool true) rfl (by kernel_rfl) (by kernel_rfl) (by kernel_rfl) (fun _ _ _ h => h) (Or.inl ⟨by rfl, fun w hSw => by go_simp⟩) h2 ?_
        try simp only [List.getElem_toArray, List.getElem_cons_zero, List.getElem_cons_succ, Act.put, List.setIfInBounds_toArray, List.set_cons_zero, List.set_cons_succ]
        refine wpAnyH_take (i := 9) (v := .bool true) rfl (by kernel_rfl) (by kernel_rfl) (by kernel_rfl) (fun _ _ _ h => h) (Or.inl ⟨by rfl, fun w hSw => by go_simp⟩) h2 ?_
        try simp only [List.getElem_toArray, List.getElem_cons_zero, List.getElem_cons_succ, Act.put, List.setIfInBounds_toArray, List.set_cons_zero, List.set_cons_succ]
        refine wpAnyH_take (i := 10) (v := .slice (some ⟨q, 0, none⟩) (i + 1) pc') rfl (by kernel_rfl) (by kernel_rfl) (by kernel_rfl) (fun _ _ _ h => h) (Or.inl ⟨by rfl, fun w hSw => by go_simp⟩) h2 ?_
        try simp only [List.getElem_toArray, List.getElem_cons_zero, List.getElem_cons_succ, Act.put, List.setIfInBounds_toArray, List.set_cons_zero, List.set_cons_succ]
        refine wpAnyH_take (i := 12) (v := .slice ao n cap) rfl (by kernel_rfl) (by kernel_rfl) (by kernel_rfl) (fun _ _ _ h => h) (Or.inl ⟨by rfl, fun w hSw => by go_simp⟩) h2 ?_
        try simp only [List.getElem_toArray, List.getElem_cons_zero, List.getElem_cons_succ, Act.put, List.setIfInBounds_toArray, List.set_cons_zero, List.set_cons_succ]
        refine wpAnyH_ready (rs := [11, 13]) (by kernel_rfl) (by simp) (AllReadyH.cons (i := 11) rfl (fun K hK => ?_) (AllReadyH.cons (i := 13) rfl (fun K hK => ?_) AllReadyH.nil))
        next =>
          rw [if_pos (by rfl)]
          go_simp
          refine (COL.out _ (HPK.out _ h2)).mono ?_
          rintro e v3 ⟨rfl, hq⟩
          refine hK.out _ _ (h2.trans hq (by simp)) (fun h3 => ?_)
          clear hK K hq h2
          try simp only [List.getElem_toArray, List.getElem_cons_zero, List.getElem_cons_succ, Act.put, List.setIfInBounds_toArray, List.set_cons_zero, List.set_cons_succ]
          refine wpAnyH_ready (rs := [13]) (by kernel_rfl) (by simp) (AllReadyH.cons (i := 13) rfl (fun K hK => ?_) AllReadyH.nil)
          rw [if_pos (by rfl)]
          go_simp
          have hp1 : Pcs (v3.alloc (Obj.cells #[.slice ao n cap] 31)) (some ⟨v3.heap.size, 0, none⟩) [⟨ao, cap, xs⟩] := HP1.out (v3) (HK6.out.trans h3 (by simp))
          have gb1 : w6.heap.size ≤ (v3).heap.size := h3.size
          refine hK.out _ _ (h3.alloc (Obj.cells #[.slice ao n cap] 31)) (fun h4 => ?_)
          clear hK K h3
          try simp only [List.getElem_toArray, List.getElem_cons_zero, List.getElem_cons_succ, Act.put, List.setIfInBounds_toArray, List.set_cons_zero, List.set_cons_succ]
          generalize World.alloc (v3) _ = v4 at h4 hp1 ⊢
          generalize (v3).heap.size = b1 at gb1 hp1 ⊢
          refine wpAnyH_ready (rs := [14]) (by kernel_rfl) (by simp) (AllReadyH.cons (i := 14) rfl (fun K hK => ?_) AllReadyH.nil)
          rw [if_pos (by rfl)]
          go_simp
          refine (CO1.out _ _ hp1).mono ?_
          rintro e v5 ⟨rfl, hq⟩
          replace hp1 := PcsK.kept hp1 (hq) trivial
          refine hK.out _ _ (h4.trans hq (by simp)) (fun h5 => ?_)
          clear hK K hq h4
          try simp only [List.getElem_toArray, List.getElem_cons_zero, List.getElem_cons_succ, Act.put, List.setIfInBounds_toArray, List.set_cons_zero, List.set_cons_succ]
          clear hp1
          refine wpAnyH_take (i := 15) (v := .bool true) rfl (by kernel_rfl) (by kernel_rfl) (by kernel_rfl) (fun _ _ _ h => h) (Or.inl ⟨by rfl, fun w hSw => by go_simp⟩) h5 ?_
          try simp only [List.getElem_toArray, List.getElem_cons_zero, List.getElem_cons_succ, Act.put, List.setIfInBounds_toArray, List.set_cons_zero, List.set_cons_succ]
          refine wpAnyH_take (i := 16) (v := .bool true) rfl (by kernel_rfl) (by kernel_rfl) (by kernel_rfl) (fun _ _ _ h => h) (Or.inl ⟨by rfl, fun w hSw => by go_simp⟩) h5 ?_
          try simp only [List.getElem_toArray, List.getElem_cons_zero, List.getElem_cons_succ, Act.put, List.setIfInBounds_toArray, List.set_cons_zero, List.set_cons_succ]
          refine wpAnyH_take (i := 17) (v := .bool true) rfl (by kernel_rfl) (by kernel_rfl) (by kernel_rfl) (fun _ _ _ h => h) (Or.inl ⟨by rfl, fun w hSw => by go_simp⟩) h5 ?_
          try simp only [List.getElem_toArray, List.getElem_cons_zero, List.getElem_cons_succ, Act.put, List.setIfInBounds_toArray, List.set_cons_zero, List.set_cons_succ]
          refine wpAnyH_take (i := 18) rfl (by kernel_rfl) (by kernel_rfl) (by kernel_rfl) (fun _ _ _ h => h) (yieldsIf_load_mid (by rfl) _ _ rfl _ _ rfl _ _ (fun w h => range_kept rF.out h) u39 rfl iF') h5 ?_
          try simp only [List.getElem_toArray, List.getElem_cons_zero, List.getElem_cons_succ, Act.put, List.setIfInBounds_toArray, List.set_cons_zero, List.set_cons_succ]
          refine wpAnyH_take (i := 19) (v := .slice ao n cap) rfl (by kernel_rfl) (by kernel_rfl) (by kernel_rfl) (fun _ _ _ h => h) (Or.inl ⟨by rfl, fun w hSw => by go_simp⟩) h5 ?_
          try simp only [List.getElem_toArray, List.getElem_cons_zero, List.getElem_cons_succ, Act.put, List.setIfInBounds_toArray, List.set_cons_zero, List.set_cons_succ]
          refine wpAnyH_ready (rs := [20]) (by kernel_rfl) (by simp) (AllReadyH.cons (i := 20) rfl (fun K hK => ?_) AllReadyH.nil)
          rw [if_pos (by rfl)]
          go_simp
          refine (CRF.out _ (HK6.out.trans h5 (by simp))).mono ?_
          rintro e v6 ⟨rfl, hq⟩
          refine hK.out _ _ (h5.trans hq (by simp)) (fun h6 => ?_)
          clear hK K hq h5
          try simp only [List.getElem_toArray, List.getElem_cons_zero, List.getElem_cons_succ, Act.put, List.setIfInBounds_toArray, List.set_cons_zero, List.set_cons_succ]
          refine wpAnyH_take (i := 21) (v := .bool true) rfl (by kernel_rfl) (by kernel_rfl) (by kernel_rfl) (fun _ _ _ h => h) (Or.inl ⟨by rfl, fun w hSw => by go_simp⟩) h6 ?_
          try simp only [List.getElem_toArray, List.getElem_cons_zero, List.getElem_cons_succ, Act.put, List.setIfInBounds_toArray, List.set_cons_zero, List.set_cons_succ]
          refine wpAnyH_take (i := 22) (v := .bool true) rfl (by kernel_rfl) (by kernel_rfl) (by kernel_rfl) (fun _ _ _ h => h) (Or.inl ⟨by rfl, fun w hSw => by go_simp⟩) h6 ?_
          try simp only [List.getElem_toArray, List.getElem_cons_zero, List.getElem_cons_succ, Act.put, List.setIfInBounds_toArray, List.set_cons_zero, List.set_cons_succ]
          refine wpAnyH_take (i := 23) (v := .bool true) rfl (by kernel_rfl) (by kernel_rfl) (by kernel_rfl) (fun _ _ _ h => h) (Or.inl ⟨by rfl, fun w hSw => by go_simp⟩) h6 ?_
          try simp only [List.getElem_toArray, List.getElem_cons_zero, List.getElem_cons_succ, Act.put, List.setIfInBounds_toArray, List.set_cons_zero, List.set_cons_succ]
          refine wpAnyH_done (by kernel_rfl) ?_ _
          go_wp2_with (fail)
          go_ret
          exact ⟨rfl, (HK6.out.trans h6 (by simp)).below (Nat.le_refl _) (by simp)⟩
        next =>
          rw [if_pos (by rfl)]
          go_simp
          have hp1 : Pcs (v2.alloc (Obj.cells #[.slice ao n cap] 31)) (some ⟨v2.heap.size, 0, none⟩) [⟨ao, cap, xs⟩] := HP1.out (v2) (HK6.out.trans h2 (by simp))
          have gb1 : w6.heap.size ≤ (v2).heap.size := h2.size
          refine hK.out _ _ (h2.alloc (Obj.cells #[.slice ao n cap] 31)) (fun h3 => ?_)
          clear hK K h2
          try simp only [List.getElem_toArray, List.getElem_cons_zero, List.getElem_cons_succ, Act.put, List.setIfInBounds_toArray, List.set_cons_zero, List.set_cons_succ]
          generalize World.alloc (v2) _ = v3 at h3 hp1 ⊢
          generalize (v2).heap.size = b1 at gb1 hp1 ⊢
          refine wpAnyH_ready (rs := [11]) (by kernel_rfl) (by simp) (AllReadyH.cons (i := 11) rfl (fun K hK => ?_) AllReadyH.nil)
          rw [if_pos (by rfl)]
          go_simp
          refine (COL.out _ (HPK.out _ h3)).mono ?_
          rintro e v4 ⟨rfl, hq⟩
          replace hp1 := PcsK.kept hp1 (hq) trivial
          refine hK.out _ _ (h3.trans hq (by simp)) (fun h4 => ?_)
          clear hK K hq h3
          try simp only [List.getElem_toArray, List.getElem_cons_zero, List.getElem_cons_succ, Act.put, List.setIfInBounds_toArray, List.set_cons_zero, List.set_cons_succ]
          refine wpAnyH_ready (rs := [14]) (by kernel_rfl) (by simp) (AllReadyH.cons (i := 14) rfl (fun K hK => ?_) AllReadyH.nil)
          rw [if_pos (by rfl)]
          go_simp
          refine (CO1.out _ _ hp1).mono ?_
          rintro e v5 ⟨rfl, hq⟩
          replace hp1 := PcsK.kept hp1 (hq) trivial
          refine hK.out _ _ (h4.trans hq (by simp)) (fun h5 => ?_)
          clear hK K hq h4
          try simp only [List.getElem_toArray, List.getElem_cons_zero, List.getElem_cons_succ, Act.put, List.setIfInBounds_toArray, List.set_cons_zero, List.set_cons_succ]
          clear hp1
          refine wpAnyH_take (i := 15) (v := .bool true) rfl (by kernel_rfl) (by kernel_rfl) (by kernel_rfl) (fun _ _ _ h => h) (Or.inl ⟨by rfl, fun w hSw => by go_simp⟩) h5 ?_
          try simp only [List.getElem_toArray, List.getElem_cons_zero, List.getElem_cons_succ, Act.put, List.setIfInBounds_toArray, List.set_cons_zero, List.set_cons_succ]
          refine wpAnyH_take (i := 16) (v := .bool true) rfl (by kernel_rfl) (by kernel_rfl) (by kernel_rfl) (fun _ _ _ h => h) (Or.inl ⟨by rfl, fun w hSw => by go_simp⟩) h5 ?_
          try simp only [List.getElem_toArray, List.getElem_cons_zero, List.getElem_cons_succ, Act.put, List.setIfInBounds_toArray, List.set_cons_zero, List.set_cons_succ]
          refine wpAnyH_take (i := 17) (v := .bool true) rfl (by kernel_rfl) (by kernel_rfl) (by kernel_rfl) (fun _ _ _ h => h) (Or.inl ⟨by rfl, fun w hSw => by go_simp⟩) h5 ?_
          try simp only [List.getElem_toArray, List.getElem_cons_zero, List.getElem_cons_succ, Act.put, List.setIfInBounds_toArray, List.set_cons_zero, List.set_cons_succ]
          refine wpAnyH_take (i := 18) rfl (by kernel_rfl) (by kernel_rfl) (by kernel_rfl) (fun _ _ _ h => h) (yieldsIf_load_mid (by rfl) _ _ rfl _ _ rfl _ _ (fun w h => range_kept rF.out h) u39 rfl iF') h5 ?_
          try simp only [List.getElem_toArray, List.getElem_cons_zero, List.getElem_cons_succ, Act.put, List.setIfInBounds_toArray, List.set_cons_zero, List.set_cons_succ]
          refine wpAnyH_take (i := 19) (v := .slice ao n cap) rfl (by kernel_rfl) (by kernel_rfl) (by kernel_rfl) (fun _ _ _ h => h) (Or.inl ⟨by rfl, fun w hSw => by go_simp⟩) h5 ?_
          try simp only [List.getElem_toArray, List.getElem_cons_zero, List.getElem_cons_succ, Act.put, List.setIfInBounds_toArray, List.set_cons_zero, List.set_cons_succ]
          refine wpAnyH_ready (rs := [20]) (by kernel_rfl) (by simp) (AllReadyH.cons (i := 20) rfl (fun K hK => ?_) AllReadyH.nil)
          rw [if_pos (by rfl)]
          go_simp
          refine (CRF.out _ (HK6.out.trans h5 (by simp))).mono ?_
          rintro e v6 ⟨rfl, hq⟩
          refine hK.out _ _ (h5.trans hq (by simp)) (fun h6 => ?_)
          clear hK K hq h5
          try simp only [List.getElem_toArray, List.getElem_cons_zero, List.getElem_cons_succ, Act.put, List.setIfInBounds_toArray, List.set_cons_zero, List.set_cons_succ]
          refine wpAnyH_take (i := 21) (v := .bool true) rfl (by kernel_rfl) (by kernel_rfl) (by kernel_rfl) (fun _ _ _ h => h) (Or.inl ⟨by rfl, fun w hSw => by go_simp⟩) h6 ?_
          try simp only [List.getElem_toArray, List.getElem_cons_zero, List.getElem_cons_succ, Act.put, List.setIfInBounds_toArray, List.set_cons_zero, List.set_cons_succ]
          refine wpAnyH_take (i := 22) (v := .bool true) rfl (by kernel_rfl) (by kernel_rfl) (by kernel_rfl) (fun _ _ _ h => h) (Or.inl ⟨by rfl, fun w hSw => by go_simp⟩) h6 ?_
          try simp only [List.getElem_toArray, List.getElem_cons_zero, List.getElem_cons_succ, Act.put, List.setIfInBounds_toArray, List.set_cons_zero, List.set_cons_succ]
          refine wpAnyH_take (i := 23) (v := .bool true) rfl (by kernel_rfl) (by kernel_rfl) (by kernel_rfl) (fun _ _ _ h => h) (Or.inl ⟨by rfl, fun w hSw => by go_simp⟩) h6 ?_
          try simp only [List.getElem_toArray, List.getElem_cons_zero, List.getElem_cons_succ, Act.put, List.setIfInBounds_toArray, List.set_cons_zero, List.set_cons_succ]
          refine wpAnyH_done (by kernel_rfl) ?_ _
          go_wp2_with (fail)
          go_ret
          exact ⟨rfl, (HK6.out.trans h6 (by simp)).below (Nat.le_refl _) (by simp)⟩

end Go.Proofs.Ythfbpbibpgblaaa
