/-
  Contract: digest.Parse.
-/
import Derived.Test.YthfbpbibpgblaaaDx3
namespace Go.Proofs.Ythfbpbibpgblaaa
open Go.RowKit
set_option linter.unusedVariables false
set_option linter.unusedSimpArgs false

theorem dbyte_of {h l : Nat} {t : List UInt8} {i : Nat} (hh : hiAt t i = h) (hl : loAt t i = l) : ((byteAt t i).toNat : Int) = ((16 * h + l : Nat) : Int) % 256 := by
  unfold byteAt
  rw [hh, hl, show (16 * (h : Int) + (l : Int)).toNat = 16 * h + l by omega, UInt8.toNat_ofNat']
  simp
theorem dbytesOf_get (t : List UInt8) (i : Nat) (h : i < 32) : (bytesOf t).getD i 0 = byteAt t i := by simp [bytesOf, h]
theorem Try.dbuilt0 : Try.prog.built 46 [] = some zero32 := by kernel_rfl

theorem i64_or16 (h l : Nat) (hh : h < 16) (hl : l < 16) : bits .or .i64 ((h : Int) * 16) (l : Int) = ((16 * h + l : Nat) : Int) := by
  rw [show ((h : Int) * 16) = ((16 * h : Nat) : Int) by omega]
  show IntKind.i64.wrap ((BitVec.ofInt 64 ((16 * h : Nat) : Int) ||| BitVec.ofInt 64 (l : Int)).toNat : Int) = _
  rw [BitVec.toNat_or, ofInt_u64 _ (by omega), ofInt_u64 _ (by omega), nat_join 4 (16 * h) l (by omega) (by omega)]
  simp [IntKind.wrap, IntKind.bits, IntKind.signed]
  split <;> omega

set_option maxHeartbeats 800000 in
set_option maxRecDepth 100000 in
theorem parse_ok (t : List UInt8) (w : World) :
    Calls Try.prog 14 #[.string ⟨t.toArray⟩] w fun e w' => e = .returned (.tuple #[.agg (bys (parsed t).1).toArray, .int .i64 (parsed t).2]) ∧ Below w.heap.size w w' := by
  have hz := Try.zeroID
  obtain ⟨r, hr⟩ : ∃ r, r = w.heap.size := ⟨_, rfl⟩
  obtain ⟨g, hg⟩ : ∃ r, r = w.heap.size + 1 := ⟨_, rfl⟩
  have HI : Hid (Fill32 w ((w.alloc (.cells zero32 46)).alloc (.cells zero32 46)) 46 r g (idl (bytesOf t) 0)) := by
    subst hr; subst hg
    exact ⟨heap_alloc2_old _ _ _, heap_alloc2_new _ _ _, rfl, ((Below.refl _ _).alloc (Nat.le_refl _) _).alloc (by simp) _, by omega⟩
  have hr1 : ((w.alloc (.cells zero32 46)).alloc (.cells zero32 46)).heap[w.heap.size]? = some (.cells zero32 46 (0, 0)) := heap_alloc2_old _ _ _
  have hz0 : zero32.all (·.oneCell') = true := bys_all _
  have hbs : (ByteArray.mk t.toArray).size = t.length := by simp [ByteArray.size]
  have FIN : Hid (¬ Good t → ∀ (W : World) (a : Act), Fill32 w W 46 r g (idl (bytesOf t) 0) ∨ W.heap[r]? = some (.cells zero32 46 (0, 0)) → Below w.heap.size w W → a.defers = [] → a.tmps.getD 2 undef = .pointer (some ⟨r, 0, none⟩) → a.tmps.getD 3 undef = .int .i64 20 → bodyPost Try.prog Try.f14 (fun e w' => e = .returned (.tuple #[.agg (bys (parsed t).1).toArray, .int .i64 (parsed t).2]) ∧ Below w.heap.size w w') .ret a (W.setRow r zero32)) := fun hng W a hW hB hd h2 h3 => by
    have hres : W.heap[r]? = some (.cells zero32 46 (0, 0)) := by
      rcases hW with h | h
      · exact h.res
      · exact h
    refine ret_row_slot rfl hd r 46 zero32 (0, 0) _ h2 (setRow_heap _ _ _ _ _ _ hres) Try.underlying46 rfl Try.infoID ⟨?_, below_row hB (by omega) _⟩
    rw [h3, parsed_bad hng]
    rfl
  go_enter Try.func14, Try.ntmps14
  by_cases h64 : t.length = 64
  · have HL : Hid (t.length = 64) := h64
    have hne : ((t.length : Int) != 64) = false := by rw [h64]; rfl
    have hsz : (t.toArray.size : Int) = 64 := by simp [h64]
    go_wp2
    rw [← hg, ← hr]
    clear hr1 hg hne hsz hbs
    have HRr : Hid (r = w.heap.size) := hr
    clear hr
    generalize (w.alloc _).alloc _ = w1 at HI ⊢
    go_loopw [5, 6, 7, 12] (fun _ _ _ i wr => ∃ k : Nat, k ≤ 32 ∧ i = .int .i64 k ∧ Hid (Fill32 w wr 46 r g (idl (bytesOf t) k) ∧ ∀ j, j < k → ¬ Bad t j)) (fun _ _ _ i wr => 32 - (intOf i).toNat)
    case atStart => exact ⟨0, by omega, rfl, HI.out, fun j hj => by omega⟩
    case round =>
      clear HI
      obtain ⟨k, hk, rfl, HR⟩ := hrel
      by_cases hlt : k < 32
      · obtain ⟨j0, hj0⟩ : ∃ j, j = 2 * k := ⟨_, rfl⟩
        obtain ⟨j1, hj1⟩ : ∃ j, j = 2 * k + 1 := ⟨_, rfl⟩
        have e0 : IntKind.i64.wrap (2 * (k : Int)) = j0 := by rw [IntWalk.i64_in _ (by omega)]; omega
        have e1 : IntKind.i64.wrap ((j0 : Int) + 1) = j1 := by rw [IntWalk.i64_in _ (by omega)]; omega
        have e0' : 2 * (k : Int) = j0 := by omega
        have e1' : (j0 : Int) + 1 = j1 := by omega
        have s0 := fun W => Try.signAt t j0 (by omega) W
        have s1 := fun W => Try.signAt t j1 (by omega) W
        have HH : Hid (hiAt t k = dig (t.getD j0 0).toNat) := by rw [hj0]; rfl
        have HLo : Hid (loAt t k = dig (t.getD j1 0).toNat) := by rw [hj1]; rfl
        have b0 := (t.getD j0 0).toNat_lt
        have b1 := (t.getD j1 0).toNat_lt
        have d0 := dig_lt (t.getD j0 0).toNat
        have d1 := dig_lt (t.getD j1 0).toNat
        generalize (t.getD j0 0).toNat = c0 at s0 HH b0 d0
        generalize (t.getD j1 0).toNat = c1 at s1 HLo b1 d1
        have D0 := fun W => digit_ok c0 (by omega) W
        have D1 := fun W => digit_ok c1 (by omega) W
        have HD := (show Hid ((∀ _, _) ∧ (∀ _, _)) from ⟨D0, D1⟩)
        generalize dig c0 = v0 at HH d0 HD D0
        generalize dig c1 = v1 at HLo d1 HD D1
        clear D0 D1 hj0 hj1
        have hd32 : decide ((k : Int) < 32) = true := by simp; omega
        have lk : (k : Int) < 32 := by omega
        go_wp2
        go_quiet (first | (go_at_call_of 25 (Value.int IntKind.u8 (c0 : Int)); exact Calls.quiet_of_same (HD.out.1 _)) | (go_at_call_of 25 (Value.int IntKind.u8 (c1 : Int)); exact Calls.quiet_of_same (HD.out.2 _)))
        have HR2 : Hid (Fill32 w (wr.drewN nq) 46 r g (idl (bytesOf t) k) ∧ ∀ j, j < k → ¬ Bad t j) := ⟨HR.out.1.drewN nq, HR.out.2⟩
        clear HR s0 s1 e0 e1 e0' e1'
        generalize wr.drewN nq = w2 at HR2 ⊢
        have hr2 := HR2.out.1.res
        by_cases hbad : v0 < 0 ∨ v1 < 0
        · have HB2 : Hid (¬ Good t) := fun hG => hG.2 k hlt (by unfold Bad; rw [HH.out, HLo.out]; exact hbad)
          by_cases hv0 : v0 < 0
          · have g0 : decide (v0 < 0) = true := by simpa using hv0
            go_wp2_with (first | refine wpList_buildTo rfl 46 _ rfl (some 32) rfl zero32 (by kernel_rfl) ?_ | refine wpList_store_rowTo rfl 46 (.tmp 2) (.tmp 32) rfl rfl r zero32 rfl rfl 46 zero32 hr2 Try.infoID rfl hz0 ?_)
            exact FIN.out HB2.out _ _ (.inr hr2) HR2.out.1.below rfl rfl rfl
          · have g0 : decide (v0 < 0) = false := by simpa using hv0
            have g1 : decide (v1 < 0) = true := by simp; omega
            clear hbad
            go_wp2_with (first | refine wpList_buildTo rfl 46 _ rfl (some 32) rfl zero32 (by kernel_rfl) ?_ | refine wpList_store_rowTo rfl 46 (.tmp 2) (.tmp 32) rfl rfl r zero32 rfl rfl 46 zero32 hr2 Try.infoID rfl hz0 ?_)
            exact FIN.out HB2.out _ _ (.inr hr2) HR2.out.1.below rfl rfl rfl
        · obtain ⟨h, rfl⟩ := Int.eq_ofNat_of_zero_le (show 0 ≤ v0 by omega)
          obtain ⟨l, rfl⟩ := Int.eq_ofNat_of_zero_le (show 0 ≤ v1 by omega)
          have g0 : decide ((h : Int) < 0) = false := by simp
          have g1 : decide ((l : Int) < 0) = false := by simp
          have hor := i64_or16 h l (by omega) (by omega)
          have hby := dbyte_of HH.out HLo.out
          have ck := HR2.out.1.cell k (by omega)
          have fk := HR2.out.1.frozen k
          have HS : Hid (Fill32 w (w2.setCell ⟨g, k, none⟩ (.int .u8 (((16 * h + l : Nat) : Int) % 256))) 46 r g (idl (bytesOf t) (k + 1)) ∧ ∀ j, j < k + 1 → ¬ Bad t j) := by
            refine ⟨?_, fun j hj => ?_⟩
            · have := HR2.out.1.set k (byteAt t k)
              rw [hby] at this
              rw [idl, dbytesOf_get t k hlt]
              exact this
            · by_cases hjk : j < k
              · exact HR2.out.2 j hjk
              · obtain rfl : j = k := by omega
                unfold Bad
                rw [HH.out, HLo.out]
                exact hbad
          obtain ⟨n, hn⟩ : ∃ n, n = 16 * h + l := ⟨_, rfl⟩
          rw [← hn] at hor HS
          have hn8 : n < 256 := by omega
          have en : (n : Int) % 256 = n := by omega
          rw [en] at HS
          clear HR2 hby hbad hn hr2 en
          generalize (idl (bytesOf t) k).getD k 0 = old at ck
          go_wp2
          go_roundw
          case rel => first | exact ⟨k + 1, by omega, by go_num, HS⟩ | ((repeat apply Exists.intro); exact ⟨⟨k + 1, by omega, by go_num, HS⟩, rfl⟩)
          case measure => simp [intOf]; omega
      · obtain rfl : k = 32 := by omega
        have hG : Good t := ⟨HL.out, HR.out.2⟩
        have hid : idl (bytesOf t) 32 = bytesOf t := by
          rw [idl_eq _ (bytesOf_len t) 32 (by omega), List.take_of_length_le (by rw [bytesOf_len]; omega)]; simp
        have HR2 : Hid (Fill32 w wr 46 r g (bytesOf t)) := by have := HR.out.1; rw [hid] at this; exact this
        have HPG : Hid (parsed t = (bytesOf t, 0)) := parsed_good hG
        clear HR hG hid
        have h1 := HR2.out.arr
        have h2 := HR2.out.res
        have hlen : (bys (bytesOf t)).toArray.size = 32 := by simp [bys_length, bytesOf_len]
        have hinf : (Try.prog.info? 46).map (·.size) = some (bys (bytesOf t)).toArray.size := by rw [hlen]; exact Try.infoID
        have hz1 : zero32.size = (bys (bytesOf t)).toArray.size := by rw [hlen]; rfl
        have hone := bys_all (bytesOf t)
        generalize bytesOf t = F at h1 hlen hinf hone hz1 HPG HR2
        go_wp2_with (first | refine wpList_load_row rfl 46 (.tmp 4) rfl g rfl 46 _ (0, 0) _ h1 Try.underlying46 rfl hinf ?_ | refine wpList_store_rowTo rfl 46 (.tmp 2) (.tmp 41) rfl rfl r (bys F).toArray rfl rfl 46 zero32 h2 hinf hz1 hone ?_)
        refine ret_row_slot rfl rfl r 46 _ (0, 0) _ rfl (setRow_heap _ _ _ _ _ _ h2) Try.underlying46 rfl hinf ⟨?_, below_row HR2.out.below HR2.out.ps.1 _⟩
        rw [HPG.out]
        rfl
  · have hng : Hid (¬ Good t) := fun hG => h64 hG.1
    have hne : ((t.length : Int) != 64) = true := by simp; omega
    have HFill := HI.out
    rw [← hr] at hr1
    go_wp2_with (first | refine wpList_buildTo rfl 46 _ rfl (some 11) rfl zero32 (by kernel_rfl) ?_ | refine wpList_store_rowTo rfl 46 (.tmp 2) (.tmp 11) rfl rfl w.heap.size zero32 rfl rfl 46 zero32 (heap_alloc2_old _ _ _) Try.infoID rfl hz0 ?_)
    subst hr
    exact FIN.out hng.out _ _ (.inl HFill) HFill.below rfl rfl rfl
end Go.Proofs.Ythfbpbibpgblaaa
