/-
  The walk: freightlaw3.RollAfresh.
-/
import Derived.Test.YtjfekdcghgpchaaEs
import Derived.Test.YtjfekdcghgpchaaEa
import Derived.Deep.Cut
import Derived.Deep.RegionHeld3
namespace Go.Proofs.Ytjfekdcghgpchaa
open Go.RowKit
set_option linter.unusedVariables false
set_option linter.unusedSimpArgs false

/-- At the head of the loop. -/
structure AfRel (w wr : World) (p g q : Nat) (all : List UInt8) (n i : Nat) : Prop where
  ro : Ro wr p g (wat all n i)
  sl : Sl wr (some ⟨q, 0, none⟩) all
  kept : Kept [] w wr
  ge : w.heap.size ≤ p ∧ w.heap.size ≤ g
  ne : q ≠ p ∧ q ≠ g

set_option maxHeartbeats 4000000 in
set_option maxRecDepth 100000 in
theorem afresh_walk (ao : Option Addr) (n cap : Nat) (bo : Option Addr) (m cap2 : Nat) (xs ys : List UInt8) (w : World) (hi : InB w ao n cap xs) (hj : InB w bo m cap2 ys) :
    Calls Try.prog 8 #[.slice ao n cap, .slice bo m cap2] w fun e w' => e = .returned (.bool true) ∧ Below w.heap.size w w' := by
  by_cases hb0 : n < 1
  · obtain rfl : n = 0 := by omega
    clear hi hj
    go_enter Try.func8, Try.ntmps8
    go_wp2
    go_ret
    exact ⟨rfl, Below.refl _ _⟩
  by_cases hb1 : 4096 < n
  · clear hi hj
    go_enter Try.func8, Try.ntmps8
    go_wp2
    go_ret
    exact ⟨rfl, Below.refl _ _⟩
  by_cases hb2 : 3000 < m
  · clear hi hj
    go_enter Try.func8, Try.ntmps8
    go_wp2
    go_ret
    exact ⟨rfl, Below.refl _ _⟩
  have hmn : (m : Int) * (n : Int) ≤ 300000000 := by
    have : m * n ≤ 3000 * 100000 := Nat.mul_le_mul (by omega) (by omega)
    have e : ((m * n : Nat) : Int) = (m : Int) * (n : Int) := by simp
    omega
  have hmn0 : 0 ≤ (m : Int) * (n : Int) := Int.mul_nonneg (by omega) (by omega)
  by_cases hb3 : 3000000 < (m : Int) * (n : Int)
  · clear hi hj
    go_enter Try.func8, Try.ntmps8
    go_wp2
    go_ret
    exact ⟨rfl, Below.refl _ _⟩
  have HI : Hid (InB w ao n cap xs) := hi
  have HJ : Hid (InB w bo m cap2 ys) := hj
  clear hi hj
  have hn1 : 1 ≤ n := by omega
  have hn2 : n ≤ 4096 := by omega
  have hml := HJ.out.max
  have hjl := HJ.out.len
  have hil := HI.out.len
  have hjn := HJ.out.nil
  have hin := HI.out.nil
  have hjc := HJ.out.le
  go_enter Try.func8, Try.ntmps8
  go_wp2_with (first | (go_at_call 14; refine (begun_ok ao n cap xs _ HI.out.len hn1 hn2 HI.out.sl).mono ?_; rintro e w1 ⟨p, g, rfl, hro1, hpw, hgw, hk1⟩; have HRO1 : Hid (Ro w1 p g xs) := hro1; have HK1 : Hid (Kept [] w w1) := hk1; clear hro1 hk1) | (at_builtin; refine wpList_append_row _ rfl (.tmp 42) (.tmp 43) rfl w1.heap.size w1.heap.size 0 0 [] rfl (World.ownsRow_made w1 #[] 0 (Nat.le_refl _) (by decide) rfl) ao n cap xs rfl (HI.out.sl.kept (HK1.out.alloc _) (by simp)) HI.out.len HI.out.nil (by omega) (by simp) ?_))
  intro g1 c1 w2 ho1 hg1
  have HO1 : Hid (w2.ownsRow w1.heap.size 5 1 (.slice (some ⟨g1, 0, none⟩) n c1) n (bys xs)) := ho1
  have HK2 : Hid (Kept [] w1 w2) := ((Kept.refl [] w1).alloc _).grown hg1 (by intro k hk hlt; cases hk; omega)
  clear ho1 hg1
  go_wp2_with (at_builtin; refine wpList_append_row _ rfl (.tmp 44) (.tmp 45) rfl w1.heap.size g1 n c1 xs rfl HO1.out bo m cap2 ys rfl (HJ.out.sl.kept (HK1.out.trans HK2.out (by simp)) (by simp)) HJ.out.len HJ.out.nil (by omega) HK2.out.size ?_)
  intro q c2 w3 ho2 hg2
  obtain ⟨hq1, hq2, hq3, hq4⟩ := own_sl' ho2
  have hgo := (own_sl' HO1.out).1
  have hk3 : Kept [] w1 w3 := HK2.out.grown hg2 (by intro k hk hlt; cases hk; omega)
  obtain ⟨all, hall⟩ : ∃ all, all = xs ++ ys := ⟨_, rfl⟩
  rw [← hall] at hq4
  have hpl := HRO1.out.ltp
  have hgl := HRO1.out.ltg
  have hw0 : wat all n 0 = xs := by rw [hall]; simp only [wat, List.drop_zero]; rw [← HI.out.len]; exact List.take_left
  have hlen : all.length = n + m := by rw [hall]; simp [HI.out.len, HJ.out.len]
  have HR0 : Hid (AfRel w w3 p g q all n 0) := ⟨by rw [hw0]; exact HRO1.out.kept hk3 (by simp) (by simp), hq4, HK1.out.trans hk3 (by simp), ⟨hpw, hgw⟩, by omega, by omega⟩
  have HLEN : Hid (all.length = n + m) := hlen
  have HNX : Hid (∀ i, i < m → wat all n i = all.getD i 0 :: (all.drop (i + 1)).take (n - 1) ∧ wat all n (i + 1) = (all.drop (i + 1)).take (n - 1) ++ [ys.getD i 0]) := fun i hi => by
    refine ⟨wat_head all n i (by omega) (by omega), ?_⟩
    rw [wat_next all n i (by omega) (by omega)]
    have : all.getD (i + n) 0 = ys.getD i 0 := by
      rw [hall]
      simp only [List.getD_eq_getElem?_getD]
      rw [List.getElem?_append_right (by have := HI.out.len; omega)]
      congr 2
      have := HI.out.len; omega
    rw [this]
  clear ho2 hg2 hq1 hq2 hq4 hgo hk3 hpl hgl hw0 hlen HRO1 HK2 HO1 hall
  go_wp2
  go_loopw [8] (fun x wr => ∃ i : Nat, i ≤ m ∧ x = .int .i64 i ∧ Hid (AfRel w wr p g q all n i)) (fun x wr => m - (intOf x).toNat)
  case atStart => exact ⟨0, Nat.zero_le _, rfl, HR0⟩
  case round =>
    clear HR0
    obtain ⟨i, hi, rfl, HR⟩ := hrel
    by_cases hlt : i < m
    · go_upto_region 10 with (fail)
      obtain ⟨b, off, hbo, hcell⟩ := HJ.out.sl i (by have := HJ.out.len; omega)
      subst hbo
      have HCY : Hid (wr.cell? ⟨b, off + i, none⟩ = some (.int .u8 (ys.getD i 0).toNat)) := HR.out.kept.cellOf hcell (by simp)
      have HCA : Hid (wr.cell? ⟨q, i, none⟩ = some (.int .u8 (all.getD i 0).toNat)) := by
        obtain ⟨b', off', e', h'⟩ := HR.out.sl i (by have := HLEN.out; omega)
        cases e'
        rw [Nat.zero_add] at h'
        exact h'
      have hbw : b < w.heap.size := World.block_lt_of_cell? _ _ hcell
      have HB : Hid (b ∉ [p, g]) := by have := HR.out.ge; show b ∉ [p, g]; simp; omega
      have HQ : Hid (q ∉ [p, g]) := by have := HR.out.ne; show q ∉ [p, g]; simp; omega
      obtain ⟨hw1, hw2⟩ := HNX.out i hlt
      have HRO : Hid (Ro wr p g (all.getD i 0 :: (all.drop (i + 1)).take (n - 1))) := by have := HR.out.ro; rw [hw1] at this; exact this
      have HW2 : Hid (wat all n (i + 1) = (all.drop (i + 1)).take (n - 1) ++ [ys.getD i 0]) := hw2
      generalize (all.drop (i + 1)).take (n - 1) = rest at HRO HW2
      generalize all.getD i 0 = x at HRO HCA
      generalize ys.getD i 0 = y at HCY HW2
      have hx256 : x.toNat < 256 := UInt8.toNat_lt _
      have hlti : (i : Int) < (m : Int) := by omega
      have hqi : (i : Int) < (n : Int) + (m : Int) := by omega
      clear hcell hw1 hw2
      refine wp_region_held_drew (S := fun w' => Kept [p, g] wr w') (by kernel_rfl) ((Kept.refl [p, g] wr).drew) (fun h0 => ?_)
      have hro : Ro wr.drew p g (x :: rest) := HRO.out.kept ((Kept.refl [] wr).drew) (by simp) (by simp)
      generalize World.drew wr = u0 at h0 hro ⊢
      refine wpAnyH_take (i := 0) (v := .pointer (some ⟨p, 0, none⟩)) rfl (by kernel_rfl) (by kernel_rfl) (by kernel_rfl) (fun _ _ _ h => h) (Or.inl ⟨by rfl, fun w hSw => by go_simp⟩) h0 ?_
      try simp only [List.getElem_toArray, List.getElem_cons_zero, List.getElem_cons_succ, Act.put, List.setIfInBounds_toArray, List.set_cons_zero, List.set_cons_succ]
      refine wpAnyH_take (i := 1) (v := .slice (some ⟨b, off, none⟩) m cap2) rfl (by kernel_rfl) (by kernel_rfl) (by kernel_rfl) (fun _ _ _ h => h) (Or.inl ⟨by rfl, fun w hSw => by go_simp⟩) h0 ?_
      try simp only [List.getElem_toArray, List.getElem_cons_zero, List.getElem_cons_succ, Act.put, List.setIfInBounds_toArray, List.set_cons_zero, List.set_cons_succ]
      refine wpAnyH_take (i := 2) (v := .int .i64 (i : Nat)) rfl (by kernel_rfl) (by kernel_rfl) (by kernel_rfl) (fun _ _ _ h => h) (Or.inl ⟨by rfl, fun w hSw => by go_simp⟩) h0 ?_
      try simp only [List.getElem_toArray, List.getElem_cons_zero, List.getElem_cons_succ, Act.put, List.setIfInBounds_toArray, List.set_cons_zero, List.set_cons_succ]
      refine wpAnyH_take (i := 3) (v := .pointer (some ⟨b, off + i, none⟩)) rfl (by kernel_rfl) (by kernel_rfl) (by kernel_rfl) (fun _ _ _ h => h) (Or.inl ⟨by rfl, fun w hSw => by go_simp⟩) h0 ?_
      try simp only [List.getElem_toArray, List.getElem_cons_zero, List.getElem_cons_succ, Act.put, List.setIfInBounds_toArray, List.set_cons_zero, List.set_cons_succ]
      refine wpAnyH_take (i := 4) (v := .int .u8 (y.toNat : Nat)) rfl (by kernel_rfl) (by kernel_rfl) (by kernel_rfl) (fun _ _ _ h => h) (Or.inl ⟨by rfl, fun w hSw => by have c := Kept.cellOf hSw HCY.out HB.out; go_simp⟩) h0 ?_
      try simp only [List.getElem_toArray, List.getElem_cons_zero, List.getElem_cons_succ, Act.put, List.setIfInBounds_toArray, List.set_cons_zero, List.set_cons_succ]
      refine wpAnyH_take (i := 6) (v := .slice (some ⟨q, 0, none⟩) (n + m) c2) rfl (by kernel_rfl) (by kernel_rfl) (by kernel_rfl) (fun _ _ _ h => h) (Or.inl ⟨by rfl, fun w hSw => by go_simp⟩) h0 ?_
      try simp only [List.getElem_toArray, List.getElem_cons_zero, List.getElem_cons_succ, Act.put, List.setIfInBounds_toArray, List.set_cons_zero, List.set_cons_succ]
      refine wpAnyH_take (i := 7) (v := .int .i64 (i : Nat)) rfl (by kernel_rfl) (by kernel_rfl) (by kernel_rfl) (fun _ _ _ h => h) (Or.inl ⟨by rfl, fun w hSw => by go_simp⟩) h0 ?_
      try simp only [List.getElem_toArray, List.getElem_cons_zero, List.getElem_cons_succ, Act.put, List.setIfInBounds_toArray, List.set_cons_zero, List.set_cons_succ]
      refine wpAnyH_take (i := 8) (v := .pointer (some ⟨q, i, none⟩)) rfl (by kernel_rfl) (by kernel_rfl) (by kernel_rfl) (fun _ _ _ h => h) (Or.inl ⟨by rfl, fun w hSw => by go_simp⟩) h0 ?_
      try simp only [List.getElem_toArray, List.getElem_cons_zero, List.getElem_cons_succ, Act.put, List.setIfInBounds_toArray, List.set_cons_zero, List.set_cons_succ]
      refine wpAnyH_take (i := 9) (v := .int .u8 (x.toNat : Nat)) rfl (by kernel_rfl) (by kernel_rfl) (by kernel_rfl) (fun _ _ _ h => h) (Or.inl ⟨by rfl, fun w hSw => by have c := Kept.cellOf hSw HCA.out HQ.out; go_simp⟩) h0 ?_
      try simp only [List.getElem_toArray, List.getElem_cons_zero, List.getElem_cons_succ, Act.put, List.setIfInBounds_toArray, List.set_cons_zero, List.set_cons_succ]
      refine wpAnyH_ready (rs := [5]) (by kernel_rfl) (by simp) (AllReadyH.cons (i := 5) rfl (fun K hK => ?_) AllReadyH.nil)
      rw [if_pos (by rfl)]
      go_simp
      refine (rollPush_ok hro y).mono ?_
      rintro e u1 ⟨rfl, hro1, hq⟩
      refine hK.out _ _ (h0.trans hq (by simp)) (fun h1 => ?_)
      clear hK K hq h0 hro
      try simp only [List.getElem_toArray, List.getElem_cons_zero, List.getElem_cons_succ, Act.put, List.setIfInBounds_toArray, List.set_cons_zero, List.set_cons_succ]
      refine wpAnyH_take (i := 10) (v := .bool false) rfl (by kernel_rfl) (by kernel_rfl) (by kernel_rfl) (fun _ _ _ h => h) (Or.inl ⟨by rfl, fun w hSw => by go_simp⟩) h1 ?_
      try simp only [List.getElem_toArray, List.getElem_cons_zero, List.getElem_cons_succ, Act.put, List.setIfInBounds_toArray, List.set_cons_zero, List.set_cons_succ]
      refine wpAnyH_done (by kernel_rfl) ?_ _
      have HKN : Hid (Kept [] w u1) := HR.out.kept.trans h1 (by have := HR.out.ge; simp; omega)
      have HRN : Hid (AfRel w u1 p g q all n (i + 1)) := ⟨by rw [HW2.out]; exact hro1, HR.out.sl.kept h1 (fun _ a ha => by cases ha; exact HQ.out), HKN.out, HR.out.ge, HR.out.ne⟩
      clear h1 hro1 HR HRO HCY HCA hx256 hqi
      have hcut : ∀ W, (Instr.slice 23 (.slice (some ⟨q, 0, none⟩) (n + m) c2) (some (.int .i64 ((i : Int) + 1))) (some (.int .i64 ((i : Int) + 1 + (n : Int)))) none).run Try.prog W = .ok (.slice (some ⟨q, i + 1, none⟩) n (c2 - (i + 1))) W := fun W => by
        have := Try.cutWin W q 0 (n + m) c2 (i + 1) n (by omega) hn1
        rw [Nat.zero_add] at this
        simpa using this
      have hwl : (wat all n (i + 1)).length = n := wat_length _ _ _ (by have := HLEN.out; omega)
      have hsl := Rol.sum_lt (wat all n (i + 1))
      have HWL : Hid ((wat all n (i + 1)).length = n) := hwl
      clear hwl
      go_wp2_with (first | (go_at_call 15; refine (rollSum_ok HRN.out.ro).mono ?_; rintro e u2 ⟨rfl, hk2⟩; have HSL2 : Hid (Sl u2 (some ⟨q, i + 1, none⟩) (wat all n (i + 1))) := (by have := (HRN.out.sl.kept hk2 (by simp)).wat n (i + 1) (by have := HLEN.out; omega); rw [Nat.zero_add] at this; exact this)) | (go_at_call 9; refine (rsum_n _ n _ _ _ HWL.out (by omega) HSL2.out).mono ?_; rintro e u3 ⟨rfl, hk3⟩))
      have hk4 := hk2.trans hk3 (by simp)
      have HRM : Hid (AfRel w u3 p g q all n (i + 1)) := ⟨HRN.out.ro.kept hk4 (by simp) (by simp), HRN.out.sl.kept hk4 (by simp), HRN.out.kept.trans hk4 (by simp), HRN.out.ge, HRN.out.ne⟩
      go_roundw
      case rel => exact ⟨i + 1, by omega, by go_num, HRM⟩
      case measure => simp [intOf]; omega
    · have HK := HR.out.kept
      clear HR
      go_wp2_with (go_at_call 13; refine (known_any _).mono ?_; rintro e wk ⟨rfl, hkk⟩)
      go_ret
      exact ⟨rfl, (HK.trans hkk (by simp)).below (Nat.le_refl _) (by simp)⟩

end Go.Proofs.Ytjfekdcghgpchaa
