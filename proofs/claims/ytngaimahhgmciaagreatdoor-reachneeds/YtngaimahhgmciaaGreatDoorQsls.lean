import Derived.Test.YtngaimahhgmciaaGreatDoorQsis
namespace Go.Proofs.YtngaimahhgmciaaGreatDoor
open Go.RowKit Go.Lib Go.Sort
set_option linter.unusedVariables false
set_option linter.unusedSimpArgs false
set_option maxRecDepth 100000 in
theorem rz_sz (z : Rz) : (Tryz.prog.info? 30).map (·.size) = some z.cells.length := by
 obtain ⟨i, hi, hx⟩ := Option.map_eq_some_iff.1 Tryz.infoRz9
 injection hx with e1 _
 rw [hi, Rz.len, ← e1]
 rfl
set_option maxHeartbeats 3200000 in
set_option maxRecDepth 100000 in
theorem whole9_ok (g n : Nat) (bo : Option Addr) (cb : Nat) (R : List Rz) (w : World) (hl : R.length = n) (hL : Rm9 w g (n + 40) (R ++ marks 40)) (hR : Rss w bo R) (hm : (n + 40) * 72 ≤ 281474976710656) :
  Calls Tryz.prog 31 #[.slice (some ⟨g, 0, none⟩) n (n + 40), .slice bo n cb] w fun e w' => e = .returned (.bool true) ∧ Kept [] w w' := by
 have HL := hide hl
 have HM := hide hL
 have HR := hide hR
 have hw40 : IntKind.i64.wrap ((n : Int) + 40) = ((n + 40 : Nat) : Int) := by simp [IntKind.wrap, IntKind.bits, IntKind.signed]; omega
 clear hl hL hR
 go_enter Tryz.func31, Tryz.ntmps31
 go_wp2
 clear hw40
 go_loopw [6] (fun x wr => ∃ k : Nat, k ≤ 40 ∧ x = .int .i64 k ∧ Hid (Kept [] w wr)) (fun x wr => 40 - (intOf x).toNat)
 case atStart => exact ⟨0, by omega, rfl, Kept.refl _ _⟩
 case round =>
  obtain ⟨k, hk, rfl, HK⟩ := hrel
  by_cases hlt : k < 40
  ·have g1 : (k : Int) < 40 := by omega
   have hu : ((UInt8.ofNat k).toNat) = k := by
    rw [UInt8.toNat_ofNat']
    omega
   have hcv : IntKind.u8.wrap (k : Int) = (k : Int) := by simp [IntKind.wrap, IntKind.bits, IntKind.signed]; omega
   have hwi : IntKind.i64.wrap ((n : Int) + (k : Int)) = ((n + k : Nat) : Int) := by simp [IntKind.wrap, IntKind.bits, IntKind.signed]; omega
   have hb1 := fun W => Tryz.buildId9 (UInt8.ofNat k) W
   rw [hu] at hb1
   have hb2 := fun W => build_mrk k W
   have hr1 : wr.rangeAt g ((n + k) * 65) (mrk k).cells := by
    obtain ⟨b, off, e, h⟩ := (HM.out.kept HK.out (by simp)).rss (n + k) (by rw [List.length_append, marks_len, HL.out]; omega)
    injection e with e
    injection e with e1 e2 _
    subst e1
    subst e2
    rw [Nat.zero_add] at h
    have e3 : (R ++ marks 40).getD (n + k) rz0 = mrk k := by
     rw [List.getD_eq_getElem?_getD, List.getElem?_append_right (by rw [HL.out]; omega), HL.out, show n + k - n = k by omega]
     simp [marks, List.getElem?_map, List.getElem?_range hlt]
    rw [e3] at h
    exact h
   have hzl := rz_sz (mrk k)
   have heq : ∀ W, (Op.equalIn 10000 30 (.agg (mrk k).cells.toArray) (.agg (mrk k).cells.toArray)).run Tryz.prog W = .ok true W := fun W => Tryz.eqlRz _ W
   have hlt2 : ((n + k : Nat) : Int) < ((n + 40 : Nat) : Int) := by omega
   have hlt3 : n + k < n + 40 := by omega
   clear hu
   go_wp2_with (first
    | refine wpList_load_mid rfl 30 (.tmp 27) rfl g ((n + k) * 65) rfl (mrk k).cells _ hr1 Tryz.underlying30 rfl hzl ?_
    | refine wpList_buildRun9 rfl 25 #[(0, .tmp 30)] rfl #[(0, .int .u8 k)] (by simp [Act.eval]) _ (hb1 _) ?_
    | refine wpList_buildRun9 rfl 30 #[(1, .tmp 31), (2, .const (.int .i64 (-7)))] rfl #[(1, .agg (bys (mrk k).root).toArray), (2, .int .i64 (-7))] (by first | rfl | simp [Act.eval, Act.put, mrk]) _ (hb2 _) ?_)
   go_roundw
   case rel => exact ⟨k + 1, by omega, by go_num, HK⟩
   case measure => simp [intOf]; omega
  ·obtain rfl : k = 40 := by omega
   have g1 : ¬ ((40 : Nat) : Int) < 40 := by omega
   go_wp2
   go_loopw [7] (fun x wr => ∃ k : Nat, k ≤ n ∧ x = .int .i64 k ∧ Hid (Kept [] w wr)) (fun x wr => n - (intOf x).toNat)
   case atStart => exact ⟨0, by omega, rfl, HK.out⟩
   case round =>
    clear HK
    obtain ⟨k, hk, rfl, HK⟩ := hrel
    by_cases hlt : k < n
    ·have hkl : k < R.length := by rw [HL.out]; exact hlt
     obtain ⟨b, off, rfl, hr2⟩ := (HR.out.kept HK.out (fun _ _ _ => by simp)) k hkl
     have hr1 : wr.rangeAt g (k * 65) (R.getD k rz0).cells := by
      obtain ⟨b, off, e, h⟩ := (HM.out.kept HK.out (by simp)).rss k (by rw [List.length_append]; omega)
      injection e with e
      injection e with e1 e2 _
      subst e1
      subst e2
      rw [Nat.zero_add, getD_lt9 R (marks 40) k rz0 hkl] at h
      exact h
     obtain ⟨z, hz⟩ : ∃ z, R.getD k rz0 = z := ⟨_, rfl⟩
     rw [hz] at hr1 hr2
     have hzl := rz_sz z
     have heq : ∀ W, (Op.equalIn 10000 30 (.agg z.cells.toArray) (.agg z.cells.toArray)).run Tryz.prog W = .ok true W := fun W => Tryz.eqlRz _ W
     have g2 : (k : Int) < (n : Int) := by omega
     clear hz hkl
     go_upto_region 12 with (fail)
     refine wp_region_held_drew (S := fun w' => Kept [] wr w') (by kernel_rfl) ((Kept.refl [] wr).drew) (fun h0 => ?_)
     generalize World.drew wr = v0 at h0  ⊢
     refine wpAnyH_take (i := 0) (v := .slice (some ⟨g, 0, none⟩) n (n + 40)) rfl (by kernel_rfl) (by kernel_rfl) (by kernel_rfl) (fun _ _ _ h => h) (Or.inl ⟨by rfl, fun w hSw => by go_simp⟩) h0 ?_
     try simp only [zk1, zk2, zk3, zk4, zk5, zk6, zk7, zk8]
     refine wpAnyH_take (i := 1) (v := .int .i64 k) rfl (by kernel_rfl) (by kernel_rfl) (by kernel_rfl) (fun _ _ _ h => h) (Or.inl ⟨by rfl, fun w hSw => by go_simp⟩) h0 ?_
     try simp only [zk1, zk2, zk3, zk4, zk5, zk6, zk7, zk8]
     refine wpAnyH_take (i := 2) (v := .pointer (some ⟨g, k * 65, none⟩)) rfl (by kernel_rfl) (by kernel_rfl) (by kernel_rfl) (fun _ _ _ h => h) (Or.inl ⟨by rfl, fun w hSw => by go_simp⟩) h0 ?_
     try simp only [zk1, zk2, zk3, zk4, zk5, zk6, zk7, zk8]
     refine wpAnyH_take (i := 3) (v := .agg z.cells.toArray) rfl (by kernel_rfl) (by kernel_rfl) (by kernel_rfl) (fun _ _ _ h => h) (yieldsIf_load_mid (by rfl) _ _ rfl g (k * 65) rfl (z).cells _ (fun W h => fun jj u hu => Kept.cellOf h (hr1 jj u hu) (by simp)) Tryz.underlying30 rfl hzl) h0 ?_
     try simp only [zk1, zk2, zk3, zk4, zk5, zk6, zk7, zk8]
     refine wpAnyH_take (i := 4) (v := .slice (some ⟨b, off, none⟩) n cb) rfl (by kernel_rfl) (by kernel_rfl) (by kernel_rfl) (fun _ _ _ h => h) (Or.inl ⟨by rfl, fun w hSw => by go_simp⟩) h0 ?_
     try simp only [zk1, zk2, zk3, zk4, zk5, zk6, zk7, zk8]
     refine wpAnyH_take (i := 5) (v := .int .i64 k) rfl (by kernel_rfl) (by kernel_rfl) (by kernel_rfl) (fun _ _ _ h => h) (Or.inl ⟨by rfl, fun w hSw => by go_simp⟩) h0 ?_
     try simp only [zk1, zk2, zk3, zk4, zk5, zk6, zk7, zk8]
     refine wpAnyH_take (i := 6) (v := .pointer (some ⟨b, off + k * 65, none⟩)) rfl (by kernel_rfl) (by kernel_rfl) (by kernel_rfl) (fun _ _ _ h => h) (Or.inl ⟨by rfl, fun w hSw => by go_simp⟩) h0 ?_
     try simp only [zk1, zk2, zk3, zk4, zk5, zk6, zk7, zk8]
     refine wpAnyH_take (i := 7) (v := .agg z.cells.toArray) rfl (by kernel_rfl) (by kernel_rfl) (by kernel_rfl) (fun _ _ _ h => h) (yieldsIf_load_mid (by rfl) _ _ rfl b (off + k * 65) rfl (z).cells _ (fun W h => fun jj u hu => Kept.cellOf h (hr2 jj u hu) (by simp)) Tryz.underlying30 rfl hzl) h0 ?_
     try simp only [zk1, zk2, zk3, zk4, zk5, zk6, zk7, zk8]
     refine wpAnyH_take (i := 8) (v := .bool false) rfl (by kernel_rfl) (by kernel_rfl) (by kernel_rfl) (fun _ _ _ h => h) (Or.inl ⟨by rfl, fun w hSw => by have c0 := heq w; go_simp⟩) h0 ?_
     try simp only [zk1, zk2, zk3, zk4, zk5, zk6, zk7, zk8]
     refine wpAnyH_done (by kernel_rfl) ?_ _
     have HF := hide (HK.out.trans h0 (by simp))
     clear h0 heq hr1 hr2
     go_wp2
     go_roundw
     case rel => exact ⟨k + 1, by omega, by go_num, HF⟩
     case measure => simp [intOf]; omega
    ·have g2 : ¬ (k : Int) < (n : Int) := by omega
     go_wp2
     go_ret
     exact ⟨rfl, HK.out⟩
end Go.Proofs.YtngaimahhgmciaaGreatDoor
