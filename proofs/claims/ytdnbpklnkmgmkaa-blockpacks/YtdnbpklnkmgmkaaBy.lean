/-
  Contracts: freightlaw11.rows of like lists; freightref11.Pack. (Written by tools/by.py.)
-/
import Derived.Test.YtdnbpklnkmgmkaaBp
import Derived.Test.YtdnbpklnkmgmkaaBj
import Derived.Laws.StructEq
import Derived.ChangeKeysEq
namespace Go.Proofs.Ytdnbpklnkmgmkaa
open Go.RowKit
set_option linter.unusedVariables false
set_option linter.unusedSimpArgs false

theorem Try.aggInt11 (W : World) : (isAgg 3).run Try.prog W = .ok false W := by kernel_rfl
theorem Try.underBlk : Try.prog.underlying 45 = some (.struct (Try.prog.fieldsOf 45)) := by kernel_rfl
theorem Try.partB0 (a b c d : Int) (W : World) : (part 3 #[.int .i64 a, .int .i64 b, .int .i64 c, .int .i64 d] 0).run Try.prog W = .ok (.int .i64 a) W := by
  simp only [part, Sem.run_bind, Try.aggInt11, Result.andThen_ok, Bool.false_eq_true, if_false, List.getElem?_toArray, List.getElem?_cons_succ, List.getElem?_cons_zero, Sem.run_pure]
theorem Try.partB1 (a b c d : Int) (W : World) : (part 3 #[.int .i64 a, .int .i64 b, .int .i64 c, .int .i64 d] 1).run Try.prog W = .ok (.int .i64 b) W := by
  simp only [part, Sem.run_bind, Try.aggInt11, Result.andThen_ok, Bool.false_eq_true, if_false, List.getElem?_toArray, List.getElem?_cons_succ, List.getElem?_cons_zero, Sem.run_pure]
theorem Try.partB2 (a b c d : Int) (W : World) : (part 3 #[.int .i64 a, .int .i64 b, .int .i64 c, .int .i64 d] 2).run Try.prog W = .ok (.int .i64 c) W := by
  simp only [part, Sem.run_bind, Try.aggInt11, Result.andThen_ok, Bool.false_eq_true, if_false, List.getElem?_toArray, List.getElem?_cons_succ, List.getElem?_cons_zero, Sem.run_pure]
theorem Try.partB3 (a b c d : Int) (W : World) : (part 3 #[.int .i64 a, .int .i64 b, .int .i64 c, .int .i64 d] 3).run Try.prog W = .ok (.int .i64 d) W := by
  simp only [part, Sem.run_bind, Try.aggInt11, Result.andThen_ok, Bool.false_eq_true, if_false, List.getElem?_toArray, List.getElem?_cons_succ, List.getElem?_cons_zero, Sem.run_pure]
theorem Try.eqlBlk (a b c d : Int) (W : World) : (Op.equalIn 10000 45 (.agg #[.int .i64 a, .int .i64 b, .int .i64 c, .int .i64 d]) (.agg #[.int .i64 a, .int .i64 b, .int .i64 c, .int .i64 d])).run Try.prog W = .ok true W := by
  rw [run_equalIn_struct (P := Try.prog) W 9999 45 _ _ Try.underBlk (by kernel_rfl)]
  simp (config := { decide := true }) only [Program.fieldsOf, Try.underlying45, Op.eqFields, Sem.run_bind, Sem.run_ite, ne_eq, not_false_eq_true, if_true, Try.partB0, Try.partB1, Try.partB2, Try.partB3, Result.andThen_ok, run_equalIn_int W 9998 3 .i64 .i64 _ _ Try.underlying3, beq_self_eq_true, Bool.not_true, Bool.false_eq_true, if_false, Sem.run_pure]

set_option maxHeartbeats 1600000 in
set_option maxRecDepth 100000 in
theorem rows_some (b1 o1 c1 b2 o2 c2 n : Nat) (A : List Bk) (w : World) (hA : A.length = n) (hm : n ≤ 4611686018427387904) (h1 : Blks w (some ⟨b1, o1, none⟩) A) (h2 : Blks w (some ⟨b2, o2, none⟩) A) :
    Calls Try.prog 15 #[.slice (some ⟨b1, o1, none⟩) n c1, .slice (some ⟨b2, o2, none⟩) n c2] w fun e w' => e = .returned (.bool true) ∧ Kept [] w w' := by
  have HA : Hid (A.length = n) := hA
  have H1 := hide h1
  have H2 := hide h2
  clear hA h1 h2
  go_enter Try.func15, Try.ntmps15
  go_wp2
  go_loopw [5] (fun x wr => ∃ k : Nat, k ≤ n ∧ x = .int .i64 k ∧ Hid (Kept [] w wr)) (fun x wr => n - (intOf x).toNat)
  case atStart => exact ⟨0, Nat.zero_le _, rfl, Kept.refl _ _⟩
  case round =>
    obtain ⟨k, hk, rfl, HK⟩ := hrel
    by_cases hlt : k < n
    · obtain ⟨_, _, hx, hr1⟩ := H1.out k (by rw [HA.out]; exact hlt)
      cases hx
      obtain ⟨_, _, hx, hr2⟩ := H2.out k (by rw [HA.out]; exact hlt)
      cases hx
      generalize A.getD k bk0 = e1 at hr1 hr2
      obtain ⟨a, p, r, u⟩ := e1
      simp only [Bk.cells] at hr1 hr2
      have hkn : (k : Int) < (n : Int) := by omega
      have heq := Try.eqlBlk a p r u
      replace hr1 : wr.rangeAt b1 (o1 + k * 4) [.int .i64 a, .int .i64 p, .int .i64 r, .int .i64 u] := fun j v hv => HK.out.cellOf (hr1 j v hv) (by simp)
      replace hr2 : wr.rangeAt b2 (o2 + k * 4) [.int .i64 a, .int .i64 p, .int .i64 r, .int .i64 u] := fun j v hv => HK.out.cellOf (hr2 j v hv) (by simp)
      go_upto_region 6 with (fail)
      refine wp_region_held_drew (S := fun w' => Kept [] wr w') (by kernel_rfl) ((Kept.refl [] wr).drew) (fun h0 => ?_)
      generalize World.drew wr = v0 at h0 ⊢
      refine wpAnyH_take (i := 0) (v := .slice (some ⟨b1, o1, none⟩) n c1) rfl (by kernel_rfl) (by kernel_rfl) (by kernel_rfl) (fun _ _ _ h => h) (Or.inl ⟨by rfl, fun w hSw => by go_simp⟩) h0 ?_
      try simp only [List.getElem_toArray, List.getElem_cons_zero, List.getElem_cons_succ, Act.put, List.setIfInBounds_toArray, List.set_cons_zero, List.set_cons_succ]
      refine wpAnyH_take (i := 1) (v := .int .i64 k) rfl (by kernel_rfl) (by kernel_rfl) (by kernel_rfl) (fun _ _ _ h => h) (Or.inl ⟨by rfl, fun w hSw => by go_simp⟩) h0 ?_
      try simp only [List.getElem_toArray, List.getElem_cons_zero, List.getElem_cons_succ, Act.put, List.setIfInBounds_toArray, List.set_cons_zero, List.set_cons_succ]
      refine wpAnyH_take (i := 2) (v := .pointer (some ⟨b1, o1 + k * 4, none⟩)) rfl (by kernel_rfl) (by kernel_rfl) (by kernel_rfl) (fun _ _ _ h => h) (Or.inl ⟨by rfl, fun w hSw => by have c := hkn; go_simp⟩) h0 ?_
      try simp only [List.getElem_toArray, List.getElem_cons_zero, List.getElem_cons_succ, Act.put, List.setIfInBounds_toArray, List.set_cons_zero, List.set_cons_succ]
      refine wpAnyH_take (i := 3) (v := .agg #[.int .i64 a, .int .i64 p, .int .i64 r, .int .i64 u]) rfl (by kernel_rfl) (by kernel_rfl) (by kernel_rfl) (fun _ _ _ h => h) (yieldsIf_load_mid (by rfl) _ _ rfl b1 (o1 + k * 4) rfl _ _ (fun w h j v hv => Kept.cellOf h (hr1 j v hv) (by simp)) Try.underlying45 rfl Try.infoBlk4) h0 ?_
      try simp only [List.getElem_toArray, List.getElem_cons_zero, List.getElem_cons_succ, Act.put, List.setIfInBounds_toArray, List.set_cons_zero, List.set_cons_succ]
      refine wpAnyH_take (i := 4) (v := .slice (some ⟨b2, o2, none⟩) n c2) rfl (by kernel_rfl) (by kernel_rfl) (by kernel_rfl) (fun _ _ _ h => h) (Or.inl ⟨by rfl, fun w hSw => by go_simp⟩) h0 ?_
      try simp only [List.getElem_toArray, List.getElem_cons_zero, List.getElem_cons_succ, Act.put, List.setIfInBounds_toArray, List.set_cons_zero, List.set_cons_succ]
      refine wpAnyH_take (i := 5) (v := .int .i64 k) rfl (by kernel_rfl) (by kernel_rfl) (by kernel_rfl) (fun _ _ _ h => h) (Or.inl ⟨by rfl, fun w hSw => by go_simp⟩) h0 ?_
      try simp only [List.getElem_toArray, List.getElem_cons_zero, List.getElem_cons_succ, Act.put, List.setIfInBounds_toArray, List.set_cons_zero, List.set_cons_succ]
      refine wpAnyH_take (i := 6) (v := .pointer (some ⟨b2, o2 + k * 4, none⟩)) rfl (by kernel_rfl) (by kernel_rfl) (by kernel_rfl) (fun _ _ _ h => h) (Or.inl ⟨by rfl, fun w hSw => by have c := hkn; go_simp⟩) h0 ?_
      try simp only [List.getElem_toArray, List.getElem_cons_zero, List.getElem_cons_succ, Act.put, List.setIfInBounds_toArray, List.set_cons_zero, List.set_cons_succ]
      refine wpAnyH_take (i := 7) (v := .agg #[.int .i64 a, .int .i64 p, .int .i64 r, .int .i64 u]) rfl (by kernel_rfl) (by kernel_rfl) (by kernel_rfl) (fun _ _ _ h => h) (yieldsIf_load_mid (by rfl) _ _ rfl b2 (o2 + k * 4) rfl _ _ (fun w h j v hv => Kept.cellOf h (hr2 j v hv) (by simp)) Try.underlying45 rfl Try.infoBlk4) h0 ?_
      try simp only [List.getElem_toArray, List.getElem_cons_zero, List.getElem_cons_succ, Act.put, List.setIfInBounds_toArray, List.set_cons_zero, List.set_cons_succ]
      refine wpAnyH_take (i := 8) (v := .bool false) rfl (by kernel_rfl) (by kernel_rfl) (by kernel_rfl) (fun _ _ _ h => h) (Or.inl ⟨by rfl, fun w hSw => by have c := heq w; go_simp⟩) h0 ?_
      try simp only [List.getElem_toArray, List.getElem_cons_zero, List.getElem_cons_succ, Act.put, List.setIfInBounds_toArray, List.set_cons_zero, List.set_cons_succ]
      refine wpAnyH_done (by kernel_rfl) ?_ _
      have HK2 := hide (HK.out.trans h0 (by simp))
      clear h0 hr1 hr2 heq
      go_wp2
      go_roundw
      case rel => exact ⟨k + 1, by omega, by go_num, HK2⟩
      case measure => simp [intOf]; omega
    · have hkn : ¬ (k : Int) < (n : Int) := by omega
      go_wp2
      go_ret
      exact ⟨rfl, HK.out⟩

set_option maxHeartbeats 800000 in
set_option maxRecDepth 100000 in
theorem rows_none (a1 a2 : Option Addr) (c1 c2 : Nat) (w : World) :
    Calls Try.prog 15 #[.slice a1 0 c1, .slice a2 0 c2] w fun e w' => e = .returned (.bool true) ∧ Kept [] w w' := by
  go_enter Try.func15, Try.ntmps15
  go_wp2
  go_loopw [5] (fun x wr => x = .int .i64 0 ∧ wr = w) (fun x wr => 0)
  case atStart => exact ⟨rfl, rfl⟩
  case round =>
    obtain ⟨rfl, hw⟩ := hrel
    obtain rfl := hw
    go_wp2
    go_ret
    exact ⟨rfl, Kept.refl _ _⟩

theorem rows_yes (a1 a2 : Option Addr) (n c1 c2 : Nat) (A : List Bk) (w : World) (hA : A.length = n) (hm : n ≤ 4611686018427387904) (h1 : Blks w a1 A) (h2 : Blks w a2 A) :
    Calls Try.prog 15 #[.slice a1 n c1, .slice a2 n c2] w fun e w' => e = .returned (.bool true) ∧ Kept [] w w' := by
  by_cases h0 : A = []
  · subst h0
    obtain rfl : n = 0 := by simpa using hA.symm
    exact rows_none a1 a2 c1 c2 w
  · obtain ⟨b1, o1, rfl, _, _⟩ := h1.open h0
    obtain ⟨b2, o2, rfl, _, _⟩ := h2.open h0
    exact rows_some b1 o1 c1 b2 o2 c2 n A w hA hm h1 h2

set_option maxHeartbeats 800000 in
set_option maxRecDepth 100000 in
theorem refbpack_size (ao : Option Addr) (n cap : Nat) (s : Int) (w : World) (h : ¬ (16 ≤ s ∧ s ≤ 4096)) :
    Calls Try.prog 9 #[.slice ao n cap, .int .i64 s] w (PkAns w ([], [], 1)) := by
  have HI := hide (refIsSize_no s w h)
  clear h
  unfold PkAns
  go_enter Try.func9, Try.ntmps9
  go_wp2_with (go_at_call 26; refine HI.out.mono ?_; rintro e w' ⟨rfl, hww⟩; obtain rfl := hww.symm; clear HI)
  go_ret3
  exact ⟨none, 0, none, 0, rfl, World.ownsRow_nil _ _ _ _, World.ownsRow_nil _ _ _ _, Below.refl _ _⟩

set_option maxHeartbeats 800000 in
set_option maxRecDepth 100000 in
theorem refbpack_long (ao : Option Addr) (n cap : Nat) (s : Int) (w : World) (h : 16 ≤ s ∧ s ≤ 4096) (hn : 65536 < n) :
    Calls Try.prog 9 #[.slice ao n cap, .int .i64 s] w (PkAns w ([], [], 2)) := by
  have HI := hide (refIsSize_yes s w h)
  have hq : (65536 : Int) < (n : Int) := by omega
  clear h
  unfold PkAns
  go_enter Try.func9, Try.ntmps9
  go_wp2_with (go_at_call 26; refine HI.out.mono ?_; rintro e w' ⟨rfl, hww⟩; obtain rfl := hww.symm; clear HI)
  go_ret3
  exact ⟨none, 0, none, 0, rfl, World.ownsRow_nil _ _ _ _, World.ownsRow_nil _ _ _ _, Below.refl _ _⟩

theorem refbpack_any (ao : Option Addr) (n cap : Nat) (s : Int) (xs : List UInt8) (w : World) (hx : xs.length = n) (hc : n ≤ cap) (hs : Sl w ao xs) :
    Calls Try.prog 9 #[.slice ao n cap, .int .i64 s] w (PkAns w (Blk.pack xs s)) := by
  unfold Blk.pack
  by_cases h : 16 ≤ s ∧ s ≤ 4096
  · rw [if_neg (by omega)]
    by_cases hn : 65536 < n
    · rw [if_pos (by omega)]
      exact refbpack_long ao n cap s w h hn
    · rw [if_neg (by omega), hx]
      obtain ⟨t, rfl⟩ : ∃ t : Nat, s = t := ⟨s.toNat, by omega⟩
      exact refbpack_in ao n cap t xs w hx hc hs (by omega) (by omega) (by omega)
  · rw [if_pos (by omega)]
    exact refbpack_size ao n cap s w h

end Go.Proofs.Ytdnbpklnkmgmkaa
