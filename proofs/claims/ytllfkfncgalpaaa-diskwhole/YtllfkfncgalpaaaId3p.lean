import Derived.Test.YtllfkfncgalpaaaId1
import Derived.Test.YtllfkfncgalpaaaHwbp
import Derived.Test.YtllfkfncgalpaaaHwcp
namespace Go.Proofs.Ytllfkfncgalpaaa
section
open Go.RowKit Dsk
set_option linter.unusedVariables false
set_option linter.unusedSimpArgs false
set_option maxHeartbeats 800000 in
set_option maxRecDepth 100000 in
theorem total_ok (a1 : Option Addr) (n c1 : Nat) (L : List (By × By)) (w : World) (hx : L.length = n) (hm : n ≤ 4611686018427387904) (hT : totalOf L ≤ 4611686018427387904) (h1 : Fis w a1 L) :
    Calls Try.prog 18 #[.slice a1 n c1] w fun e w' => e = .returned (.int .i64 (totalOf L)) ∧ w' = w := by
  have HX := hide hx
  have HT := hide hT
  clear hx hT
  go_enter Try.func18, Try.ntmps18
  go_wp2
  go_loop [3, 4] (fun t i => ∃ k v : Nat, k ≤ n ∧ i = .int .i64 k ∧ t = .int .i64 v ∧ v ≤ 4611686018427387904 ∧ Hid (v = totalOf (L.take k))) (fun t i => n - (intOf i).toNat)
  case atStart => exact ⟨0, 0, Nat.zero_le _, rfl, rfl, by omega, by simp [Hid, totalOf]⟩
  case round =>
    obtain ⟨k, v, hk, rfl, rfl, hv, HV⟩ := hrel
    by_cases hlt : k < n
    · obtain ⟨b1, rfl, s, hs, e1, bo1, bc1, e2, s1⟩ := h1 k (by rw [HX.out]; exact hlt)
      have HV2 : Hid (v + s.2.length = totalOf (L.take (k + 1))) := by
        show _ = _
        rw [totalOf_take L k s hs, ← HV.out]
      have hle : v + s.2.length ≤ 4611686018427387904 := by have := totalOf_le L (k + 1); have := HT.out; have := HV2.out; omega
      generalize s.2.length = z at e2 HV2 hle
      clear h1 hs e1 s1 s
      go_wp2
      go_round
      case rel => exact ⟨k + 1, v + z, by omega, by go_num, by go_num, hle, HV2⟩
      case measure => simp [intOf]; omega
    · have hfin : Hid (v = totalOf L) := by
        have := HV.out
        rw [List.take_of_length_le (by rw [HX.out]; omega)] at this
        exact this
      clear h1
      go_wp2
      go_ret
      exact ⟨by rw [hfin.out]; rfl, rfl⟩
end

section
open Go.RowKit Dsk
set_option linter.unusedVariables false
set_option linter.unusedSimpArgs false

set_option maxHeartbeats 1600000 in
set_option maxRecDepth 100000 in
theorem files_some (a1 a2 : Option Addr) (n1 n2 c1 c2 : Nat) (L1 L2 : List (By × By)) (w : World) (hx : L1.length = n1) (hy : L2.length = n2) (hm : n1 ≤ 4611686018427387904) (hM : ∀ f ∈ L1, f.2.length ≤ 4611686018427387904) (h1 : Fis w a1 L1) (h2 : Fis w a2 L2) :
    Calls Try.prog 9 #[.slice a1 n1 c1, .slice a2 n2 c2] w fun e w' => ∃ b, e = .returned (.bool b) ∧ ∃ k, w' = w.drewN k := by
  by_cases hn : n1 = n2
  · subst hn
    have HX := hide hx
    have HY := hide hy
    clear hx hy
    go_enter Try.func9, Try.ntmps9
    go_wp2
    go_loopw [5] (fun i wr => ∃ k : Nat, k ≤ n1 ∧ i = .int .i64 k ∧ ∃ j, wr = w.drewN j) (fun i wr => n1 - (intOf i).toNat)
    case atStart => exact ⟨0, Nat.zero_le _, rfl, 0, rfl⟩
    case round =>
      obtain ⟨k, hk, rfl, j, hwr⟩ := hrel
      have HW := hide hwr
      have hkw : Kept [] w wr := by rw [hwr]; exact (Kept.refl [] w).drewN _
      clear hwr
      by_cases hlt : k < n1
      · obtain ⟨b1, rfl, s, hs, e1, bo1, bc1, e2, s1⟩ := h1 k (by rw [HX.out]; exact hlt)
        obtain ⟨b2, rfl, s', hs', d1, bo2, bc2, d2, s2⟩ := h2 k (by rw [HY.out]; exact hlt)
        replace e1 := hkw.cellOf e1 (by simp)
        replace e2 := hkw.cellOf e2 (by simp)
        replace d1 := hkw.cellOf d1 (by simp)
        replace d2 := hkw.cellOf d2 (by simp)
        obtain ⟨bb, hbb⟩ : ∃ bb, decide (s.2 = s'.2) = bb := ⟨_, rfl⟩
        have hb : Hid (∀ v, Kept [] wr v → Calls Try.prog 34 #[.slice bo1 s.2.length bc1, .slice bo2 s'.2.length bc2] v fun e w' => e = .returned (.bool bb) ∧ ∃ k, w' = v.drewN k) := fun v hv => by
          rw [← hbb]
          exact bytes_any bo1 bo2 s.2.length bc1 s'.2.length bc2 s.2 s'.2 v rfl rfl (hM s (List.mem_of_getElem? hs)) (s1.kept (hkw.trans hv (by simp)) (by simp)) (s2.kept (hkw.trans hv (by simp)) (by simp))
        clear hbb
        generalize s.1 = x at e1
        generalize s'.1 = x' at d1
        generalize s.2.length = z at e2 hb
        generalize s'.2.length = z' at d2 hb
        have HM : Hid (∀ f ∈ L1, f.2.length ≤ 4611686018427387904) := hM
        clear h1 h2 hs hs' s1 s2 s s' hM hkw
        cases hxx : (x == x') with
        | false =>
          as_aux_lemma =>
            go_wp2
            go_quiet ((go_at_call 34; exact Calls.quiet_of (hb.out _ ((Kept.refl [] wr).drewN _))))
            go_wp2
            go_ret
            exact ⟨_, rfl, j + nq, by rw [HW.out]; simp⟩
        | true =>
          cases bb with
          | false =>
            as_aux_lemma =>
              go_wp2
              go_quiet ((go_at_call 34; exact Calls.quiet_of (hb.out _ ((Kept.refl [] wr).drewN _))))
              go_wp2
              go_ret
              exact ⟨_, rfl, j + nq, by rw [HW.out]; simp⟩
          | true =>
            as_aux_lemma =>
              go_wp2
              go_quiet ((go_at_call 34; exact Calls.quiet_of (hb.out _ ((Kept.refl [] wr).drewN _))))
              go_wp2
              go_roundw
              case rel => exact ⟨k + 1, by omega, by go_num, j + nq, by rw [HW.out]; simp⟩
              case measure => simp [intOf]; omega
      · clear h1 h2
        go_wp2
        go_ret
        exact ⟨_, rfl, j, HW.out⟩
  · clear h1 h2 hx hy hM
    go_enter Try.func9, Try.ntmps9
    go_wp2
    go_ret
    exact ⟨_, rfl, 0, rfl⟩

def encI (ps : List Int) : List Value := ps.map (fun p => .int .i64 p)
/-- The picks on their way. -/
structure Pks (w wr : World) (pv : Value) (ps : List Int) : Prop where
  row : wr.ownsRow 0 3 1 pv ps.length (encI ps)
  old : Kept [] w wr
  new : ∀ g, pv.ownBlock = some g → w.heap.size ≤ g
theorem Try.infoInt5 : (Try.prog.info? 3).map (fun i => (i.zero, i.size, i.bytes)) = some (some (.int .i64 0), 1, 8) := by kernel_rfl
theorem Pks.start {w v0 : World} (h : Kept [] w v0) (p : Int) : Pks w (v0.alloc (.cells #[.int .i64 p] 3)) (.slice (some ⟨v0.heap.size, 0, none⟩) 1 1) [p] := by
  have hb := (MapKept.heap_alloc v0 (.cells #[.int .i64 p] 3)).1
  exact ⟨⟨rfl, .inr ⟨v0.heap.size, 1, #[.int .i64 p], rfl, Nat.zero_le _, hb, Nat.le_refl _, by decide, rfl, rfl⟩⟩, h.alloc _, fun g hg => by simp only [Value.ownBlock, Option.some.injEq] at hg; rw [← hg]; exact h.size⟩
theorem Pks.push {w wr : World} {pv : Value} {ps : List Int} (h : Pks w wr pv ps) (hl : ps.length ≤ 1000000) (p : Int) : ∃ g c w2, (Builtin.append_ #[35, 35] 35 #[pv, .slice (some ⟨wr.heap.size, 0, none⟩) 1 1]).run Try.prog (wr.alloc (.cells #[.int .i64 p] 3)) = .ok (.slice (some ⟨g, 0, none⟩) (ps.length + 1) c) w2 ∧ Pks w w2 (.slice (some ⟨g, 0, none⟩) (ps.length + 1) c) (ps ++ [p]) := by
  obtain ⟨g, c, w2, e1, e2, e3, e4, e5⟩ := run_app (P := Try.prog) wr 35 35 3 Try.underlying35 Try.infoInt5 rfl (by decide) _ _ _ h.row [.int .i64 p] rfl (by simp [Value.oneCell']) (by unfold maxLen; omega) (by omega)
  have hK := e3 (fun b => pv.ownBlock = some b) (fun _ e => e)
  refine ⟨g, c, w2, e1, ⟨by rw [List.length_append]; simpa [encI] using e2, ⟨hK.os.trans h.old.os, hK.tape.trans h.old.tape, hK.output.trans h.old.output, Nat.le_trans h.old.size hK.size, fun i hi _ => (hK.block i (Nat.lt_of_lt_of_le hi h.old.size) (fun hm => by have := h.new i hm; omega)).trans (h.old.block i hi (by simp))⟩, fun g' hg' => ?_⟩⟩
  simp only [Value.ownBlock, Option.some.injEq] at hg'
  subst hg'
  rcases e4 with e | e
  · exact h.new _ e.symm
  · exact Nat.le_trans h.old.size e
theorem Pks.kept {w wr w' : World} {pv : Value} {ps : List Int} (h : Pks w wr pv ps) (hk : Kept [] wr w') : Pks w w' pv ps := ⟨own_keeps h.row (Keep.ofNone (F := fun _ => False) hk) (fun _ _ h => h), h.old.trans hk (by simp), h.new⟩
theorem Pks.ints {w wr : World} {po : Option Addr} {n pc : Nat} {ps : List Int} (h : Pks w wr (.slice po n pc) ps) : Ints wr po ps ∧ ∀ a, po = some a → w.heap.size ≤ a.block := by
  refine ⟨fun i hi => ?_, fun a ha => h.new a.block (by rw [ha]; rfl)⟩
  rcases h.row.2 with ⟨_, e⟩ | ⟨g, cap, cur, e, _⟩
  · omega
  · injection e with e _ _
    subst e
    refine ⟨g, 0, rfl, ?_⟩
    have := h.row.cells (g := g) rfl i (.int .i64 (ps.getD i 0)) (by simp [encI, List.getElem?_eq_getElem hi, List.getD_eq_getElem?_getD])
    rw [add0] at this
    rw [Nat.zero_add]
    exact this

set_option maxHeartbeats 4000000 in
set_option maxRecDepth 100000 in
theorem all_ok {w : World} {q : Nat} {v : Value} {H : Nm} {t : Nat} (h : Rws w q v H t) (hn : (H.map (·.1)).Nodup) (times : Int) (hti : -1000 ≤ times ∧ times ≤ 1000) (ht : t ≤ 1000000) (lo : Option Addr) (n lc : Nat) (L : List (By × By)) (hL : L.length = n) (hHL : H.length = n) (hnl : n ≤ 1000000) (hF : Fis w lo L) (U : List Nat) (hU : ∀ (j : Nat) (f : By × By), L[j]? = some f → ∃ (i : Nat) (x : By × Nat), H[i]? = some x ∧ x.1 = f.1 ∧ U[j]? = some x.2 ∧ x.2 ≤ 1000000000) (hUl : U.length = n) :
    Calls Try.prog 13 #[.pointer (some ⟨q, 0, none⟩), .slice lo n lc, .int .i64 times] w fun e w' => ∃ po pc, e = .returned (.tuple #[.slice po (n + 1) pc, .bool true]) ∧ Pks w w' (.slice po (n + 1) pc) (pick times t :: U.map (pick times)) := by
  obtain ⟨bo, bc, hv, _⟩ := h.row.shape
  have k0 : w.cell? ⟨q, 0, none⟩ = some (.slice bo n bc) := by rw [← hHL, ← hv]; rw [cell_of_row _ _ _ _ _ _ h.cell]; rfl
  have k1 : w.cell? ⟨q, 1, none⟩ = some (.int .i64 t) := by rw [cell_of_row _ _ _ _ _ _ h.cell]; rfl
  have hmul : ∀ u : Nat, u ≤ 1000000000 → -1000000001000 ≤ times * ((u : Int) + 1) ∧ times * ((u : Int) + 1) ≤ 1000000001000 := fun u hu => by
    have h1 : (-1000) * ((u : Int) + 1) ≤ times * ((u : Int) + 1) := Int.mul_le_mul_of_nonneg_right hti.1 (by omega)
    have h2 : times * ((u : Int) + 1) ≤ 1000 * ((u : Int) + 1) := Int.mul_le_mul_of_nonneg_right hti.2 (by omega)
    omega
  have HMU := hide hmul
  obtain ⟨T1, hT1⟩ : ∃ T1, (t : Int) + 1 = T1 := ⟨_, rfl⟩
  obtain ⟨T2, hT2⟩ : ∃ T2, times * T1 = T2 := ⟨_, rfl⟩
  obtain ⟨T3, hT3⟩ : ∃ T3, (t : Int) + T2 = T3 := ⟨_, rfl⟩
  have hm0 := hmul t (by omega)
  rw [hT1, hT2] at hm0
  have HT1 : Hid (IntKind.i64.wrap ((t : Int) + 1) = T1) := hide (by rw [hT1, IntKind.wrap_i64]; omega)
  have HT2 : Hid (IntKind.i64.wrap (times * T1) = T2) := hide (by rw [hT2, IntKind.wrap_i64]; omega)
  have HT3 : Hid (IntKind.i64.wrap ((t : Int) + T2) = T3) := hide (by rw [hT3, IntKind.wrap_i64]; omega)
  have HPK : Hid (pick times t = T3) := hide (by unfold pick; rw [hT1, hT2, hT3])
  have HH := hide h
  have HN := hide hn
  have HFI := hide hF
  have HU := hide hU
  have HUL := hide hUl
  have HLL := hide hL
  have HHL := hide hHL
  clear hmul hm0 hT1 hT2 hT3 h hn hF hU hUl hL hHL hv
  go_enter Try.func13, Try.ntmps13
  go_upto_region 1 with (fail)
  refine wp_region_late (fun w' => Kept [] w w') (fun i => i == 99) (by kernel_rfl) ?_
  have h0 : Kept [] w w.drew := (Kept.refl [] w).drew
  generalize World.drew w = v0 at h0 ⊢
  refine wpAnyL_free (i := 0) (v := .pointer (some ⟨q, 0, none⟩)) rfl (by kernel_rfl) (by kernel_rfl) (by kernel_rfl) (fun _ _ _ h => h) (Or.inl ⟨by rfl, fun w _ => by go_simp⟩) ?_
  try simp only [List.getElem_toArray, List.getElem_cons_zero, List.getElem_cons_succ, Act.put, List.setIfInBounds_toArray, List.set_cons_zero, List.set_cons_succ]
  refine wpAnyL_free (i := 1) (v := .pointer (some ⟨q, 0, none⟩)) rfl (by kernel_rfl) (by kernel_rfl) (by kernel_rfl) (fun _ _ _ h => h) (Or.inl ⟨by rfl, fun w _ => by go_simp⟩) ?_
  try simp only [List.getElem_toArray, List.getElem_cons_zero, List.getElem_cons_succ, Act.put, List.setIfInBounds_toArray, List.set_cons_zero, List.set_cons_succ]
  refine wpAnyL_free (i := 2) (v := .pointer (some ⟨q, 1, none⟩)) rfl (by kernel_rfl) (by kernel_rfl) (by kernel_rfl) (fun _ _ _ h => h) (Or.inl ⟨by rfl, fun w _ => by go_simp⟩) ?_
  try simp only [List.getElem_toArray, List.getElem_cons_zero, List.getElem_cons_succ, Act.put, List.setIfInBounds_toArray, List.set_cons_zero, List.set_cons_succ]
  refine wpAnyL_take (i := 3) (v := .int .i64 (t : Nat)) rfl (by kernel_rfl) (by kernel_rfl) (by kernel_rfl) (by kernel_rfl) (by kernel_rfl) (fun _ _ _ h => h) (Or.inl ⟨by rfl, fun w hSw => by have c := Kept.cellOf hSw k1 (by simp); go_simp⟩) h0 ?_
  try simp only [List.getElem_toArray, List.getElem_cons_zero, List.getElem_cons_succ, Act.put, List.setIfInBounds_toArray, List.set_cons_zero, List.set_cons_succ]
  refine wpAnyL_free (i := 4) (v := .int .i64 times) rfl (by kernel_rfl) (by kernel_rfl) (by kernel_rfl) (fun _ _ _ h => h) (Or.inl ⟨by rfl, fun w _ => by go_simp⟩) ?_
  try simp only [List.getElem_toArray, List.getElem_cons_zero, List.getElem_cons_succ, Act.put, List.setIfInBounds_toArray, List.set_cons_zero, List.set_cons_succ]
  refine wpAnyL_free (i := 5) (v := .pointer (some ⟨q, 0, none⟩)) rfl (by kernel_rfl) (by kernel_rfl) (by kernel_rfl) (fun _ _ _ h => h) (Or.inl ⟨by rfl, fun w _ => by go_simp⟩) ?_
  try simp only [List.getElem_toArray, List.getElem_cons_zero, List.getElem_cons_succ, Act.put, List.setIfInBounds_toArray, List.set_cons_zero, List.set_cons_succ]
  refine wpAnyL_free (i := 6) (v := .pointer (some ⟨q, 0, none⟩)) rfl (by kernel_rfl) (by kernel_rfl) (by kernel_rfl) (fun _ _ _ h => h) (Or.inl ⟨by rfl, fun w _ => by go_simp⟩) ?_
  try simp only [List.getElem_toArray, List.getElem_cons_zero, List.getElem_cons_succ, Act.put, List.setIfInBounds_toArray, List.set_cons_zero, List.set_cons_succ]
  refine wpAnyL_free (i := 7) (v := .pointer (some ⟨q, 1, none⟩)) rfl (by kernel_rfl) (by kernel_rfl) (by kernel_rfl) (fun _ _ _ h => h) (Or.inl ⟨by rfl, fun w _ => by go_simp⟩) ?_
  try simp only [List.getElem_toArray, List.getElem_cons_zero, List.getElem_cons_succ, Act.put, List.setIfInBounds_toArray, List.set_cons_zero, List.set_cons_succ]
  refine wpAnyL_take (i := 8) (v := .int .i64 (t : Nat)) rfl (by kernel_rfl) (by kernel_rfl) (by kernel_rfl) (by kernel_rfl) (by kernel_rfl) (fun _ _ _ h => h) (Or.inl ⟨by rfl, fun w hSw => by have c := Kept.cellOf hSw k1 (by simp); go_simp⟩) h0 ?_
  try simp only [List.getElem_toArray, List.getElem_cons_zero, List.getElem_cons_succ, Act.put, List.setIfInBounds_toArray, List.set_cons_zero, List.set_cons_succ]
  refine wpAnyL_free (i := 9) (v := .int .i64 T1) rfl (by kernel_rfl) (by kernel_rfl) (by kernel_rfl) (fun _ _ _ h => h) (Or.inl ⟨by rfl, fun w _ => by have c0 := HT1.out; go_simp⟩) ?_
  try simp only [List.getElem_toArray, List.getElem_cons_zero, List.getElem_cons_succ, Act.put, List.setIfInBounds_toArray, List.set_cons_zero, List.set_cons_succ]
  refine wpAnyL_free (i := 10) (v := .int .i64 T2) rfl (by kernel_rfl) (by kernel_rfl) (by kernel_rfl) (fun _ _ _ h => h) (Or.inl ⟨by rfl, fun w _ => by have c0 := HT2.out; go_simp⟩) ?_
  try simp only [List.getElem_toArray, List.getElem_cons_zero, List.getElem_cons_succ, Act.put, List.setIfInBounds_toArray, List.set_cons_zero, List.set_cons_succ]
  refine wpAnyL_free (i := 11) (v := .int .i64 T3) rfl (by kernel_rfl) (by kernel_rfl) (by kernel_rfl) (fun _ _ _ h => h) (Or.inl ⟨by rfl, fun w _ => by have c0 := HT3.out; go_simp⟩) ?_
  try simp only [List.getElem_toArray, List.getElem_cons_zero, List.getElem_cons_succ, Act.put, List.setIfInBounds_toArray, List.set_cons_zero, List.set_cons_succ]
  refine wpAnyL_one (i := 12) (by kernel_rfl) rfl (fun K' hK => ?_)
  rw [if_pos (by rfl)]
  go_simp
  refine hK.out _ _ (fun _ _ => h0.alloc _) ?_
  clear hK K'
  try simp only [List.getElem_toArray, List.getElem_cons_zero, List.getElem_cons_succ, Act.put, List.setIfInBounds_toArray, List.set_cons_zero, List.set_cons_succ]
  refine wpAnyL_free (i := 13) (v := .slice (some ⟨v0.heap.size, 0, none⟩) 1 1) rfl (by kernel_rfl) (by kernel_rfl) (by kernel_rfl) (fun _ _ _ h => h) (Or.inl ⟨by rfl, fun w _ => by go_simp⟩) ?_
  try simp only [List.getElem_toArray, List.getElem_cons_zero, List.getElem_cons_succ, Act.put, List.setIfInBounds_toArray, List.set_cons_zero, List.set_cons_succ]
  refine wpAnyL_done (by kernel_rfl) ?_ _
  have HP : Hid (Pks w (v0.alloc (.cells #[.int .i64 T3] 3)) (.slice (some ⟨v0.heap.size, 0, none⟩) 1 1) [T3]) := hide (Pks.start h0 T3)
  clear h0 k1 HT1 HT2 HT3
  generalize v0.alloc (.cells #[.int .i64 T3] 3) = w1 at HP ⊢
  generalize v0.heap.size = g0 at HP ⊢
  go_upto_region 3 with (fail)
  go_loopw [8, 9] (fun y8 y9 wr => ∃ (k : Nat) (po : Option Addr) (pc : Nat), k ≤ n ∧ y9 = .int .i64 k ∧ y8 = .slice po (k + 1) pc ∧ Hid (Pks w wr (.slice po (k + 1) pc) (T3 :: (U.take k).map (pick times)))) (fun y8 y9 wr => n - (intOf y9).toNat)
  case atStart => exact ⟨0, some ⟨g0, 0, none⟩, 1, Nat.zero_le _, rfl, rfl, by simpa using HP⟩
  case round =>
    clear HP
    obtain ⟨k, po, pc, hk, rfl, rfl, HP⟩ := hrel
    have hkw := HP.out.old
    by_cases hlt : k < n
    · as_aux_lemma =>
      obtain ⟨b, hb, f, hf, c1, _⟩ := HFI.out k (by rw [HLL.out]; exact hlt)
      subst hb
      obtain ⟨i, x, hi, hx, hu, hxb⟩ := HU.out k f hf
      rw [← hx] at c1
      have hr := HH.out.kept hkw
      have hil := (List.getElem?_eq_some_iff.1 hi).1
      have hat := at_yes hr HN.out (by rw [HHL.out]; omega) hi
      obtain ⟨g, cap, hvv, hnc, _, hcs, _⟩ := hr.row.open (by omega)
      have d0 : wr.cell? ⟨q, 0, none⟩ = some (.slice (some ⟨g, 0, none⟩) n cap) := by rw [cell_of_row _ _ _ _ _ _ hr.cell, ← HHL.out, ← hvv]; rfl
      have d1 := hcs _ _ (hd_get H i x hi).2
      have c2 := hkw.cellOf c1 (by simp)
      obtain ⟨u, hux⟩ : ∃ u, x.2 = u := ⟨_, rfl⟩
      rw [hux] at d1 hu hxb
      obtain ⟨U1, hU1⟩ : ∃ U1, (u : Int) + 1 = U1 := ⟨_, rfl⟩
      obtain ⟨U2, hU2⟩ : ∃ U2, times * U1 = U2 := ⟨_, rfl⟩
      obtain ⟨U3, hU3⟩ : ∃ U3, (u : Int) + U2 = U3 := ⟨_, rfl⟩
      have hm0 := HMU.out u hxb
      rw [hU1, hU2] at hm0
      have wu1 : IntKind.i64.wrap ((u : Int) + 1) = U1 := by rw [hU1, IntKind.wrap_i64]; omega
      have wu2 : IntKind.i64.wrap (times * U1) = U2 := by rw [hU2, IntKind.wrap_i64]; omega
      have wu3 : IntKind.i64.wrap ((u : Int) + U2) = U3 := by rw [hU3, IntKind.wrap_i64]; omega
      have HPU : Hid (pick times u = U3) := hide (by unfold pick; rw [hU1, hU2, hU3])
      have hpl : (T3 :: (U.take k).map (pick times)).length = k + 1 := by simp [HUL.out]; omega
      obtain ⟨g2, cc2, w2, hap, hps⟩ := HP.out.push (by rw [hpl]; omega) U3
      rw [hpl] at hap hps
      have HNX : Hid (Pks w w2 (.slice (some ⟨g2, 0, none⟩) (k + 1 + 1) cc2) (T3 :: (U.take (k + 1)).map (pick times))) := hide (by
        have : U.take (k + 1) = U.take k ++ [u] := by rw [List.take_add_one, hu]; rfl
        rw [this, List.map_append, List.map_cons, List.map_nil, HPU.out]
        exact hps)
      have hin : (i : Int) < (n : Int) := by rw [← HHL.out]; omega
      clear hm0 hU1 hU2 hU3 HPU hpl hps HP hi hx hu hxb hux hr hcs hvv hf c1 hkw hil
      go_upto_region 9 with (go_at_call 38; refine hat.mono ?_; rintro e w' ⟨rfl, hww⟩; obtain rfl := hww.symm; clear hat)
      go_wp2_with (at_builtin; refine wpList_app_run rfl _ _ 35 35 rfl _ _ rfl rfl _ _ hap ?_; clear hap)
      go_roundw
      case rel => exact ⟨k + 1, some ⟨g2, 0, none⟩, cc2, by omega, by go_num, by rfl, HNX⟩
      case measure => simp [intOf]; omega
    · as_aux_lemma =>
      obtain rfl : k = n := by omega
      have HP2 : Hid (Pks w wr (.slice po (k + 1) pc) (pick times t :: U.map (pick times))) := hide (by
        have := HP.out
        rw [List.take_of_length_le (by rw [HUL.out]; omega), ← HPK.out] at this
        exact this)
      replace k0 := hkw.cellOf k0 (by simp)
      clear HP
      go_upto_region 10 with (fail)
      refine wp_region_late (fun w' => Kept [] wr w') (fun i => i == 99) (by kernel_rfl) ?_
      have h0 : Kept [] wr wr.drew := (Kept.refl [] wr).drew
      generalize World.drew wr = v0 at h0 ⊢
      refine wpAnyL_free (i := 0) (v := .slice po (k + 1) pc) rfl (by kernel_rfl) (by kernel_rfl) (by kernel_rfl) (fun _ _ _ h => h) (Or.inl ⟨by rfl, fun w _ => by go_simp⟩) ?_
      try simp only [List.getElem_toArray, List.getElem_cons_zero, List.getElem_cons_succ, Act.put, List.setIfInBounds_toArray, List.set_cons_zero, List.set_cons_succ]
      refine wpAnyL_free (i := 1) (v := .slice lo k lc) rfl (by kernel_rfl) (by kernel_rfl) (by kernel_rfl) (fun _ _ _ h => h) (Or.inl ⟨by rfl, fun w _ => by go_simp⟩) ?_
      try simp only [List.getElem_toArray, List.getElem_cons_zero, List.getElem_cons_succ, Act.put, List.setIfInBounds_toArray, List.set_cons_zero, List.set_cons_succ]
      refine wpAnyL_free (i := 2) (v := .int .i64 (k : Nat)) rfl (by kernel_rfl) (by kernel_rfl) (by kernel_rfl) (fun _ _ _ h => h) (Or.inl ⟨by rfl, fun w _ => by go_simp⟩) ?_
      try simp only [List.getElem_toArray, List.getElem_cons_zero, List.getElem_cons_succ, Act.put, List.setIfInBounds_toArray, List.set_cons_zero, List.set_cons_succ]
      refine wpAnyL_free (i := 3) (v := .pointer (some ⟨q, 0, none⟩)) rfl (by kernel_rfl) (by kernel_rfl) (by kernel_rfl) (fun _ _ _ h => h) (Or.inl ⟨by rfl, fun w _ => by go_simp⟩) ?_
      try simp only [List.getElem_toArray, List.getElem_cons_zero, List.getElem_cons_succ, Act.put, List.setIfInBounds_toArray, List.set_cons_zero, List.set_cons_succ]
      refine wpAnyL_free (i := 4) (v := .pointer (some ⟨q, 0, none⟩)) rfl (by kernel_rfl) (by kernel_rfl) (by kernel_rfl) (fun _ _ _ h => h) (Or.inl ⟨by rfl, fun w _ => by go_simp⟩) ?_
      try simp only [List.getElem_toArray, List.getElem_cons_zero, List.getElem_cons_succ, Act.put, List.setIfInBounds_toArray, List.set_cons_zero, List.set_cons_succ]
      refine wpAnyL_free (i := 5) (v := .pointer (some ⟨q, 0, none⟩)) rfl (by kernel_rfl) (by kernel_rfl) (by kernel_rfl) (fun _ _ _ h => h) (Or.inl ⟨by rfl, fun w _ => by go_simp⟩) ?_
      try simp only [List.getElem_toArray, List.getElem_cons_zero, List.getElem_cons_succ, Act.put, List.setIfInBounds_toArray, List.set_cons_zero, List.set_cons_succ]
      refine wpAnyL_take (i := 6) (v := .slice bo k bc) rfl (by kernel_rfl) (by kernel_rfl) (by kernel_rfl) (by kernel_rfl) (by kernel_rfl) (fun _ _ _ h => h) (Or.inl ⟨by rfl, fun w hSw => by have c := Kept.cellOf hSw k0 (by simp); go_simp⟩) h0 ?_
      try simp only [List.getElem_toArray, List.getElem_cons_zero, List.getElem_cons_succ, Act.put, List.setIfInBounds_toArray, List.set_cons_zero, List.set_cons_succ]
      refine wpAnyL_free (i := 7) (v := .int .i64 (k : Nat)) rfl (by kernel_rfl) (by kernel_rfl) (by kernel_rfl) (fun _ _ _ h => h) (Or.inl ⟨by rfl, fun w _ => by go_simp⟩) ?_
      try simp only [List.getElem_toArray, List.getElem_cons_zero, List.getElem_cons_succ, Act.put, List.setIfInBounds_toArray, List.set_cons_zero, List.set_cons_succ]
      refine wpAnyL_free (i := 8) (v := .bool true) rfl (by kernel_rfl) (by kernel_rfl) (by kernel_rfl) (fun _ _ _ h => h) (Or.inl ⟨by rfl, fun w _ => by go_simp⟩) ?_
      try simp only [List.getElem_toArray, List.getElem_cons_zero, List.getElem_cons_succ, Act.put, List.setIfInBounds_toArray, List.set_cons_zero, List.set_cons_succ]
      refine wpAnyL_free (i := 9) (v := .slice po (k + 1) pc) rfl (by kernel_rfl) (by kernel_rfl) (by kernel_rfl) (fun _ _ _ h => h) (Or.inl ⟨by rfl, fun w _ => by go_simp⟩) ?_
      try simp only [List.getElem_toArray, List.getElem_cons_zero, List.getElem_cons_succ, Act.put, List.setIfInBounds_toArray, List.set_cons_zero, List.set_cons_succ]
      refine wpAnyL_free (i := 10) (v := .bool true) rfl (by kernel_rfl) (by kernel_rfl) (by kernel_rfl) (fun _ _ _ h => h) (Or.inl ⟨by rfl, fun w _ => by go_simp⟩) ?_
      try simp only [List.getElem_toArray, List.getElem_cons_zero, List.getElem_cons_succ, Act.put, List.setIfInBounds_toArray, List.set_cons_zero, List.set_cons_succ]
      refine wpAnyL_done (by kernel_rfl) ?_ _
      go_wp2
      go_ret2
      exact ⟨po, pc, rfl, HP2.out.kept h0⟩
end

section
open Go.RowKit Dsk
set_option linter.unusedVariables false
set_option linter.unusedSimpArgs false

structure Wst (w0 w : World) (p : Nat) (S : Ds) (N : Nat) (q : Nat) (v : Value) (H : Nm) (t : Nat) : Prop where
  ax : Ax (fun b => b < w0.heap.size ∨ b = q ∨ v.ownBlock = some b) w w p S N
  rws : Rws w q v H t
  old : Kept [] w0 w
  newq : w0.heap.size ≤ q
  newv : ∀ g, v.ownBlock = some g → w0.heap.size ≤ g
section
variable {w0 w w' : World} {p : Nat} {S : Ds} {N : Nat} {q : Nat} {v : Value} {H : Nm} {t : Nat}
theorem Wst.next (h : Wst w0 w p S N q v H t) {S' : Ds} {N' : Nat} (hx : Ax (fun b => b < w0.heap.size ∨ b = q ∨ v.ownBlock = some b) w w' p S' N') : Wst w0 w' p S' N' q v H t := by
  have hk := hx.old
  exact ⟨hx.here, ⟨hk.heapOf h.rws.cell (fun hn => hn (.inr (.inl rfl))), h.rws.row.keep hk (fun g hg hn => hn (.inr (.inr hg)))⟩, ⟨hk.os.trans h.old.os, hk.tape.trans h.old.tape, hk.output.trans h.old.output, Nat.le_trans h.old.size hk.size, fun i hi _ => (hk.block i (Nat.lt_of_lt_of_le hi h.old.size) (fun hn => hn (.inl hi))).trans (h.old.block i hi (by simp))⟩, h.newq, h.newv⟩
theorem Wst.kept (h : Wst w0 w p S N q v H t) (hk : Kept [] w w') : Wst w0 w' p S N q v H t := h.next (h.ax.kept hk)
theorem Wst.mono {M : Nat} (h : Wst w0 w p S N q v H t) (hm : N ≤ M) : Wst w0 w p S M q v H t := ⟨h.ax.mono hm, h.rws, h.old, h.newq, h.newv⟩
theorem Wst.turn (h : Wst w0 w p S N q v H t) {v' : Value} {H' : Nm} {t' : Nat} (hr : Rws w' q v' H' t') (hT : RwsTo w w' q v v') : Wst w0 w' p S N q v' H' t' := by
  have hk := hT.keep
  refine ⟨h.ax.free hk (fun b _ hb => .inr hb) (fun b hb => ?_), hr, ⟨hk.os.trans h.old.os, hk.tape.trans h.old.tape, hk.output.trans h.old.output, Nat.le_trans h.old.size hk.size, fun i hi _ => (hk.block i (Nat.lt_of_lt_of_le hi h.old.size) (fun hn => ?_)).trans (h.old.block i hi (by simp))⟩, h.newq, fun g hg => ?_⟩
  · rcases hb with hb | hb | hb
    · exact ⟨.inl (.inl hb), by have := h.old.size; have := hk.size; omega⟩
    · exact ⟨.inl (.inr (.inl hb)), by rw [hb]; exact hr.qlt⟩
    · refine ⟨?_, hr.row.lt hb⟩
      rcases hT.new b hb with h1 | h1
      · exact .inl (.inr (.inr h1))
      · exact .inr h1
  · rcases hn with hn | hn
    · have := h.newq; omega
    · have := h.newv i hn; omega
  · rcases hT.new g hg with h1 | h1
    · exact h.newv g h1
    · exact Nat.le_trans h.old.size h1
/-- New rows in the place of the old ones. -/
theorem Wst.fresh {X : Nat → Prop} {wa : World} (h : Ax X wa w p S N) (hX : ∀ b, b < w0.heap.size → X b) (ho : Kept [] w0 w) : Wst w0 (w.alloc (.cells #[.slice none 0 0, .int .i64 0] 31)) p S N w.heap.size (.slice none 0 0) [] 0 := by
  have hb := (MapKept.heap_alloc w (.cells #[.slice none 0 0, .int .i64 0] 31)).1
  have hk : Kept [] w (w.alloc (.cells #[.slice none 0 0, .int .i64 0] 31)) := (Kept.refl [] w).alloc _
  refine ⟨h.free (Keep.ofNone (F := fun _ => False) hk) (fun _ _ h => h.elim) (fun b hb2 => ?_), ⟨hb, OwnC.nil _ _ _⟩, ho.trans hk (by simp), ho.size, by simp [Value.ownBlock]⟩
  have hlt := (Array.getElem?_eq_some_iff.1 hb).1
  rcases hb2 with hb2 | hb2 | hb2
  · exact ⟨.inl (hX b hb2), by have := ho.size; omega⟩
  · exact ⟨.inr (by omega), by omega⟩
  · simp [Value.ownBlock] at hb2
theorem Wst.crashed (h : Wst w0 w p S N q v H t) : Wst w0 (w.alloc (.cells #[.slice none 0 0, .int .i64 0] 31)) p S N w.heap.size (.slice none 0 0) [] 0 := Wst.fresh h.ax (fun b hb => .inl hb) h.old
theorem Wst.begin (h : At w0 w p S N) : Wst w0 (w.alloc (.cells #[.slice none 0 0, .int .i64 0] 31)) p S N w.heap.size (.slice none 0 0) [] 0 := Wst.fresh h.ax (fun b hb => hb) h.old
/-- One name more, behind a crash. -/
theorem Wst.push (h : Wst w0 w p S N q v H t) (hl : H.length ≤ 1000000) (nm : By) {v0 : World} (hk : Kept [] w v0) : ∃ g c w2, (Builtin.append_ #[29, 29] 29 #[v, .slice (some ⟨v0.heap.size, 0, none⟩) 1 1]).run Try.prog (v0.alloc (.cells #[encStr nm, .int .i64 0] 45)) = .ok (.slice (some ⟨g, 0, none⟩) (H.length + 1) c) w2 ∧ w2.heap[q]? = some (.cells #[v, .int .i64 t] 31 (0, 0)) ∧ Wst w0 (w2.setCell ⟨q, 0, none⟩ (.slice (some ⟨g, 0, none⟩) (H.length + 1) c)) p S N q (.slice (some ⟨g, 0, none⟩) (H.length + 1) c) (H ++ [(nm, 0)]) t ∧ RwsTo w (w2.setCell ⟨q, 0, none⟩ (.slice (some ⟨g, 0, none⟩) (H.length + 1) c)) q v (.slice (some ⟨g, 0, none⟩) (H.length + 1) c) := by
  obtain ⟨g, c, w2, e1, e2, e3, e4⟩ := h.rws.push hl (nm, 0) hk
  exact ⟨g, c, w2, e1, e2, h.turn e3 e4, e4⟩
theorem ws_files (h : Wst w0 w p S N q v H t) (hN : N ≤ 268435456) : Calls Try.prog 6 #[.pointer (some ⟨p, 0, none⟩)] w fun e w' => ∃ vo vk, e = .returned (.slice vo S.files.length vk) ∧ Stay (fun b => w.heap.size ≤ b ∧ b < w'.heap.size) w' (fun u => Fis u vo S.files) ∧ Kept [] w w' := by
  refine (files_ax h.ax hN).mono ?_
  rintro e w' ⟨v, vs, rfl, hF, hk⟩
  obtain ⟨vo, vk, rfl, _⟩ := own_shape hF.row
  exact ⟨vo, vk, rfl, ((Stay.fls (X := fun _ => False) hF).wide (fun b hb => hb.resolve_left (fun h => h))).imp (fun u hu => (Fis.of hu).1), hk⟩
theorem ws_off (h : Wst w0 w p S N q v H t) : Calls Try.prog 7 #[.pointer (some ⟨p, 0, none⟩)] w fun e w' => e = .returned (.bool (!S.on)) ∧ w' = w := off_ax h.ax
theorem ws_twin (h : Wst w0 w p S N q v H t) (hN : N ≤ 268435456) : Calls Try.prog 14 #[.pointer (some ⟨p, 0, none⟩)] w fun e w' => ∃ b, e = .returned (.pointer (some ⟨b, 0, none⟩)) ∧ At w w' b S.compact N := by
  obtain ⟨A, o, hP, ho, hw, hb⟩ := h.ax
  exact twin_ok hP hb hN
end
end

end Go.Proofs.Ytllfkfncgalpaaa
