/-
  The walk: freightlaw8.TableSets. (Written by tools/t8v.py.)
-/
import Derived.Test.YtdeneflgldagpabT8v0
import Derived.Test.YtdeneflgldagpabT8l
import Derived.Test.YtdeneflgldagpabT8o
import Derived.Test.YtdeneflgldagpabT8t
import Derived.Test.YtdeneflgldagpabZx
namespace Go.Proofs.Ytdeneflgldagpab
open Go.RowKit Go.Sort
set_option linter.unusedVariables false
set_option linter.unusedSimpArgs false

theorem wao2 (ao : Option Addr) : Wao ao := by cases ao with
  | none => exact .inl rfl
  | some a => exact .inr ⟨a, rfl⟩
theorem told_cap {w w' : World} {r : Ending} {e : Int} {L : List Res} (h : ToldR w w' r e L) : ∃ bo c m, r = .returned (.tuple #[.slice bo m c, .int .i64 e]) ∧ L.length = m ∧ Ress w' bo L ∧ (bo = none → c = 0) ∧ m ≤ c ∧ c ≤ 9223372036854775807 ∧ Kept [] w w' := by
  obtain ⟨⟨v, rfl, ho⟩, hk⟩ := h
  rcases ho.2 with ⟨rfl, h0⟩ | ⟨g, cap, cur, rfl, hb, hg, hn, hc, hs, ht⟩
  · have : L = [] := List.eq_nil_of_length_eq_zero h0
    subst this
    exact ⟨none, 0, 0, rfl, rfl, Ress.nil _ _, fun _ => rfl, Nat.le_refl _, by omega, hk⟩
  · obtain ⟨bo, c, e1, h2, hR, _, h3⟩ := ho.ress
    cases e1
    exact ⟨_, _, L.length, rfl, rfl, hR, by simp, h2, h3, hk⟩
theorem Kept.heapO {l : List Nat} {w w' : World} (h : Kept l w w') {g : Nat} {o : Obj} (hg : w.heap[g]? = some o) (hn : g ∉ l) : w'.heap[g]? = some o := by
  rw [h.block g (Array.getElem?_eq_some_iff.1 hg).1 hn]; exact hg
theorem withRes_keptO (w : World) (e : Res) : Kept [] w (withRes w e) := Kept.of_below (withRes_below w e)
theorem res_act_range {w : World} {b o : Nat} {e : Res} (h : w.rangeAt b o e.cells) : w.rangeAt b o (bys e.action) := fun j v hv => h j v (by unfold Res.cells; rw [List.getElem?_append_left (List.getElem?_eq_some_iff.1 hv).1]; exact hv)

set_option maxHeartbeats 12800000 in
set_option maxRecDepth 100000 in
theorem sets_walk (ao : Option Addr) (n cap : Nat) (e : Res) (L : List Res) (w : World) (hi : InR w ao n cap L) :
    Calls Try.prog 4 #[.slice ao n cap, .agg e.cells.toArray] w fun e w' => e = .returned (.bool true) ∧ Below w.heap.size w w' := by
  obtain ⟨W0, hW0⟩ : ∃ W0, w.alloc (.cells e.cells.toArray 36) = W0 := ⟨_, rfl⟩
  have hk0 : Kept [] w W0 := by rw [← hW0]; exact (Kept.refl [] w).alloc _
  have hr0 : W0.heap[w.heap.size]? = some (.cells e.cells.toArray 36 (0, 0)) := by rw [← hW0]; exact heap_new w _
  have hcm := hi.max
  have hle := hi.le
  have hm : n ≤ 4611686018427387800 := by omega
  have HL := hide hi.ress
  have HN := hide hi.len
  have hwi := with_ok ao n cap L e W0 hi.len (hi.ress.kept hk0 (by simp)) (wao2 ao) (fun h => (hi.nil h).2) hle (by omega) (by omega)
  have ie : (Try.prog.info? 36).map (·.size) = some e.cells.length := by rw [e.len]; exact Try.infoResS
  have HK0 := hide hk0
  have HR0 := hide hr0
  clear hi hcm hle hk0 hr0
  have rr := res_range HR0.out
  obtain ⟨a, ha⟩ : ∃ a, w.heap.size = a := ⟨_, rfl⟩
  rw [ha] at HR0 rr
  have HAa := hide ha
  by_cases hcv : Tb.withE L e = 0
  · have HS := hide (Tb.sets_ok hcv)
    rw [hcv] at hwi
    generalize Tb.withL L e = Z at hwi HS
    clear hcv
    go_enter Try.func4, Try.ntmps4
    go_upto_region 4 with (first
      | refine wpList_load_mid rfl 36 (.tmp 3) rfl a 0 rfl e.cells _ rr Try.underlying36 rfl ie ?_
      | (go_at_call 12; refine hwi.mono ?_; intro r w2 ht; obtain ⟨bo, c, m, rfl, hm1, hs1, hnl1, hc1, hcm1, hk1⟩ := told_cap ht; have H2 := hide (And.intro hm1 (And.intro hs1 (And.intro hnl1 hk1))); clear ht hm1 hs1 hnl1 hk1 hwi))
    clear hW0 rr
    have HZ : Hid (Z.length = m) := H2.out.1
    have K2 : Hid (Kept [] w w2) := HK0.out.trans H2.out.2.2.2 (by simp)
    have R2 : Hid (w2.heap[a]? = some (.cells e.cells.toArray 36 (0, 0))) := H2.out.2.2.2.heapO HR0.out (by simp)
    have Z2 : Hid (Ress w2 bo Z ∧ (bo = none → c = 0)) := ⟨H2.out.2.1, H2.out.2.2.1⟩
    clear H2 HK0 HR0
    have hml : ¬ (m : Int) < (n : Int) := by have := HS.out.lo; rw [HZ.out, HN.out] at this; omega
    have hmh : ¬ ((n : Int) + 1) < (m : Int) := by have := HS.out.hi; rw [HZ.out, HN.out] at this; omega
    have hmb : m ≤ 4611686018427387801 := by have := HS.out.hi; rw [HZ.out, HN.out] at this; omega
    have hft := fits_ok ao n cap L w2 HN.out (HL.out.kept K2.out (by simp)) (by omega)
    rw [HS.out.vL] at hft
    go_upto_region 6 with (first
      | (have z := hft; go_at_call 11; refine hft.mono ?_; rintro r w3 ⟨rfl, hk⟩; have K3 := hide hk; clear hk hft z; have hfu := fits_ok bo m c Z w3 HZ.out (Z2.out.1.kept K3.out (by simp)) (by omega); rw [HS.out.vZ] at hfu)
      | (go_at_call 11; refine hfu.mono ?_; rintro r w4 ⟨rfl, hk⟩; have K4 := hide (K3.out.trans hk (by simp)); clear hk hfu))
    clear hml hmh
    have K4w : Hid (Kept [] w w4) := K2.out.trans K4.out (by simp)
    have R4 : Hid (w4.heap[a]? = some (.cells e.cells.toArray 36 (0, 0))) := K4.out.heapO R2.out (by simp)
    have Z4 : Hid (Ress w4 bo Z) := Z2.out.1.kept K4.out (by simp)
    clear K2 R2 K3 K4
    clear w3
    obtain ⟨A, hA⟩ : ∃ A, e.action = A := ⟨_, rfl⟩
    have hAl : A.length = 32 := by rw [← hA]; exact e.ha
    have iA : (Try.prog.info? 34).map (·.size) = some (bys A).length := by rw [bys_length, hAl]; kernel_rfl
    have HA := hide hA
    have HAl := hide hAl
    clear hA hAl
    have hf := find_ok bo m c Z A w4 HZ.out Z4.out (wao2 bo) HAl.out (by omega)
    rw [show Tb.find Z A = some e by rw [← HA.out]; exact HS.out.self] at hf
    simp only [Option.getD_some, Option.isSome_some] at hf
    have iea : (Try.prog.info? 36).map (·.size) = some e.cells.toArray.size := by rw [res_size]; exact Try.infoResS
    have hz := Try.zeroRes
    have rA : w4.rangeAt a 0 (bys A) := by have := res_act_range (res_range R4.out); rwa [HA.out] at this
    go_upto_region 7 with (first
      | refine wpList_load_mid rfl 34 (.tmp 55) rfl a 0 rfl (bys A) _ rA Try.underlying34 rfl iA ?_
      | (go_at_call 13; refine hf.mono ?_; rintro r w5 ⟨rfl, hk⟩; have HC := hide hk; clear hk hf)
      | refine wpList_store_rowTo rfl 36 (.tmp 7) (.tmp 58) rfl rfl w5.heap.size e.cells.toArray rfl rfl 36 zeroR (new_zero w5) iea (zero_size e) (res_all e) ?_)
    have eW : (w5.alloc (.cells zeroR 36)).setRow w5.heap.size e.cells.toArray = withRes w5 e := rfl
    rw [eW]
    have K6 : Hid (Kept [] w4 (withRes w5 e)) := HC.out.trans (withRes_keptO w5 e) (by simp)
    have T6 := hide (res_range (withRes_row w5 e))
    obtain ⟨t, ht⟩ : ∃ t, w5.heap.size = t := ⟨_, rfl⟩
    rw [ht] at T6 ⊢
    clear eW ht HC rA
    generalize withRes w5 e = w6 at K6 T6 ⊢
    clear w5
    have K6w : Hid (Kept [] w w6) := K4w.out.trans K6.out (by simp)
    have R6 : Hid (w6.heap[a]? = some (.cells e.cells.toArray 36 (0, 0))) := K6.out.heapO R4.out (by simp)
    have Z6 : Hid (Ress w6 bo Z) := Z4.out.kept K6.out (by simp)
    clear K4w R4 Z4 K6
    clear w4
    have heqe : ∀ W, (Op.equalIn 10000 36 (.agg e.cells.toArray) (.agg e.cells.toArray)).run Try.prog W = .ok true W := fun W => by rw [Try.eqlRes]; simp
    have rt := T6.out
    have ra := res_range R6.out
    go_upto_region 9 with (first
      | refine wpList_load_guard (by rfl) 36 (.tmp 7) rfl t 0 rfl e.cells _ rt Try.underlying36 rfl ie ?_
      | refine wpList_load_guard (by rfl) 36 (.tmp 3) rfl a 0 rfl e.cells _ ra Try.underlying36 rfl ie ?_)
    clear rt ra heqe T6
    have hf := of_ok ao n cap L A w6 HN.out (HL.out.kept K6w.out (by simp)) HAl.out (by omega)
    obtain ⟨H, hH⟩ : ∃ H, (Tb.find L A).isSome = H := ⟨_, rfl⟩
    obtain ⟨y, hy⟩ : ∃ y, (Tb.find L A).getD res0 = y := ⟨_, rfl⟩
    rw [hH, hy] at hf
    have hmn : ((m : Int) == (n : Int)) = H := by
      have h1 := HS.out.eq
      rw [HZ.out, HN.out, HA.out, ← Tb.find_has, hH] at h1
      cases H with
      | true => simp only [iff_true] at h1; simp [h1]
      | false => simp at h1; simp; omega
    have hHH : (H != H) = false := by cases H <;> rfl
    clear hH hy
    have iya : (Try.prog.info? 36).map (·.size) = some y.cells.toArray.size := by rw [res_size]; exact Try.infoResS
    have rA : w6.rangeAt a 0 (bys A) := by have := res_act_range (res_range R6.out); rwa [HA.out] at this
    go_upto_region 10 with (first
      | refine wpList_load_mid rfl 34 (.tmp 69) rfl a 0 rfl (bys A) _ rA Try.underlying34 rfl iA ?_
      | (go_at_call 14; refine hf.mono ?_; rintro r w7 ⟨rfl, hk⟩; have HC := hide hk; clear hk hf)
      | refine wpList_store_rowTo rfl 36 (.tmp 9) (.tmp 72) rfl rfl w7.heap.size y.cells.toArray rfl rfl 36 zeroR (new_zero w7) iya (zero_size y) (res_all y) ?_)
    have eW : (w7.alloc (.cells zeroR 36)).setRow w7.heap.size y.cells.toArray = withRes w7 y := rfl
    rw [eW]
    have K8 : Hid (Kept [] w6 (withRes w7 y)) := HC.out.trans (withRes_keptO w7 y) (by simp)
    generalize withRes w7 y = w8 at K8 ⊢
    have K8w : Hid (Kept [] w w8) := K6w.out.trans K8.out (by simp)
    have R8 : Hid (w8.heap[a]? = some (.cells e.cells.toArray 36 (0, 0))) := K8.out.heapO R6.out (by simp)
    have Z8 : Hid (Ress w8 bo Z) := Z6.out.kept K8.out (by simp)
    clear eW HC rA K6w R6 Z6 K8
    go_wp2_with (fail)
    clear hmn hHH
    go_loopw [11] (fun y wr => ∃ k : Nat, k ≤ n ∧ y = .int .i64 k ∧ Hid (Kept [] w8 wr)) (fun y wr => n - (intOf y).toNat)
    case atStart => exact ⟨0, Nat.zero_le _, rfl, Kept.refl _ _⟩
    case round =>
      obtain ⟨k, hk, rfl, HK⟩ := hrel
      have Kw : Hid (Kept [] w wr) := K8w.out.trans HK.out (by simp)
      have Rw : Hid (wr.heap[a]? = some (.cells e.cells.toArray 36 (0, 0))) := HK.out.heapO R8.out (by simp)
      have Zw : Hid (Ress wr bo Z) := Z8.out.kept HK.out (by simp)
      by_cases hlt : k < n
      · obtain ⟨b, off, rfl, hrk⟩ := (HL.out.kept Kw.out (by simp)) k (by rw [HN.out]; exact hlt)
        have HKP := hide (HS.out.keep k (by rw [HN.out]; exact hlt))
        generalize L.getD k res0 = x at hrk HKP
        obtain ⟨B, hB⟩ : ∃ B, x.action = B := ⟨_, rfl⟩
        have hBl : B.length = 32 := by rw [← hB]; exact x.ha
        have iB : (Try.prog.info? 34).map (·.size) = some (bys B).length := by rw [bys_length, hBl]; kernel_rfl
        have hrB : wr.rangeAt b (off + k * 65) (bys B) := by have := res_act_range hrk; rwa [hB] at this
        have hrA : wr.rangeAt a 0 (bys A) := by have := res_act_range (res_range Rw.out); rwa [HA.out] at this
        have heqI := Try.eqlID B A hBl HAl.out
        obtain ⟨D, hD⟩ : ∃ D, decide (B = A) = D := ⟨_, rfl⟩
        simp only [hD] at heqI
        have HD := hide hD
        have HB := hide (And.intro hB hBl)
        have HX := hide hrk
        clear hD hB hBl hrk
        go_upto_region 15 with (fail)
        refine wp_region_held_drew (S := fun w' => Kept [] wr w') (by kernel_rfl) ((Kept.refl [] wr).drew) (fun h0 => ?_)
        generalize World.drew wr = v0 at h0 ⊢
        refine wpAnyH_take (i := 0) (v := .slice (some ⟨b, off, none⟩) n cap) rfl (by kernel_rfl) (by kernel_rfl) (by kernel_rfl) (fun _ _ _ h => h) (Or.inl ⟨by rfl, fun w hSw => by go_simp⟩) h0 ?_
        try simp only [List.getElem_toArray, List.getElem_cons_zero, List.getElem_cons_succ, Act.put, List.setIfInBounds_toArray, List.set_cons_zero, List.set_cons_succ]
        refine wpAnyH_take (i := 1) (v := .int .i64 k) rfl (by kernel_rfl) (by kernel_rfl) (by kernel_rfl) (fun _ _ _ h => h) (Or.inl ⟨by rfl, fun w hSw => by go_simp⟩) h0 ?_
        try simp only [List.getElem_toArray, List.getElem_cons_zero, List.getElem_cons_succ, Act.put, List.setIfInBounds_toArray, List.set_cons_zero, List.set_cons_succ]
        refine wpAnyH_take (i := 2) (v := .pointer (some ⟨b, off + k * 65, none⟩)) rfl (by kernel_rfl) (by kernel_rfl) (by kernel_rfl) (fun _ _ _ h => h) (Or.inl ⟨by rfl, fun w hSw => by go_simp⟩) h0 ?_
        try simp only [List.getElem_toArray, List.getElem_cons_zero, List.getElem_cons_succ, Act.put, List.setIfInBounds_toArray, List.set_cons_zero, List.set_cons_succ]
        refine wpAnyH_take (i := 3) (v := .pointer (some ⟨b, off + k * 65, none⟩)) rfl (by kernel_rfl) (by kernel_rfl) (by kernel_rfl) (fun _ _ _ h => h) (Or.inl ⟨by rfl, fun w hSw => by go_simp⟩) h0 ?_
        try simp only [List.getElem_toArray, List.getElem_cons_zero, List.getElem_cons_succ, Act.put, List.setIfInBounds_toArray, List.set_cons_zero, List.set_cons_succ]
        refine wpAnyH_take (i := 4) rfl (by kernel_rfl) (by kernel_rfl) (by kernel_rfl) (fun _ _ _ h => h) (yieldsIf_load_mid (by rfl) _ _ rfl _ _ rfl _ _ (fun w h j v hv => Kept.cellOf h (hrB j v hv) (by simp)) Try.underlying34 rfl iB) h0 ?_
        try simp only [List.getElem_toArray, List.getElem_cons_zero, List.getElem_cons_succ, Act.put, List.setIfInBounds_toArray, List.set_cons_zero, List.set_cons_succ]
        refine wpAnyH_take (i := 5) (v := .pointer (some ⟨a, 0, none⟩)) rfl (by kernel_rfl) (by kernel_rfl) (by kernel_rfl) (fun _ _ _ h => h) (Or.inl ⟨by rfl, fun w hSw => by go_simp⟩) h0 ?_
        try simp only [List.getElem_toArray, List.getElem_cons_zero, List.getElem_cons_succ, Act.put, List.setIfInBounds_toArray, List.set_cons_zero, List.set_cons_succ]
        refine wpAnyH_take (i := 6) rfl (by kernel_rfl) (by kernel_rfl) (by kernel_rfl) (fun _ _ _ h => h) (yieldsIf_load_mid (by rfl) _ _ rfl _ _ rfl _ _ (fun w h j v hv => Kept.cellOf h (hrA j v hv) (by simp)) Try.underlying34 rfl iA) h0 ?_
        try simp only [List.getElem_toArray, List.getElem_cons_zero, List.getElem_cons_succ, Act.put, List.setIfInBounds_toArray, List.set_cons_zero, List.set_cons_succ]
        refine wpAnyH_take (i := 7) (v := .bool D) rfl (by kernel_rfl) (by kernel_rfl) (by kernel_rfl) (fun _ _ _ h => h) (Or.inl ⟨by rfl, fun w hSw => by have c := heqI w; go_simp⟩) h0 ?_
        try simp only [List.getElem_toArray, List.getElem_cons_zero, List.getElem_cons_succ, Act.put, List.setIfInBounds_toArray, List.set_cons_zero, List.set_cons_succ]
        refine wpAnyH_done (by kernel_rfl) ?_ _
        have HV : Hid (Kept [] wr v0) := h0
        clear h0 hrA heqI
        obtain ⟨w5, hw5⟩ : ∃ V, V = v0 := ⟨_, rfl⟩
        subst hw5
        cases D with
        | true =>
          go_wp2
          go_roundw
          case rel => exact ⟨k + 1, by omega, by go_num, HK.out.trans HV.out (by simp)⟩
          case measure => simp [intOf]; omega
        | false =>
          have hne : B ≠ A := of_decide_eq_false HD.out
          have hfx : Tb.find Z B = some x := by have := HKP.out (by rw [HB.out.1, HA.out]; exact hne); rwa [HB.out.1] at this
          have hf := find_ok bo m c Z B w5 HZ.out (Zw.out.kept HV.out (by simp)) (wao2 bo) HB.out.2 (by omega)
          rw [hfx] at hf
          simp only [Option.getD_some, Option.isSome_some] at hf
          clear hne hfx HKP
          have ixa : (Try.prog.info? 36).map (·.size) = some x.cells.toArray.size := by rw [res_size]; exact Try.infoResS
          have ix : (Try.prog.info? 36).map (·.size) = some x.cells.length := by rw [x.len]; exact Try.infoResS
          have rB : w5.rangeAt b (off + k * 65) (bys B) := fun q v hv => HV.out.cellOf (hrB q v hv) (by simp)
          go_upto_region 17 with (first
            | refine wpList_load_mid rfl 34 (.tmp 100) rfl b (off + k * 65) rfl (bys B) _ rB Try.underlying34 rfl iB ?_
            | (go_at_call 13; refine hf.mono ?_; rintro r w6 ⟨rfl, hk⟩; have HC := hide hk; clear hk hf)
            | refine wpList_store_rowTo rfl 36 (.tmp 12) (.tmp 103) rfl rfl w6.heap.size x.cells.toArray rfl rfl 36 zeroR (new_zero w6) ixa (zero_size x) (res_all x) ?_)
          have eW : (w6.alloc (.cells zeroR 36)).setRow w6.heap.size x.cells.toArray = withRes w6 x := rfl
          rw [eW]
          have K7 : Hid (Kept [] wr (withRes w6 x)) := (HV.out.trans HC.out (by simp)).trans (withRes_keptO w6 x) (by simp)
          have T7 := hide (res_range (withRes_row w6 x))
          obtain ⟨v, hv⟩ : ∃ v, w6.heap.size = v := ⟨_, rfl⟩
          rw [hv] at T7 ⊢
          clear eW hv HC rB hrB
          generalize withRes w6 x = w7 at K7 T7 ⊢
          have rv := T7.out
          have rx : w7.rangeAt b (off + k * 65) x.cells := fun q v hv => K7.out.cellOf (HX.out q v hv) (by simp)
          have heqx : ∀ W, (Op.equalIn 10000 36 (.agg x.cells.toArray) (.agg x.cells.toArray)).run Try.prog W = .ok true W := fun W => by rw [Try.eqlRes]; simp
          refine wp_region_held_drew (S := fun w' => Kept [] w7 w') (by kernel_rfl) ((Kept.refl [] w7).drew) (fun h0 => ?_)
          generalize World.drew w7 = v0 at h0 ⊢
          refine wpAnyH_take (i := 0) (v := .bool true) rfl (by kernel_rfl) (by kernel_rfl) (by kernel_rfl) (fun _ _ _ h => h) (Or.inl ⟨by rfl, fun w hSw => by go_simp⟩) h0 ?_
          try simp only [List.getElem_toArray, List.getElem_cons_zero, List.getElem_cons_succ, Act.put, List.setIfInBounds_toArray, List.set_cons_zero, List.set_cons_succ]
          refine wpAnyH_take (i := 1) (v := .bool false) rfl (by kernel_rfl) (by kernel_rfl) (by kernel_rfl) (fun _ _ _ h => h) (Or.inl ⟨by rfl, fun w hSw => by go_simp⟩) h0 ?_
          try simp only [List.getElem_toArray, List.getElem_cons_zero, List.getElem_cons_succ, Act.put, List.setIfInBounds_toArray, List.set_cons_zero, List.set_cons_succ]
          refine wpAnyH_take (i := 2) (v := .bool false) rfl (by kernel_rfl) (by kernel_rfl) (by kernel_rfl) (fun _ _ _ h => h) (Or.inl ⟨by rfl, fun w hSw => by go_simp⟩) h0 ?_
          try simp only [List.getElem_toArray, List.getElem_cons_zero, List.getElem_cons_succ, Act.put, List.setIfInBounds_toArray, List.set_cons_zero, List.set_cons_succ]
          refine wpAnyH_take (i := 3) rfl (by kernel_rfl) (by kernel_rfl) (by kernel_rfl) (fun _ _ _ h => h) (yieldsIf_load_mid (by rfl) _ _ rfl _ _ rfl _ _ (fun w h j v hv => Kept.cellOf h (rv j v hv) (by simp)) Try.underlying36 rfl ix) h0 ?_
          try simp only [List.getElem_toArray, List.getElem_cons_zero, List.getElem_cons_succ, Act.put, List.setIfInBounds_toArray, List.set_cons_zero, List.set_cons_succ]
          refine wpAnyH_take (i := 4) (v := .slice (some ⟨b, off, none⟩) n cap) rfl (by kernel_rfl) (by kernel_rfl) (by kernel_rfl) (fun _ _ _ h => h) (Or.inl ⟨by rfl, fun w hSw => by go_simp⟩) h0 ?_
          try simp only [List.getElem_toArray, List.getElem_cons_zero, List.getElem_cons_succ, Act.put, List.setIfInBounds_toArray, List.set_cons_zero, List.set_cons_succ]
          refine wpAnyH_take (i := 5) (v := .int .i64 k) rfl (by kernel_rfl) (by kernel_rfl) (by kernel_rfl) (fun _ _ _ h => h) (Or.inl ⟨by rfl, fun w hSw => by go_simp⟩) h0 ?_
          try simp only [List.getElem_toArray, List.getElem_cons_zero, List.getElem_cons_succ, Act.put, List.setIfInBounds_toArray, List.set_cons_zero, List.set_cons_succ]
          refine wpAnyH_take (i := 6) (v := .pointer (some ⟨b, off + k * 65, none⟩)) rfl (by kernel_rfl) (by kernel_rfl) (by kernel_rfl) (fun _ _ _ h => h) (Or.inl ⟨by rfl, fun w hSw => by go_simp⟩) h0 ?_
          try simp only [List.getElem_toArray, List.getElem_cons_zero, List.getElem_cons_succ, Act.put, List.setIfInBounds_toArray, List.set_cons_zero, List.set_cons_succ]
          refine wpAnyH_take (i := 7) rfl (by kernel_rfl) (by kernel_rfl) (by kernel_rfl) (fun _ _ _ h => h) (yieldsIf_load_mid (by rfl) _ _ rfl _ _ rfl _ _ (fun w h j v hv => Kept.cellOf h (rx j v hv) (by simp)) Try.underlying36 rfl ix) h0 ?_
          try simp only [List.getElem_toArray, List.getElem_cons_zero, List.getElem_cons_succ, Act.put, List.setIfInBounds_toArray, List.set_cons_zero, List.set_cons_succ]
          refine wpAnyH_take (i := 8) (v := .bool false) rfl (by kernel_rfl) (by kernel_rfl) (by kernel_rfl) (fun _ _ _ h => h) (Or.inl ⟨by rfl, fun w hSw => by have c := heqx w; go_simp⟩) h0 ?_
          try simp only [List.getElem_toArray, List.getElem_cons_zero, List.getElem_cons_succ, Act.put, List.setIfInBounds_toArray, List.set_cons_zero, List.set_cons_succ]
          refine wpAnyH_take (i := 9) (v := .bool false) rfl (by kernel_rfl) (by kernel_rfl) (by kernel_rfl) (fun _ _ _ h => h) (Or.inl ⟨by rfl, fun w hSw => by go_simp⟩) h0 ?_
          try simp only [List.getElem_toArray, List.getElem_cons_zero, List.getElem_cons_succ, Act.put, List.setIfInBounds_toArray, List.set_cons_zero, List.set_cons_succ]
          refine wpAnyH_done (by kernel_rfl) ?_ _
          have K9 : Hid (Kept [] wr v0) := K7.out.trans h0 (by simp)
          clear h0
          go_wp2
          go_roundw
          case rel => exact ⟨k + 1, by omega, by go_num, HK.out.trans K9.out (by simp)⟩
          case measure => simp [intOf]; omega
      · have hwi := with_ok bo m c Z e wr HZ.out Zw.out (wao2 bo) Z2.out.2 hc1 hcm1 (by omega)
        rw [HS.out.againE, HS.out.againL] at hwi
        have rr := res_range Rw.out
        go_upto_region 20 with (first
          | refine wpList_load_mid rfl 36 (.tmp 3) rfl a 0 rfl e.cells _ rr Try.underlying36 rfl ie ?_
          | (go_at_call 12; refine hwi.mono ?_; intro r w5 ht; obtain ⟨bo3, c3, m3, rfl, hm1, hs1, hnl1, _, _, hk1⟩ := told_cap ht; obtain rfl : m3 = m := (hm1.symm.trans HZ.out); have H2 := hide (And.intro hs1 hk1); clear ht hm1 hs1 hnl1 hk1 hwi))
        have hlk := like_yes bo3 bo m3 c3 c Z w5 HZ.out (by omega) H2.out.1 (Zw.out.kept H2.out.2 (by simp))
        go_wp2_with (first
          | (go_at_call 15; refine hlk.mono ?_; rintro r w6 ⟨rfl, hk⟩; have K5 := hide hk; clear hk hlk)
          | (go_at_call 8; refine (awake_ok _).mono ?_; rintro r w7 ⟨rfl, hk⟩; have HD := hide hk; clear hk))
        go_ret
        exact ⟨rfl, (((Kw.out.trans H2.out.2 (by simp)).trans K5.out (by simp)).trans HD.out (by simp)).below (Nat.le_refl _) (by simp)⟩
  · have hz0 : Tb.withL L e = [] := by unfold Tb.withL; rw [if_neg hcv]
    rw [hz0] at hwi
    generalize Tb.withE L e = cv at hwi hcv
    have hcz : (cv != 0) = true := by simpa using hcv
    clear hz0 hcv
    go_enter Try.func4, Try.ntmps4
    go_wp2_with (first
      | refine wpList_load_mid rfl 36 (.tmp 3) rfl a 0 rfl e.cells _ rr Try.underlying36 rfl ie ?_
      | (go_at_call 12; refine hwi.mono ?_; intro r w2 ht; obtain ⟨bo, c, m, rfl, hm1, hs1, hnl1, hc1, hcm1, hk1⟩ := told_cap ht; obtain rfl : m = 0 := hm1.symm; have H2 := hide hk1; clear ht hm1 hs1 hnl1 hc1 hcm1 hk1 hwi)
      | (go_at_call 8; refine (awake_ok _).mono ?_; rintro r w7 ⟨rfl, hk⟩; have HD := hide hk; clear hk))
    go_ret
    exact ⟨rfl, ((HK0.out.trans H2.out (by simp)).trans HD.out (by simp)).below (Nat.le_refl _) (by simp)⟩
end Go.Proofs.Ytdeneflgldagpab
