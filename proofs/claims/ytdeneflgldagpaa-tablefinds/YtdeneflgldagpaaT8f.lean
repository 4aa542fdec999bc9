/-
  The walk: freightlaw8.TableFinds. (Written by tools/t8f.py.)
-/
import Derived.Test.YtdeneflgldagpaaT8h
namespace Go.Proofs.Ytdeneflgldagpaa
open Go.RowKit Go.Sort
set_option linter.unusedVariables false
set_option linter.unusedSimpArgs false

set_option maxHeartbeats 6400000 in
set_option maxRecDepth 100000 in
theorem finds_walk (ao : Option Addr) (n cap : Nat) (A : List UInt8) (L : List Res) (w : World) (hi : InR w ao n cap L) (hA : A.length = 32) :
    Calls Try.prog 5 #[.slice ao n cap, .agg (bys A).toArray] w fun e w' => e = .returned (.bool true) ∧ Below w.heap.size w w' := by
  obtain ⟨W0, hW0⟩ : ∃ W0, w.alloc (.cells (bys A).toArray 37) = W0 := ⟨_, rfl⟩
  have hk0 : Kept [] w W0 := by rw [← hW0]; exact (Kept.refl [] w).alloc _
  have hr0 : W0.heap[w.heap.size]? = some (.cells (bys A).toArray 37 (0, 0)) := by rw [← hW0]; exact heap_new w _
  have hn := hi.len
  have hcm := hi.max
  have hle := hi.le
  have hm : n * 72 ≤ 140737488351232 := by omega
  have HL := hide hi.ress
  have HNL : Hid (ao = none → cap = 0) := fun h => (hi.nil h).2
  have hroom := roomy_ok ao n cap L W0 hn (HL.out.kept hk0 (by simp)) hm
  have iA : (Try.prog.info? 37).map (·.size) = some (bys A).length := by rw [bys_length, hA]; kernel_rfl
  have HN := hide hn
  have HK0 := hide hk0
  have HR0 := hide hr0
  have HLA := hide hA
  have hz := Try.zeroRes
  have hsm : n ≤ 4611686018427387800 := by omega
  clear hi hn hk0 hr0 hA hcm hle
  go_enter Try.func5, Try.ntmps5
  go_upto_region 2 with (go_at_call 9; refine hroom.mono ?_; rintro r w1 ⟨g, rfl, hg, hR, hT, hk⟩; have H1 := hide (And.intro hg (And.intro hR (And.intro hT hk))); clear hg hR hT hk hroom)
  clear hW0
  have F1 : Hid (Fi w w1 g n L) := Fi.mk' HN.out H1.out.2.1 H1.out.2.2.1 (HK0.out.trans H1.out.2.2.2 (by simp)) (Nat.le_trans HK0.out.size H1.out.1)
  have R1 : Hid (w1.heap[w.heap.size]? = some (.cells (bys A).toArray 37 (0, 0)) ∧ w.heap.size ≠ g) := ⟨H1.out.2.2.2.heapOf HR0.out (by simp), fun e => by have := lt_row HR0.out; have := H1.out.1; omega⟩
  obtain ⟨a, ha⟩ : ∃ a, w.heap.size = a := ⟨_, rfl⟩
  rw [ha] at R1 ⊢
  have HA := hide ha
  clear ha H1 HK0 HR0
  obtain ⟨x, hx⟩ : ∃ x, (Tb.find L A).getD res0 = x := ⟨_, rfl⟩
  obtain ⟨bx, hbx⟩ : ∃ b, (Tb.find L A).isSome = b := ⟨_, rfl⟩
  have ix : (Try.prog.info? 39).map (·.size) = some x.cells.toArray.size := by rw [res_size]; exact Try.infoResS
  have i1 : (Try.prog.info? 39).map (·.size) = some x.cells.length := by rw [x.len]; exact Try.infoResS
  have hf := find_ok (some ⟨g, 0, none⟩) n (n + 3) L A w1 HN.out F1.out.list (.inr ⟨_, _, rfl⟩) HLA.out (by omega)
  rw [hx, hbx] at hf
  have HX := hide (And.intro hx hbx)
  clear hx hbx
  have rr := id_range R1.out.1
  go_upto_region 3 with (first
    | refine wpList_load_mid rfl 37 (.tmp 3) rfl a 0 rfl (bys A) _ rr Try.underlying37 rfl iA ?_
    | (go_at_call 21; refine hf.mono ?_; rintro r w2 ⟨rfl, hk⟩; have HC := hide hk; clear hk hf)
    | refine wpList_store_rowTo rfl 39 (.tmp 7) (.tmp 26) rfl rfl w2.heap.size x.cells.toArray rfl rfl 39 zeroR (new_zero w2) ix (zero_size x) (res_all x) ?_)
  have eW : (w2.alloc (.cells zeroR 39)).setRow w2.heap.size x.cells.toArray = withRes w2 x := rfl
  rw [eW]
  have F2 : Hid (Fi w (withRes w2 x) g n L) := (F1.out.more HC.out (by simp) (by simp)).more (withRes_kept w2 x) (by simp) (by simp)
  have R2 : Hid ((withRes w2 x).heap[a]? = some (.cells (bys A).toArray 37 (0, 0)) ∧ a ≠ g) := ⟨(withRes_kept w2 x).heapOf (HC.out.heapOf R1.out.1 (by simp)) (by simp), R1.out.2⟩
  have T2 : Hid ((withRes w2 x).heap[w2.heap.size]? = some (.cells x.cells.toArray 39 (0, 0)) ∧ w2.heap.size ≠ a ∧ w2.heap.size ≠ g ∧ w.heap.size ≤ w2.heap.size) := ⟨withRes_row w2 x, fun e => by have := lt_row (HC.out.heapOf R1.out.1 (by simp)); omega, fun e => by have := (F1.out.more HC.out (by simp) (by simp)).lt; omega, (F1.out.more HC.out (by simp) (by simp)).kept.size⟩
  clear eW rr HC F1 R1
  obtain ⟨t, ht⟩ : ∃ t, w2.heap.size = t := ⟨_, rfl⟩
  rw [ht] at T2 ⊢
  clear ht
  generalize withRes w2 x = w3 at F2 R2 T2 ⊢
  clear w1 w2
  have hf := reffind_ok ao n cap L A w3 HN.out (HL.out.kept F2.out.kept (by simp)) HLA.out (by omega)
  rw [HX.out.1, HX.out.2] at hf
  have rr := id_range R2.out.1
  go_upto_region 4 with (first
    | refine wpList_load_mid rfl 37 (.tmp 3) rfl a 0 rfl (bys A) _ rr Try.underlying37 rfl iA ?_
    | (go_at_call 22; refine hf.mono ?_; rintro r w4 ⟨rfl, hk⟩; have HC := hide hk; clear hk hf)
    | refine wpList_store_rowTo rfl 39 (.tmp 9) (.tmp 32) rfl rfl w4.heap.size x.cells.toArray rfl rfl 39 zeroR (new_zero w4) ix (zero_size x) (res_all x) ?_)
  have eW : (w4.alloc (.cells zeroR 39)).setRow w4.heap.size x.cells.toArray = withRes w4 x := rfl
  rw [eW]
  have F3 : Hid (Fi w (withRes w4 x) g n L) := (F2.out.more HC.out (by simp) (by simp)).more (withRes_kept w4 x) (by simp) (by simp)
  have R3 : Hid ((withRes w4 x).heap[a]? = some (.cells (bys A).toArray 37 (0, 0)) ∧ a ≠ g) := ⟨(withRes_kept w4 x).heapOf (HC.out.heapOf R2.out.1 (by simp)) (by simp), R2.out.2⟩
  have T3 : Hid ((withRes w4 x).heap[t]? = some (.cells x.cells.toArray 39 (0, 0)) ∧ t ≠ a ∧ t ≠ g ∧ w.heap.size ≤ t) := ⟨(withRes_kept w4 x).heapOf (HC.out.heapOf T2.out.1 (by simp)) (by simp), T2.out.2⟩
  have U3 : Hid ((withRes w4 x).heap[w4.heap.size]? = some (.cells x.cells.toArray 39 (0, 0)) ∧ w4.heap.size ≠ a ∧ w4.heap.size ≠ g ∧ w4.heap.size ≠ t ∧ w.heap.size ≤ w4.heap.size) := ⟨withRes_row w4 x, fun e => by have := lt_row (HC.out.heapOf R2.out.1 (by simp)); omega, fun e => by have := (F2.out.more HC.out (by simp) (by simp)).lt; omega, fun e => by have := lt_row (HC.out.heapOf T2.out.1 (by simp)); omega, (F2.out.more HC.out (by simp) (by simp)).kept.size⟩
  clear eW rr HC F2 R2 T2
  obtain ⟨u, hu⟩ : ∃ u, w4.heap.size = u := ⟨_, rfl⟩
  rw [hu] at U3 ⊢
  clear hu
  generalize withRes w4 x = w5 at F3 R3 T3 U3 ⊢
  clear w3 w4
  have heq : ∀ (y : Res) W, (Op.equalIn 10000 39 (.agg y.cells.toArray) (.agg y.cells.toArray)).run Try.prog W = .ok true W := fun y W => by rw [Try.eqlRes]; simp
  go_wp2_with (fail)
  go_loopw [11] (fun y wr => ∃ k : Nat, k ≤ n ∧ y = .int .i64 k ∧ Hid (Kept [] w5 wr)) (fun y wr => n - (intOf y).toNat)
  case atStart => exact ⟨0, Nat.zero_le _, rfl, Kept.refl _ _⟩
  case round =>
    obtain ⟨k, hk, rfl, HK⟩ := hrel
    have F4 : Hid (Fi w wr g n L) := F3.out.more HK.out (by simp) (by simp)
    by_cases hlt : k < n
    · obtain ⟨b, off, rfl, hrk⟩ := (HL.out.kept F4.out.kept (by simp)) k (by rw [HN.out]; exact hlt)
      have hs := Tb.find_self (L := L) (k := k) (by rw [HN.out]; exact hlt)
      obtain ⟨e, he⟩ : ∃ e, L.getD k res0 = e := ⟨_, rfl⟩
      rw [he] at hrk hs
      obtain ⟨B, hB⟩ : ∃ B, e.action = B := ⟨_, rfl⟩
      have hBl : B.length = 32 := by rw [← hB]; exact e.ha
      have iB : (Try.prog.info? 37).map (·.size) = some (bys B).length := by rw [bys_length, hBl]; kernel_rfl
      have rr : wr.rangeAt b (off + k * 65) (bys B) := fun j v hv => hrk j v (by unfold Res.cells; rw [hB, List.getElem?_append_left (List.getElem?_eq_some_iff.1 hv).1]; exact hv)
      rw [hB] at hs
      obtain ⟨y, hy⟩ : ∃ y, (Tb.find L B).getD res0 = y := ⟨_, rfl⟩
      have iy : (Try.prog.info? 39).map (·.size) = some y.cells.toArray.size := by rw [res_size]; exact Try.infoResS
      have iy1 : (Try.prog.info? 39).map (·.size) = some y.cells.length := by rw [y.len]; exact Try.infoResS
      have hf := find_ok (some ⟨g, 0, none⟩) n (n + 3) L B wr HN.out F4.out.list (.inr ⟨_, _, rfl⟩) hBl (by omega)
      rw [hs, hy] at hf
      have HB := hide (And.intro hBl (And.intro hs hy))
      have HRR := hide rr
      clear hrk he hB hBl hs hy
      go_upto_region 8 with (first
        | refine wpList_load_mid rfl 37 (.tmp 45) rfl b (off + k * 65) rfl (bys B) _ rr Try.underlying37 rfl iB ?_
        | (go_at_call 21; refine hf.mono ?_; rintro r w6 ⟨rfl, hk6⟩; have HC := hide hk6; clear hk6 hf)
        | refine wpList_store_rowTo rfl 39 (.tmp 12) (.tmp 48) rfl rfl w6.heap.size y.cells.toArray rfl rfl 39 zeroR (new_zero w6) iy (zero_size y) (res_all y) ?_)
      have eW : (w6.alloc (.cells zeroR 39)).setRow w6.heap.size y.cells.toArray = withRes w6 y := rfl
      rw [eW]
      have HC2 : Hid (Kept [] wr (withRes w6 y)) := HC.out.trans (withRes_kept w6 y) (by simp)
      have V2 := hide (withRes_row w6 y)
      obtain ⟨v, hv⟩ : ∃ v, w6.heap.size = v := ⟨_, rfl⟩
      rw [hv] at V2 ⊢
      clear hv eW HC rr
      generalize withRes w6 y = w7 at HC2 V2 ⊢
      clear w6
      have rr : w7.rangeAt b (off + k * 65) (bys B) := fun j v hv => HC2.out.cellOf (HRR.out j v hv) (by simp)
      have hf := reffind_ok (some ⟨b, off, none⟩) n cap L B w7 HN.out (HL.out.kept (F4.out.kept.trans HC2.out (by simp)) (by simp)) HB.out.1 (by omega)
      rw [HB.out.2.1, HB.out.2.2] at hf
      go_upto_region 9 with (first
        | refine wpList_load_mid rfl 37 (.tmp 55) rfl b (off + k * 65) rfl (bys B) _ rr Try.underlying37 rfl iB ?_
        | (go_at_call 22; refine hf.mono ?_; rintro r w8 ⟨rfl, hk8⟩; have HC := hide hk8; clear hk8 hf)
        | refine wpList_store_rowTo rfl 39 (.tmp 14) (.tmp 58) rfl rfl w8.heap.size y.cells.toArray rfl rfl 39 zeroR (new_zero w8) iy (zero_size y) (res_all y) ?_)
      have eW : (w8.alloc (.cells zeroR 39)).setRow w8.heap.size y.cells.toArray = withRes w8 y := rfl
      rw [eW]
      have HC3 : Hid (Kept [] wr (withRes w8 y)) := (HC2.out.trans HC.out (by simp)).trans (withRes_kept w8 y) (by simp)
      have V3 := hide (res_range ((withRes_kept w8 y).heapOf (HC.out.heapOf V2.out (by simp)) (by simp)))
      have Y3 := hide (res_range (withRes_row w8 y))
      obtain ⟨q, hq⟩ : ∃ q, w8.heap.size = q := ⟨_, rfl⟩
      rw [hq] at Y3 ⊢
      clear hq eW HC rr V2 HC2
      generalize withRes w8 y = w9 at HC3 V3 Y3 ⊢
      clear w7 w8
      have r1 := V3.out
      have r2 := Y3.out
      have heqy := heq y
      clear heq
      go_wp2_with (first
        | refine wpList_load_guard (by rfl) 39 (.tmp 12) rfl v 0 rfl y.cells _ r1 Try.underlying39 rfl iy1 ?_
        | refine wpList_load_guard (by rfl) 39 (.tmp 14) rfl q 0 rfl y.cells _ r2 Try.underlying39 rfl iy1 ?_)
      go_roundw
      case rel => exact ⟨k + 1, by omega, by go_num, HK.out.trans HC3.out (by simp)⟩
      case measure => simp [intOf]; omega
    · clear hk
      have r1 := hide (HK.out.heapOf T3.out.1 (by simp))
      have r2 := hide (HK.out.heapOf U3.out.1 (by simp))
      have T4 : Hid (wr.heap[t]? = some (.cells x.cells.toArray 39 (0, 0)) ∧ t ≠ a ∧ t ≠ g ∧ w.heap.size ≤ t) := ⟨r1.out, T3.out.2⟩
      have U4 : Hid (wr.heap[u]? = some (.cells x.cells.toArray 39 (0, 0)) ∧ u ≠ a ∧ u ≠ g ∧ u ≠ t ∧ w.heap.size ≤ u) := ⟨r2.out, U3.out.2⟩
      have R4 : Hid (wr.heap[a]? = some (.cells (bys A).toArray 37 (0, 0)) ∧ a ≠ g) := ⟨HK.out.heapOf R3.out.1 (by simp), R3.out.2⟩
      clear HK F3 R3 T3 U3 r1 r2
      have r1 := res_range T4.out.1
      have r2 := res_range U4.out.1
      have heqx := heq x
      have hbb := bne_self bx
      have hkp := kept_ok g n cap ao L wr HN.out F4.out.room (HL.out.kept F4.out.kept (by simp)) hsm
      go_upto_region 13 with (first
        | refine wpList_load_guard (by rfl) 39 (.tmp 7) rfl t 0 rfl x.cells _ r1 Try.underlying39 rfl i1 ?_
        | refine wpList_load_guard (by rfl) 39 (.tmp 9) rfl u 0 rfl x.cells _ r2 Try.underlying39 rfl i1 ?_
        | (go_at_call 15; refine hkp.mono ?_; rintro r w6 ⟨rfl, hk6⟩; have HC := hide hk6; clear hk6 hkp r1 r2))
      clear heqx hbb
      have F5 : Hid (Fi w w6 g n L) := F4.out.more HC.out (by simp) (by simp)
      have T5 : Hid (w6.heap[t]? = some (.cells x.cells.toArray 39 (0, 0)) ∧ t ≠ a ∧ t ≠ g ∧ w.heap.size ≤ t) := ⟨HC.out.heapOf T4.out.1 (by simp), T4.out.2⟩
      have U5 : Hid (w6.heap[u]? = some (.cells x.cells.toArray 39 (0, 0)) ∧ u ≠ a ∧ u ≠ g ∧ u ≠ t ∧ w.heap.size ≤ u) := ⟨HC.out.heapOf U4.out.1 (by simp), U4.out.2⟩
      have R5 : Hid (w6.heap[a]? = some (.cells (bys A).toArray 37 (0, 0)) ∧ a ≠ g) := ⟨HC.out.heapOf R4.out.1 (by simp), R4.out.2⟩
      clear HC F4 T4 U4 R4
      have hot := other_any ao n cap L w6 HN.out (HL.out.kept F5.out.kept (by simp)) HNL.out hm
      go_upto_region 14 with (go_at_call 16; refine hot.mono ?_; rintro r w7 ⟨bo, c, rfl, hR, hne, hk7⟩; have H7 := hide (And.intro hR (And.intro hne hk7)); clear hot hR hne hk7)
      obtain ⟨w8, hcp, hr8, ht8, hk8⟩ := run_copyR w7 g n (n + 3) c 3 bo L (Tb.twin L) marks HN.out (by rw [Tb.twin_len]; exact HN.out) (F5.out.more H7.out.2.2 (by simp) (by simp)).room (F5.out.more H7.out.2.2 (by simp) (by simp)).there H7.out.1
      have k78 : Kept [g] w6 w8 := (H7.out.2.2.mono (l2 := [g]) (by simp)).trans hk8 (by simp)
      have F8 : Hid (Fi w w8 g n (Tb.twin L)) := Fi.mk' (by rw [Tb.twin_len]; exact HN.out) hr8 ht8 (F5.out.kept.trans k78 (fun i hi hlt => by simp at hi; subst hi; have := F5.out.new; omega)) F5.out.new
      have T8 : Hid (w8.heap[t]? = some (.cells x.cells.toArray 39 (0, 0)) ∧ t ≠ a ∧ t ≠ g ∧ w.heap.size ≤ t) := ⟨k78.heapOf T5.out.1 (by simpa using T5.out.2.2.1), T5.out.2⟩
      have U8 : Hid (w8.heap[u]? = some (.cells x.cells.toArray 39 (0, 0)) ∧ u ≠ a ∧ u ≠ g ∧ u ≠ t ∧ w.heap.size ≤ u) := ⟨k78.heapOf U5.out.1 (by simpa using U5.out.2.2.1), U5.out.2⟩
      have R8 : Hid (w8.heap[a]? = some (.cells (bys A).toArray 37 (0, 0)) ∧ a ≠ g) := ⟨k78.heapOf R5.out.1 (by simpa using R5.out.2), R5.out.2⟩
      have B8 : Hid (Ress w8 bo (Tb.twin L) ∧ (∀ z, bo = some z → L ≠ [] → u < z.block ∧ t < z.block)) := ⟨H7.out.1.kept hk8 (fun hne z hz => by
          have hL : L ≠ [] := fun h => hne (by rw [h]; rfl)
          have := H7.out.2.1 z hz hL
          have := F5.out.lt
          simp; omega), fun z hz hL => by
          have := H7.out.2.1 z hz hL
          have := lt_row U5.out.1
          have := lt_row T5.out.1
          omega⟩
      clear hr8 ht8 hk8 k78
      go_upto_region 15 with (fail)
      clear hcp H7 F5 T5 U5 R5
      clear w6 w7
      have twl : Hid ((Tb.twin L).length = n) := by show _ = _; rw [Tb.twin_len]; exact HN.out
      have twn : Hid (Tb.twin L ≠ [] → L ≠ []) := fun hne h => hne (by rw [h]; rfl)
      generalize Tb.twin L = M at F8 B8 twl twn ⊢
      obtain ⟨y, hy⟩ : ∃ y, (Tb.find M A).getD res0 = y := ⟨_, rfl⟩
      obtain ⟨by', hby⟩ : ∃ b, (Tb.find M A).isSome = b := ⟨_, rfl⟩
      have iy : (Try.prog.info? 39).map (·.size) = some y.cells.toArray.size := by rw [res_size]; exact Try.infoResS
      have iy1 : (Try.prog.info? 39).map (·.size) = some y.cells.length := by rw [y.len]; exact Try.infoResS
      have szxy : x.cells.toArray.size = y.cells.toArray.size := by rw [res_size, res_size]
      have hf := find_ok (some ⟨g, 0, none⟩) n (n + 3) M A w8 twl.out F8.out.list (.inr ⟨_, _, rfl⟩) HLA.out (by omega)
      rw [hy, hby] at hf
      have HY := hide (And.intro hy hby)
      clear hy hby
      have rr := id_range R8.out.1
      go_upto_region 16 with (first
        | refine wpList_load_mid rfl 37 (.tmp 3) rfl a 0 rfl (bys A) _ rr Try.underlying37 rfl iA ?_
        | (go_at_call 21; refine hf.mono ?_; rintro r w9 ⟨rfl, hk9⟩; have HC := hide hk9; clear hk9 hf; have hrow := HC.out.heapOf T8.out.1 (by simp))
        | refine wpList_store_rowTo rfl 39 (.tmp 7) (.tmp 90) rfl rfl t y.cells.toArray rfl rfl 39 x.cells.toArray hrow iy szxy (res_all y) ?_)
      have kk : Kept [t] w8 (w9.setRow t y.cells.toArray) := (HC.out.mono (l2 := [t]) (by simp)).trans (kept_row w9 t y.cells.toArray) (by simp)
      have F9 : Hid (Fi w (w9.setRow t y.cells.toArray) g n M) := F8.out.more kk (by have := T8.out.2.2.1; simp; omega) (by have := T8.out.2.2.2; simp; omega)
      have T9 : Hid ((w9.setRow t y.cells.toArray).heap[t]? = some (.cells y.cells.toArray 39 (0, 0))) := setRow_heap _ _ _ _ _ _ hrow
      have U9 : Hid ((w9.setRow t y.cells.toArray).heap[u]? = some (.cells x.cells.toArray 39 (0, 0))) := kk.heapOf U8.out.1 (by simpa using U8.out.2.2.2.1)
      have R9 : Hid ((w9.setRow t y.cells.toArray).heap[a]? = some (.cells (bys A).toArray 37 (0, 0))) := kk.heapOf R8.out.1 (by have := T8.out.2.1; simp; omega)
      have B9 : Hid (Ress (w9.setRow t y.cells.toArray) bo M) := B8.out.1.kept kk (fun hne z hz => by have := (B8.out.2 z hz (twn.out hne)).2; simp; omega)
      clear kk hrow HC F8 T8 R8 rr
      generalize w9.setRow t y.cells.toArray = w10 at F9 T9 U9 R9 B9 ⊢
      clear w9
      have hf := reffind_ok bo n c M A w10 twl.out B9.out HLA.out (by omega)
      rw [HY.out.1, HY.out.2] at hf
      have rr := id_range R9.out
      go_upto_region 17 with (first
        | refine wpList_load_mid rfl 37 (.tmp 3) rfl a 0 rfl (bys A) _ rr Try.underlying37 rfl iA ?_
        | (go_at_call 22; refine hf.mono ?_; rintro r w11 ⟨rfl, hk11⟩; have HC := hide hk11; clear hk11 hf; have hrow := HC.out.heapOf U9.out (by simp))
        | refine wpList_store_rowTo rfl 39 (.tmp 9) (.tmp 96) rfl rfl u y.cells.toArray rfl rfl 39 x.cells.toArray hrow iy szxy (res_all y) ?_)
      have kk : Kept [u] w10 (w11.setRow u y.cells.toArray) := (HC.out.mono (l2 := [u]) (by simp)).trans (kept_row w11 u y.cells.toArray) (by simp)
      have F11 : Hid (Fi w (w11.setRow u y.cells.toArray) g n M) := F9.out.more kk (by have := U8.out.2.2.1; simp; omega) (by have := U8.out.2.2.2.2; simp; omega)
      have U11 := hide (res_range (setRow_heap _ _ _ y.cells.toArray _ _ hrow))
      have T11 := hide (res_range (kk.heapOf T9.out (by have := U8.out.2.2.2.1; simp; omega)))
      have B11 : Hid (Ress (w11.setRow u y.cells.toArray) bo M) := B9.out.kept kk (fun hne z hz => by have := (B8.out.2 z hz (twn.out hne)).1; simp; omega)
      clear kk hrow HC F9 T9 U9 R9 B9 rr U8 B8
      generalize w11.setRow u y.cells.toArray = w12 at F11 T11 U11 B11 ⊢
      clear w11 w10 w8
      have r1 := T11.out
      have r2 := U11.out
      have heqy := heq y
      clear heq
      have hbb : (by' == by') = true := by simp
      have hkp := kept_ok g n c bo M w12 twl.out F11.out.room B11.out hsm
      go_wp2_with (first
        | refine wpList_load_guard (by rfl) 39 (.tmp 7) rfl t 0 rfl y.cells _ r1 Try.underlying39 rfl iy1 ?_
        | refine wpList_load_guard (by rfl) 39 (.tmp 9) rfl u 0 rfl y.cells _ r2 Try.underlying39 rfl iy1 ?_
        | (go_at_call 15; refine hkp.mono ?_; rintro r w13 ⟨rfl, hk13⟩; have HC := hide hk13; clear hk13 hkp r1 r2)
        | (go_at_call 17; refine (awake_ok _).mono ?_; rintro r w14 ⟨rfl, hk14⟩; have HD := hide hk14; clear hk14))
      go_ret
      exact ⟨rfl, ((F11.out.kept.trans HC.out (by simp)).trans HD.out (by simp)).below (Nat.le_refl _) (by simp)⟩
end Go.Proofs.Ytdeneflgldagpaa
