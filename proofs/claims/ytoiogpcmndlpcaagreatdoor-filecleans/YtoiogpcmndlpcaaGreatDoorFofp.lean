/-
  disk.Load of files that a disk takes. (Written by tools/fof.py.)
-/
import Derived.Test.YtoiogpcmndlpcaaGreatDoorFoep
import Derived.Deep.RegionHeld
namespace Go.Proofs.YtoiogpcmndlpcaaGreatDoor
open Go.RowKit Dsk
set_option linter.unusedVariables false
set_option linter.unusedSimpArgs false

/-- A slice of no block has no places. -/
def Fiz (w : World) (ao : Option Addr) (L : List (By × By)) : Prop := ∀ i b bo m bc, i < L.length → ao = some ⟨b, 0, none⟩ → w.cell? ⟨b, i * 2 + 1, none⟩ = some (.slice bo m bc) → bo = none → m = 0 ∧ bc = 0
theorem getD_of {L : List (By × By)} {k : Nat} {f : By × By} (h : L[k]? = some f) : L.getD k ([], []) = f := by rw [List.getD_eq_getElem?_getD, h]; rfl
theorem Ldg.start {w w1 : World} (r : Int) (L : List (By × By)) (hk : Kept [] w w1) :
    Ldg w ((w1.alloc (.cells #[.int .i64 r, .bool true, .map none, .slice none 0 0, .map (some (w1.heap.size + 1)), .int .i64 0, .int .i64 0, .int .i64 0, .int .i64 0, .int .i64 0, .slice none 0 0] 94)).alloc (.map #[] 0)) w1.heap.size (w1.heap.size + 1) (ldc r (w1.heap.size + 1)) L 0 (fun _ => 0) (fun b => if b = w1.heap.size ∨ b = w1.heap.size + 1 then 1 else 0) := by
  have hs := hk.size
  refine ⟨(Below.heap_alloc _ _ _ (by simp)).trans (MapKept.heap_alloc w1 _).1, ?_, fun j hj => absurd hj (Nat.not_lt_zero _), by simp, by simp, fun b hb => ?_, (hk.alloc _).alloc _⟩
  · have := World.ownsMap_made (H := Unit) (w1.alloc (.cells #[.int .i64 r, .bool true, .map none, .slice none 0 0, .map (some (w1.heap.size + 1)), .int .i64 0, .int .i64 0, .int .i64 0, .int .i64 0, .int .i64 0, .slice none 0 0] 94)) Tryz.prog 9 ptrElem
    have e : (w1.alloc (.cells #[.int .i64 r, .bool true, .map none, .slice none 0 0, .map (some (w1.heap.size + 1)), .int .i64 0, .int .i64 0, .int .i64 0, .int .i64 0, .int .i64 0, .slice none 0 0] 94)).heap.size = w1.heap.size + 1 := by simp
    rw [e] at this
    exact this
  · by_cases h : b = w1.heap.size ∨ b = w1.heap.size + 1
    · exact ⟨by simp; omega, by omega⟩
    · simp [h] at hb

set_option maxHeartbeats 3200000 in
set_option maxRecDepth 100000 in
theorem load_fine (r : Int) (ao : Option Addr) (n c : Nat) (L : List (By × By)) (w : World) (hx : L.length = n) (hn : n ≤ 256) (hr : 1 ≤ r ∧ r ≤ 1048576) (hN : ∀ f ∈ L, isNm f.1 = true) (hd : (L.map (·.1)).Nodup) (hT : (totalOf L : Int) ≤ r) (hM : ∀ f ∈ L, f.2.length ≤ 1048576) (h1 : Fis w ao L) (hz : Fiz w ao L) :
    Calls Tryz.prog 56 #[.int .i64 r, .slice ao n c] w fun e w' => ∃ p A o, e = .returned (.tuple #[.pointer (some ⟨p, 0, none⟩), .int .i64 0]) ∧ PD w' p (Ds.load r.toNat L) A o ∧ (∀ b, o b ≠ 0 → w.heap.size ≤ b) ∧ Kept [] w w' := by
  have hmm := @run_makeMap Tryz.prog
  have hrf := refused_fine r ao n c L w hx hn hr hN hd hT h1
  have HX := hide hx
  have HR0 := hide hr
  have HN := hide hN
  have HM := hide hM
  have H1 := hide h1
  have HZ := hide hz
  clear hx hr hN hd hT hM h1 hz
  go_enter Tryz.func56, Tryz.ntmps56
  go_upto_region 6 with (go_at_call 97; refine hrf.mono ?_; rintro e w1 ⟨rfl, hk1⟩; have HS := hide (Ldg.start r L hk1); clear hrf hk1)
  generalize ((w1.alloc (.cells #[.int .i64 r, .bool true, .map none, .slice none 0 0, .map (some (w1.heap.size + 1)), .int .i64 0, .int .i64 0, .int .i64 0, .int .i64 0, .int .i64 0, .slice none 0 0] 94)).alloc (.map #[] 0)) = w2 at HS ⊢
  generalize w1.heap.size + 1 = mb at HS ⊢
  generalize w1.heap.size = p at HS ⊢
  go_wp2
  go_loopw [27] (fun i wr => ∃ k : Nat, k ≤ n ∧ i = .int .i64 k ∧ Hid (∃ A o, Ldg w wr p mb (ldc r mb) L k A o)) (fun i wr => n - (intOf i).toNat)
  case atStart => exact ⟨0, Nat.zero_le _, rfl, hide ⟨_, _, HS.out⟩⟩
  case round =>
    clear HS
    obtain ⟨k, hk, rfl, HR⟩ := hrel
    by_cases hlt : k < n
    · obtain ⟨b1, rfl, ⟨x, d⟩, hs, e1, bo1, bc1, e2, s1⟩ := H1.out k (by rw [HX.out]; exact hlt)
      have hz0 := HZ.out k b1 bo1 d.length bc1 (by rw [HX.out]; exact hlt) rfl e2
      obtain ⟨A, o, hR⟩ := HR.out
      replace e1 := hR.kept.cellOf e1 (by simp)
      replace e2 := hR.kept.cellOf e2 (by simp)
      dsimp only at e1 e2 s1
      have hdl : d.length ≤ 1048576 := HM.out _ (List.mem_of_getElem? hs)
      have hxl : x.length ≤ 112 := isNm_len (HN.out _ (List.mem_of_getElem? hs))
      have hA : Kept [] wr (wr.alloc (.cells #[encStr x, .slice bo1 d.length bc1] 42)) := (Kept.refl [] wr).alloc _
      have hcl := cloneB_ok bo1 d.length bc1 d (wr.alloc (.cells #[encStr x, .slice bo1 d.length bc1] 42)) rfl (s1.kept (hR.kept.trans hA (by simp)) (by simp)) hz0 (by omega)
      have hcx : (wr.alloc (.cells #[encStr x, .slice bo1 d.length bc1] 42)).cell? ⟨wr.heap.size, 0, none⟩ = some (encStr x) := by rw [cell_of_row _ _ _ _ _ _ (MapKept.heap_alloc wr _).1]; rfl
      have hcd : (wr.alloc (.cells #[encStr x, .slice bo1 d.length bc1] 42)).cell? ⟨wr.heap.size, 1, none⟩ = some (.slice bo1 d.length bc1) := by rw [cell_of_row _ _ _ _ _ _ (MapKept.heap_alloc wr _).1]; rfl
      have HRR := hide (show _ ∧ L[k]? = some (x, d) ∧ (wr.alloc (.cells #[encStr x, .slice bo1 d.length bc1] 42)).heap.size = wr.heap.size + 1 from ⟨hR, hs, by simp⟩)
      have HA := hide hA
      have HCX := hide hcx
      clear hR s1 hz0 HR hs hcx hA
      go_upto_region 9 with (fail)
      generalize (wr.alloc (.cells #[encStr x, .slice bo1 d.length bc1] 42)) = wA at HA hcl HCX HRR hcd ⊢
      clear e1 e2
      go_upto_region 10 with (go_at_call 64; refine hcl.mono ?_; rintro e w4 ⟨u, rfl, hu4, hk4, hn4⟩; obtain ⟨uo, uc, rfl, _⟩ := hu4.shape; have HU4 := hide hu4; have HK4 := hide hk4; have HN4 := hide hn4; clear hu4 hk4 hn4 hcl)
      clear hcd
      have hT0 : Th0 (w4.alloc (.cells #[.string ⟨#[]⟩, .slice none 0 0, .slice uo d.length uc] 105)) w4.heap.size (.slice none 0 0) (.slice uo d.length uc) ⟨[], [], d⟩ := ⟨(MapKept.heap_alloc w4 _).1, World.ownsRow_nil _ _ _ _, HU4.out.kept ((Kept.refl [] w4).alloc _)⟩
      have hsy := thingSync_ok w4.heap.size (.slice none 0 0) (.slice uo d.length uc) ⟨[], [], d⟩ (w4.alloc (.cells #[.string ⟨#[]⟩, .slice none 0 0, .slice uo d.length uc] 105)) hT0
      have hK5 : Kept [] w4 (w4.alloc (.cells #[.string ⟨#[]⟩, .slice none 0 0, .slice uo d.length uc] 105)) := (Kept.refl [] w4).alloc _
      have HK5 := hide hK5
      have hz5 : Hid ((w4.alloc (.cells #[.string ⟨#[]⟩, .slice none 0 0, .slice uo d.length uc] 105)).heap.size = w4.heap.size + 1) := hide (by simp)
      clear hT0 hK5
      generalize (w4.alloc (.cells #[.string ⟨#[]⟩, .slice none 0 0, .slice uo d.length uc] 105)) = w5 at hsy HK5 hz5 ⊢
      generalize htb : w4.heap.size = tb at hsy hz5 ⊢
      have HTB := hide htb
      clear htb
      go_upto_region 11 with (go_at_call 92; refine hsy.mono ?_; rintro e w6 ⟨rfl, hmv⟩; have HMV := hide hmv; clear hsy hmv)
      have HF : Hid (∃ w7, (Instr.mapUpdate 88 (.map (some mb)) (encStr x) (.pointer (some ⟨tb, 0, none⟩))).run Tryz.prog (World.drew w6) = .ok () w7 ∧ Kept [mb] (World.drew w6) w7 ∧ (∃ A o, Ldg w w7 p mb (ldc r mb) L (k + 1) A o) ∧ w6.cell? ⟨p, 4, none⟩ = some (.map (some mb)) ∧ w6.cell? ⟨wr.heap.size, 0, none⟩ = some (encStr x) ∧ p ≠ mb ∧ wr.heap.size ≠ mb) := hide (by
        obtain ⟨hR, hs, hsA⟩ := HRR.out
        obtain ⟨rv, sv, ht, hKt, hl1, hl2⟩ := HMV.out
        have q4 := HK4.out.size
        have q5 := hz5.out
        have qt := HTB.out
        have hmlt : mb < wr.heap.size := hR.map.lt
        have hpm : mb ≠ p := map_ne hR.map hR.cells (by simp)
        have k4 : Kept [] wr w4 := HA.out.trans HK4.out (by simp)
        have k5 : Kept [] wr w5 := k4.trans HK5.out (by simp)
        have hge : ∀ g, thF tb (.slice none 0 0) (.slice uo d.length uc) g → wr.heap.size < g := fun g hg => by
          rcases hg with rfl | h | h
          · omega
          · simp [Value.ownBlock] at h
          · have := HN4.out g h
            omega
        have k6 : Kept [] wr w6 := ⟨hKt.os.trans k5.os, hKt.tape.trans k5.tape, hKt.output.trans k5.output, Nat.le_trans k5.size hKt.size, fun i hi _ => (hKt.block i (Nat.lt_of_lt_of_le hi k5.size) (fun h => by have := hge i h; omega)).trans (k5.block i hi (by simp))⟩
        have k6d : Kept [] wr (World.drew w6) := k6.trans ((Kept.refl [] w6).drew) (by simp)
        have htd : Th0 (World.drew w6) tb rv sv (thL L k) := by
          have := ht.kept ((Kept.refl [] w6).drew)
          have e : thL L k = (⟨[], [], d⟩ : Th).sync := by unfold thL; rw [getD_of hs]; rfl
          rw [e]
          exact this
        have hMd : Mp (World.drew w6) mb (upd A k tb) (ldn L k) := (hR.map.keep (Keep.ofNone (F := fun _ => False) k6d) (fun h => h)).congr (fun j hj => by
          obtain ⟨q, hq, rfl⟩ := List.mem_map.1 hj
          exact upd_other _ _ (by have := (ldn_mem L k q hq).1; omega))
        obtain ⟨w7, hup, hM7, hK7⟩ := hMd.put x k (by unfold maxLen; omega) (by have := ldn_len L k; unfold maxLen; omega)
        rw [upd_same] at hup
        have hM7' : Mp w7 mb (upd A k tb) (ldn L (k + 1)) := by
          show Mp w7 mb (upd A k tb) ((ldn L k).put (L.getD k ([], [])).1 k)
          rw [getD_of hs]
          exact hM7
        have htbl : wr.heap.size ≤ tb := by have := HTB.out; omega
        have hst := hR.step k6d htd htbl (fun g hg => by
            rcases hl1 g hg with h | h
            · simp [Value.ownBlock] at h
            · omega) (fun g hg => by
            rcases hl2 g hg with h | h
            · have := HN4.out g h; omega
            · omega) hM7' hK7
        refine ⟨w7, hup, ⟨hK7.os, hK7.tape, hK7.output, hK7.size, fun i hi hni => hK7.block i hi (by simpa using hni)⟩, ⟨_, _, hst⟩, k6.cellOf (by rw [cell_of_row _ _ _ _ _ _ hR.cells]; rfl) (by simp), ?_, fun e => hpm e.symm, by omega⟩
        have c4 := HK4.out.cellOf HCX.out (by simp)
        have c5 := HK5.out.cellOf c4 (by simp)
        exact hKt.cellOf c5 (fun h => by have := hge _ h; simp at this))
      obtain ⟨w7, hup, hk7, hL7, cp, cx, hnp, hnl⟩ := HF.out
      have HQ := hide (show (∃ A o, Ldg w w7 p mb (ldc r mb) L (k + 1) A o) ∧ Kept [mb] (World.drew w6) w7 from ⟨hL7, hk7⟩)
      clear HF hk7 hL7 HMV HRR HCX HA HU4 HK4 HN4 HK5 hz5
      generalize wr.heap.size = lb at *
      refine wp_region_held_drew (S := fun w' => Kept [mb] w6 w') (by kernel_rfl) ((Kept.refl [mb] w6).drew) (fun h0 => ?_)
      generalize World.drew w6 = v0 at h0 hup HQ ⊢
      refine wpAnyH_take (i := 0) (v := .pointer (some ⟨p, 0, none⟩)) rfl (by kernel_rfl) (by kernel_rfl) (by kernel_rfl) (fun _ _ _ h => h) (Or.inl ⟨by rfl, fun w hSw => by go_simp⟩) h0 ?_
      try simp only [List.getElem_toArray, List.getElem_cons_zero, List.getElem_cons_succ, Act.put, List.setIfInBounds_toArray, List.set_cons_zero, List.set_cons_succ]
      refine wpAnyH_take (i := 1) (v := .pointer (some ⟨p, 0, none⟩)) rfl (by kernel_rfl) (by kernel_rfl) (by kernel_rfl) (fun _ _ _ h => h) (Or.inl ⟨by rfl, fun w hSw => by go_simp⟩) h0 ?_
      try simp only [List.getElem_toArray, List.getElem_cons_zero, List.getElem_cons_succ, Act.put, List.setIfInBounds_toArray, List.set_cons_zero, List.set_cons_succ]
      refine wpAnyH_take (i := 2) (v := .pointer (some ⟨p, 2, none⟩)) rfl (by kernel_rfl) (by kernel_rfl) (by kernel_rfl) (fun _ _ _ h => h) (Or.inl ⟨by rfl, fun w hSw => by go_simp⟩) h0 ?_
      try simp only [List.getElem_toArray, List.getElem_cons_zero, List.getElem_cons_succ, Act.put, List.setIfInBounds_toArray, List.set_cons_zero, List.set_cons_succ]
      refine wpAnyH_take (i := 3) (v := .pointer (some ⟨p, 4, none⟩)) rfl (by kernel_rfl) (by kernel_rfl) (by kernel_rfl) (fun _ _ _ h => h) (Or.inl ⟨by rfl, fun w hSw => by go_simp⟩) h0 ?_
      try simp only [List.getElem_toArray, List.getElem_cons_zero, List.getElem_cons_succ, Act.put, List.setIfInBounds_toArray, List.set_cons_zero, List.set_cons_succ]
      have hne := hnp
      refine wpAnyH_take (i := 4) (v := .map (some mb)) rfl (by kernel_rfl) (by kernel_rfl) (by kernel_rfl) (fun _ _ _ h => h) (Or.inl ⟨by rfl, fun w hSw => by have c := Kept.cellOf hSw cp (by simpa using hne); go_simp⟩) h0 ?_
      try simp only [List.getElem_toArray, List.getElem_cons_zero, List.getElem_cons_succ, Act.put, List.setIfInBounds_toArray, List.set_cons_zero, List.set_cons_succ]
      clear hne
      refine wpAnyH_take (i := 5) (v := .pointer (some ⟨lb, 0, none⟩)) rfl (by kernel_rfl) (by kernel_rfl) (by kernel_rfl) (fun _ _ _ h => h) (Or.inl ⟨by rfl, fun w hSw => by go_simp⟩) h0 ?_
      try simp only [List.getElem_toArray, List.getElem_cons_zero, List.getElem_cons_succ, Act.put, List.setIfInBounds_toArray, List.set_cons_zero, List.set_cons_succ]
      have hne := hnl
      refine wpAnyH_take (i := 6) (v := encStr x) rfl (by kernel_rfl) (by kernel_rfl) (by kernel_rfl) (fun _ _ _ h => h) (Or.inl ⟨by rfl, fun w hSw => by have c := Kept.cellOf hSw cx (by simpa using hne); go_simp⟩) h0 ?_
      try simp only [List.getElem_toArray, List.getElem_cons_zero, List.getElem_cons_succ, Act.put, List.setIfInBounds_toArray, List.set_cons_zero, List.set_cons_succ]
      clear hne
      refine wpAnyH_take (i := 7) (v := .pointer (some ⟨tb, 0, none⟩)) rfl (by kernel_rfl) (by kernel_rfl) (by kernel_rfl) (fun _ _ _ h => h) (Or.inl ⟨by rfl, fun w hSw => by go_simp⟩) h0 ?_
      try simp only [List.getElem_toArray, List.getElem_cons_zero, List.getElem_cons_succ, Act.put, List.setIfInBounds_toArray, List.set_cons_zero, List.set_cons_succ]
      refine wpAnyH_ready (rs := [8]) (by kernel_rfl) (by simp) (AllReadyH.cons (i := 8) rfl (fun K hK => ?_) AllReadyH.nil)
      rw [if_pos (by rfl)]
      go_simp
      refine hK.out _ _ (h0.trans HQ.out.2 (by simp)) (fun h1 => ?_)
      clear hK K
      try simp only [List.getElem_toArray, List.getElem_cons_zero, List.getElem_cons_succ, Act.put, List.setIfInBounds_toArray, List.set_cons_zero, List.set_cons_succ]
      refine wpAnyH_done (by kernel_rfl) ?_ _
      go_wp2
      go_roundw
      case rel => exact ⟨k + 1, by omega, by go_num, hide HQ.out.1⟩
      case measure => simp [intOf]; omega
    · have hkn : k = n := by omega
      subst hkn
      obtain ⟨A, o, hR⟩ := HR.out
      have hRn := hR
      rw [← HX.out] at hRn
      have hds := dirSync_ok p 2 mb 94 (ldc r mb) A (ldn L L.length) wr hRn.cells (by simp [ldc]) rfl hRn.map
      have HF : Hid (∀ w3, DirSynced wr w3 p 2 mb 94 (ldc r mb) A (ldn L L.length) → ∃ o', PD w3 p (Ds.load r.toNat L) A o' ∧ (∀ b, o' b ≠ 0 → w.heap.size ≤ b) ∧ Kept [] w w3) := hide (fun w3 h => hRn.done HR0.out HN.out h)
      clear hR hRn HR
      go_wp2_with (go_at_call 94; refine hds.mono ?_; rintro e w3 ⟨rfl, hS3⟩; have H3 := hide (HF.out w3 hS3); clear hS3 hds)
      go_ret2
      obtain ⟨o', q1, q2, q3⟩ := H3.out
      exact ⟨p, A, o', rfl, q1, q2, q3⟩
end Go.Proofs.YtoiogpcmndlpcaaGreatDoor
