/-
  The walk: freightlaw8.TableWiths.
-/
import Derived.Test.YtdeneflgldagpaaT8h
import Derived.Test.YtdeneflgldagpaaT8w
namespace Go.Proofs.Ytdeneflgldagpaa
open Go.RowKit Go.Sort
set_option linter.unusedVariables false
set_option linter.unusedSimpArgs false

/-- What With tells, opened. -/
theorem told_openR {w w' : World} {r : Ending} {e : Int} {L : List Res} (h : ToldR w w' r e L) : ∃ bo c m, r = .returned (.tuple #[.slice bo m c, .int .i64 e]) ∧ L.length = m ∧ Ress w' bo L ∧ (∀ a, bo = some a → w.heap.size ≤ a.block) ∧ Kept [] w w' := by
  obtain ⟨⟨v, rfl, ho⟩, hk⟩ := h
  obtain ⟨bo, c, rfl, _, hR, hao, _⟩ := ho.ress
  exact ⟨bo, c, L.length, rfl, rfl, hR, fun a ha => by obtain ⟨g, rfl, hb, _⟩ := hao a ha; exact hb, hk⟩
theorem Tb.withL_len (L : List Res) (e : Res) : (Tb.withL L e).length ≤ L.length + 1 := by
  unfold Tb.withL Tb.withR Tb.step
  have := Tb.rank_le L e.action
  split
  · simp only [List.length_append, List.length_cons, List.length_take, List.length_drop]; omega
  · simp

set_option maxHeartbeats 6400000 in
set_option maxRecDepth 100000 in
theorem withs_walk (ao : Option Addr) (n cap : Nat) (e : Res) (L : List Res) (w : World) (hi : InR w ao n cap L) :
    Calls Try.prog 6 #[.slice ao n cap, .agg e.cells.toArray] w fun e w' => e = .returned (.bool true) ∧ Below w.heap.size w w' := by
  obtain ⟨W0, hW0⟩ : ∃ W0, w.alloc (.cells e.cells.toArray 39) = W0 := ⟨_, rfl⟩
  have hk0 : Kept [] w W0 := by rw [← hW0]; exact (Kept.refl [] w).alloc _
  have hr0 : W0.heap[w.heap.size]? = some (.cells e.cells.toArray 39 (0, 0)) := by rw [← hW0]; exact heap_new w _
  have hcm := hi.max
  have hle := hi.le
  have hm : n * 72 ≤ 140737488351232 := by omega
  have hsm : n ≤ 4611686018427387800 := by omega
  have hn3 : n + 3 ≤ 9223372036854775807 := by omega
  have HL := hide hi.ress
  have HNL : Hid (ao = none → cap = 0) := fun h => (hi.nil h).2
  have HN := hide hi.len
  have hroom := roomy_ok ao n cap L W0 hi.len (hi.ress.kept hk0 (by simp)) hm
  have ie : (Try.prog.info? 39).map (·.size) = some e.cells.length := by rw [e.len]; exact Try.infoResS
  have HK0 := hide hk0
  have HR0 := hide hr0
  clear hi hcm hle hk0 hr0
  go_enter Try.func6, Try.ntmps6
  go_upto_region 2 with (go_at_call 9; refine hroom.mono ?_; rintro r w1 ⟨g, rfl, hg, hR, hT, hk⟩; have H1 := hide (And.intro hg (And.intro hR (And.intro hT hk))); clear hg hR hT hk hroom)
  clear hW0
  have F1 : Hid (Fi w w1 g n L) := Fi.mk' HN.out H1.out.2.1 H1.out.2.2.1 (HK0.out.trans H1.out.2.2.2 (by simp)) (Nat.le_trans HK0.out.size H1.out.1)
  have R1 : Hid (w1.heap[w.heap.size]? = some (.cells e.cells.toArray 39 (0, 0)) ∧ w.heap.size ≠ g) := ⟨H1.out.2.2.2.heapOf HR0.out (by simp), fun e => by have := lt_row HR0.out; have := H1.out.1; omega⟩
  obtain ⟨a, ha⟩ : ∃ a, w.heap.size = a := ⟨_, rfl⟩
  rw [ha] at R1 ⊢
  clear ha H1 HK0 HR0
  obtain ⟨E, hE⟩ : ∃ E, Tb.withL L e = E := ⟨_, rfl⟩
  have HEL : Hid (E.length ≤ 4611686018427387904) := by show _ ≤ _; rw [← hE]; have := Tb.withL_len L e; rw [HN.out] at this; omega
  have HE := hide hE
  obtain ⟨cv, hcv⟩ : ∃ cv, Tb.withE L e = cv := ⟨_, rfl⟩
  have HCV := hide hcv
  clear hE hcv
  have hen := with_ok (some ⟨g, 0, none⟩) n (n + 3) L e w1 HN.out F1.out.list (.inr ⟨_, _, rfl⟩) (by simp) (by omega) hn3 (by omega)
  rw [HCV.out, HE.out] at hen
  have rr := res_range R1.out.1
  go_upto_region 3 with (first
    | refine wpList_load_mid rfl 39 (.tmp 3) rfl a 0 rfl e.cells _ rr Try.underlying39 rfl ie ?_
    | (go_at_call 23; refine hen.mono ?_; intro r w2 ht; obtain ⟨bo1, c1, m, rfl, hm1, hs1, hb1, hk1⟩ := told_openR ht; have H2 := hide (And.intro hm1 (And.intro hs1 (And.intro hb1 hk1))); clear ht hm1 hs1 hb1 hk1 hen))
  have F2 : Hid (Fi w w2 g n L) := F1.out.more H2.out.2.2.2 (by simp) (by simp)
  have R2 : Hid (w2.heap[a]? = some (.cells e.cells.toArray 39 (0, 0)) ∧ a ≠ g) := ⟨H2.out.2.2.2.heapOf R1.out.1 (by simp), R1.out.2⟩
  have G1 : Hid (∀ a, bo1 = some a → a.block ≠ g) := fun a ha e => by have := H2.out.2.2.1 a ha; have := F1.out.lt; omega
  have S1 : Hid (Ress w2 bo1 E) := H2.out.2.1
  have HM : Hid (E.length = m) := H2.out.1
  have hmm : m ≤ 4611686018427387904 := by have := HM.out; have := HEL.out; omega
  clear H2 F1 R1 rr
  have hen := refwith_ok ao n cap L e w2 HN.out (HL.out.kept F2.out.kept (by simp)) (by omega)
  rw [HCV.out, HE.out] at hen
  have rr := res_range R2.out.1
  go_upto_region 4 with (first
    | refine wpList_load_mid rfl 39 (.tmp 3) rfl a 0 rfl e.cells _ rr Try.underlying39 rfl ie ?_
    | (go_at_call 24; refine hen.mono ?_; intro r w3 ht; obtain ⟨bo2, c2, m2, rfl, hm2, hs2, hb2, hk2⟩ := told_openR ht; obtain rfl : m2 = m := (hm2.symm.trans HM.out); have H3 := hide (And.intro hs2 (And.intro hb2 hk2)); clear ht hm2 hs2 hb2 hk2 hen))
  have F3 : Hid (Fi w w3 g n L) := F2.out.more H3.out.2.2 (by simp) (by simp)
  have R3 : Hid (w3.heap[a]? = some (.cells e.cells.toArray 39 (0, 0)) ∧ a ≠ g) := ⟨H3.out.2.2.heapOf R2.out.1 (by simp), R2.out.2⟩
  have G2 : Hid (∀ a, bo2 = some a → a.block ≠ g) := fun a ha e => by have := H3.out.2.1 a ha; have := F2.out.lt; omega
  have S3 : Hid (Ress w3 bo1 E ∧ Ress w3 bo2 E) := ⟨S1.out.kept H3.out.2.2 (by simp), H3.out.1⟩
  clear H3 F2 S1 R2 rr
  clear w1 w2
  have hcc : (cv != cv) = false := by simp
  have hsa := like_yes bo1 bo2 m2 c1 c2 E w3 HM.out hmm S3.out.1 S3.out.2
  go_upto_region 6 with (first
    | (go_at_call 20; refine hsa.mono ?_; rintro r w4 ⟨rfl, hk4⟩; have K4 := hide hk4; clear hk4 hsa; have hkp := kept_ok g n cap ao L w4 HN.out (F3.out.more K4.out (by simp) (by simp)).room (HL.out.kept (F3.out.kept.trans K4.out (by simp)) (by simp)) hsm)
    | (go_at_call 15; refine hkp.mono ?_; rintro r w7 ⟨rfl, hk7⟩; have K7 := hide (K4.out.trans hk7 (by simp)); clear hk7 hkp))
  have F7 : Hid (Fi w w7 g n L) := F3.out.more K7.out (by simp) (by simp)
  have R7 : Hid (w7.heap[a]? = some (.cells e.cells.toArray 39 (0, 0)) ∧ a ≠ g) := ⟨K7.out.heapOf R3.out.1 (by simp), R3.out.2⟩
  have S7 : Hid (Ress w7 bo1 E ∧ Ress w7 bo2 E) := ⟨S3.out.1.kept K7.out (by simp), S3.out.2.kept K7.out (by simp)⟩
  clear F3 S3 R3 K4 K7 hcc
  clear w3 w4
  have hot := other_any ao n cap L w7 HN.out (HL.out.kept F7.out.kept (by simp)) HNL.out hm
  go_upto_region 7 with (go_at_call 16; refine hot.mono ?_; rintro r w8 ⟨bo, c, rfl, hR, hne, hk8⟩; have H8 := hide (And.intro hR (And.intro hne hk8)); clear hot hR hne hk8)
  have twl : Hid ((Tb.twin L).length = n) := by show _ = _; rw [Tb.twin_len]; exact HN.out
  have twn : Hid (Tb.twin L ≠ [] → L ≠ []) := fun hne h => hne (by rw [h]; rfl)
  generalize Tb.twin L = M at H8 twl twn
  obtain ⟨w9, hcp, f9, k9⟩ := (F7.out.more H8.out.2.2 (by simp) (by simp)).copy M twl.out bo c H8.out.1
  have F9 : Hid (Fi w w9 g n M) := f9
  have R9 : Hid (w9.heap[a]? = some (.cells e.cells.toArray 39 (0, 0)) ∧ a ≠ g) := ⟨k9.heapOf (H8.out.2.2.heapOf R7.out.1 (by simp)) (by simpa using R7.out.2), R7.out.2⟩
  have S9 : Hid (Ress w9 bo1 E ∧ Ress w9 bo2 E) := ⟨(S7.out.1.kept H8.out.2.2 (by simp)).kept k9 (fun _ a ha => by simpa using G1.out a ha), (S7.out.2.kept H8.out.2.2 (by simp)).kept k9 (fun _ a ha => by simpa using G2.out a ha)⟩
  have B9 : Hid (Ress w9 bo M) := H8.out.1.kept k9 (fun hne z hz => by
    have := H8.out.2.1 z hz (twn.out hne)
    have := F7.out.lt
    simp; omega)
  clear f9 k9
  go_upto_region 8 with (fail)
  clear hcp H8 F7 S7 R7
  clear w7 w8
  obtain ⟨E2, hE⟩ : ∃ E, Tb.withL M e = E := ⟨_, rfl⟩
  have HEL2 : Hid (E2.length ≤ 4611686018427387904) := by show _ ≤ _; rw [← hE]; have := Tb.withL_len M e; rw [twl.out] at this; omega
  have HE2 := hide hE
  obtain ⟨cv2, hcv⟩ : ∃ cv, Tb.withE M e = cv := ⟨_, rfl⟩
  have HCV2 := hide hcv
  clear hE hcv
  have hen := with_ok (some ⟨g, 0, none⟩) n (n + 3) M e w9 twl.out F9.out.list (.inr ⟨_, _, rfl⟩) (by simp) (by omega) hn3 (by omega)
  rw [HCV2.out, HE2.out] at hen
  have rr := res_range R9.out.1
  go_upto_region 9 with (first
    | refine wpList_load_mid rfl 39 (.tmp 3) rfl a 0 rfl e.cells _ rr Try.underlying39 rfl ie ?_
    | (go_at_call 23; refine hen.mono ?_; intro r w10 ht; obtain ⟨bo3, c3, m3, rfl, hm1, hs1, hb1, hk1⟩ := told_openR ht; have H2 := hide (And.intro hm1 (And.intro hs1 (And.intro hb1 hk1))); clear ht hm1 hs1 hb1 hk1 hen))
  have F10 : Hid (Fi w w10 g n M) := F9.out.more H2.out.2.2.2 (by simp) (by simp)
  have R10 : Hid (w10.heap[a]? = some (.cells e.cells.toArray 39 (0, 0))) := H2.out.2.2.2.heapOf R9.out.1 (by simp)
  have S10 : Hid (Ress w10 bo3 E2) := H2.out.2.1
  have T10 : Hid (Ress w10 bo1 E ∧ Ress w10 bo2 E) := ⟨S9.out.1.kept H2.out.2.2.2 (by simp), S9.out.2.kept H2.out.2.2.2 (by simp)⟩
  have B10 : Hid (Ress w10 bo M) := B9.out.kept H2.out.2.2.2 (by simp)
  have HM3 : Hid (E2.length = m3) := H2.out.1
  have hmm3 : m3 ≤ 4611686018427387904 := by have := HM3.out; have := HEL2.out; omega
  clear H2 F9 S9 R9 B9 rr
  have hen := refwith_ok bo n c M e w10 twl.out B10.out (by omega)
  rw [HCV2.out, HE2.out] at hen
  have rr := res_range R10.out
  go_upto_region 10 with (first
    | refine wpList_load_mid rfl 39 (.tmp 3) rfl a 0 rfl e.cells _ rr Try.underlying39 rfl ie ?_
    | (go_at_call 24; refine hen.mono ?_; intro r w11 ht; obtain ⟨bo4, c4, m4, rfl, hm2, hs2, hb2, hk2⟩ := told_openR ht; obtain rfl : m4 = m3 := (hm2.symm.trans HM3.out); have H3 := hide (And.intro hs2 (And.intro hb2 hk2)); clear ht hm2 hs2 hb2 hk2 hen))
  have F11 : Hid (Fi w w11 g n M) := F10.out.more H3.out.2.2 (by simp) (by simp)
  have S11 : Hid (Ress w11 bo3 E2 ∧ Ress w11 bo4 E2) := ⟨S10.out.kept H3.out.2.2 (by simp), H3.out.1⟩
  have T11 : Hid (Ress w11 bo1 E ∧ Ress w11 bo2 E) := ⟨T10.out.1.kept H3.out.2.2 (by simp), T10.out.2.kept H3.out.2.2 (by simp)⟩
  have B11 : Hid (Ress w11 bo M) := B10.out.kept H3.out.2.2 (by simp)
  clear H3 F10 S10 T10 B10 R10 rr
  clear w10
  have hcc : (cv2 == cv2) = true := by simp
  have hsa := like_yes bo3 bo4 m4 c3 c4 E2 w11 HM3.out hmm3 S11.out.1 S11.out.2
  go_wp2_with (first
    | (have z := hsa; go_at_call 20; refine hsa.mono ?_; rintro r w12 ⟨rfl, hk4⟩; have K4 := hide hk4; clear hk4 hsa z; have hsb := like_yes bo1 bo2 m2 c1 c2 E w12 HM.out hmm (T11.out.1.kept K4.out (by simp)) (T11.out.2.kept K4.out (by simp)))
    | (go_at_call 20; refine hsb.mono ?_; rintro r w13 ⟨rfl, hk5⟩; have K5 := hide (K4.out.trans hk5 (by simp)); clear hk5 hsb; have hkp := kept_ok g n c bo M w13 twl.out (F11.out.more K5.out (by simp) (by simp)).room (B11.out.kept K5.out (by simp)) hsm)
    | (go_at_call 15; refine hkp.mono ?_; rintro r w16 ⟨rfl, hk8⟩; have K8 := hide (K5.out.trans hk8 (by simp)); clear hk8 hkp)
    | (go_at_call 17; refine (awake_ok _).mono ?_; rintro r w17 ⟨rfl, hk17⟩; have HD := hide hk17; clear hk17))
  go_ret
  exact ⟨rfl, ((F11.out.kept.trans K8.out (by simp)).trans HD.out (by simp)).below (Nat.le_refl _) (by simp)⟩
end Go.Proofs.Ytdeneflgldagpaa
