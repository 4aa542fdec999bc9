/-
  The walk: freightlaw8.TableEncodes.
-/
import Derived.Test.YtdeneflgldagpaaT8h
import Derived.Test.YtdeneflgldagpaaT8e
namespace Go.Proofs.Ytdeneflgldagpaa
open Go.RowKit Go.Sort
set_option linter.unusedVariables false
set_option linter.unusedSimpArgs false

theorem Tb.valid_300 {M : List Res} (h : 0 < M.length) : Tb.valid (M.set 0 ((M.getD 0 res0).coded 300 rfl)) = false :=
  Tb.valid_code_bad (k := 0) (by simpa using h) (by
    have : (M.set 0 ((M.getD 0 res0).coded 300 rfl)).getD 0 res0 = (M.getD 0 res0).coded 300 rfl := by simp [List.getD, h]
    rw [this]
    rfl)
theorem set_back {M : List Res} (h : 0 < M.length) (c : Int) (hc : (Lit.int .i64 c).wf = true) (e : (M.getD 0 res0).code = c) (h1 : (Lit.int .i64 300).wf = true) :
    (M.set 0 ((M.getD 0 res0).coded 300 h1)).set 0 (((M.set 0 ((M.getD 0 res0).coded 300 h1)).getD 0 res0).coded c hc) = M := by
  cases M with
  | nil => simp at h
  | cons x M =>
    simp only [List.getD, List.getElem?_cons_zero, Option.getD_some] at e
    subst e
    simp [List.getD, Res.coded]

set_option maxHeartbeats 6400000 in
set_option maxRecDepth 100000 in
theorem encodes_walk (ao : Option Addr) (n cap : Nat) (L : List Res) (w : World) (hi : InR w ao n cap L) :
    Calls Try.prog 3 #[.slice ao n cap] w fun e w' => e = .returned (.bool true) ∧ Below w.heap.size w w' := by
  have hcm := hi.max
  have hle := hi.le
  have hm : n * 72 ≤ 140737488351232 := by omega
  have hsm : n ≤ 4611686018427387800 := by omega
  have HL := hide hi.ress
  have HNL : Hid (ao = none → cap = 0) := fun h => (hi.nil h).2
  have HN := hide hi.len
  have hroom := roomy_ok ao n cap L w hi.len hi.ress hm
  clear hi hcm hle
  go_enter Try.func3, Try.ntmps3
  go_upto_region 2 with (go_at_call 9; refine hroom.mono ?_; rintro r w1 ⟨g, rfl, hg, hR, hT, hk⟩; have H1 := hide (And.intro hg (And.intro hR (And.intro hT hk))); clear hg hR hT hk hroom)
  have F1 : Hid (Fi w w1 g n L) := Fi.mk' HN.out H1.out.2.1 H1.out.2.2.1 H1.out.2.2.2 H1.out.1
  clear H1
  obtain ⟨V, hV⟩ : ∃ V, Tb.valid L = V := ⟨_, rfl⟩
  obtain ⟨E, hE⟩ : ∃ E, Tb.encd L = E := ⟨_, rfl⟩
  have HEL : Hid (E.length ≤ 3000) := by show _ ≤ _; rw [← hE]; exact Tb.encd_len L
  have HV := hide hV
  have HE := hide hE
  obtain ⟨cv, hcv⟩ : ∃ cv, Tb.code V = cv := ⟨_, rfl⟩
  have HCV := hide hcv
  clear hV hE hcv
  have hen := encode_ok (some ⟨g, 0, none⟩) n (n + 3) L w1 HN.out (by omega) F1.out.list (.inr ⟨_, _, rfl⟩)
  rw [HV.out, HE.out] at hen
  go_upto_region 3 with (go_at_call 10; refine hen.mono ?_; intro r w2 ht; obtain ⟨bo1, c1, m, rfl, hm1, hs1, hb1, _, hk1⟩ := told_open ht; rw [HCV.out]; have H2 := hide (And.intro hm1 (And.intro hs1 (And.intro hb1 hk1))); clear ht hm1 hs1 hb1 hk1 hen)
  have F2 : Hid (Fi w w2 g n L) := F1.out.more H2.out.2.2.2 (by simp) (by simp)
  have G1 : Hid (∀ a, bo1 = some a → a.block ≠ g) := fun a ha e => by have := H2.out.2.2.1 a ha; have := F1.out.lt; omega
  have S1 : Hid (Sl w2 bo1 E) := H2.out.2.1
  have HM : Hid (E.length = m) := H2.out.1
  have hmm : m ≤ 4611686018427387904 := by have := HM.out; have := HEL.out; omega
  clear H2 F1
  have hen := refencode_ok ao n cap L w2 HN.out (by omega) (HL.out.kept F2.out.kept (by simp))
  rw [HV.out, HE.out] at hen
  go_upto_region 4 with (go_at_call 11; refine hen.mono ?_; intro r w3 ht; obtain ⟨bo2, c2, m2, rfl, hm2, hs2, hb2, _, hk2⟩ := told_open ht; obtain rfl : m2 = m := (hm2.symm.trans HM.out); rw [HCV.out]; have H3 := hide (And.intro hs2 (And.intro hb2 hk2)); clear ht hm2 hs2 hb2 hk2 hen)
  have F3 : Hid (Fi w w3 g n L) := F2.out.more H3.out.2.2 (by simp) (by simp)
  have G2 : Hid (∀ a, bo2 = some a → a.block ≠ g) := fun a ha e => by have := H3.out.2.1 a ha; have := F2.out.lt; omega
  have S3 : Hid (Sl w3 bo1 E ∧ Sl w3 bo2 E) := ⟨S1.out.kept H3.out.2.2 (by simp), H3.out.1⟩
  clear H3 F2 S1
  clear w1 w2
  have hcc : (cv != cv) = false := by simp
  have hvv : (V != V) = false := by cases V <;> rfl
  have hsa := same_yes bo1 bo2 m2 c1 c2 E w3 HM.out hmm S3.out.1 S3.out.2
  go_upto_region 6 with (first
    | (go_at_call 12; refine hsa.mono ?_; rintro r w4 ⟨rfl, hk4⟩; have K4 := hide hk4; clear hk4 hsa; have hva := valid_ok (some ⟨g, 0, none⟩) n (n + 3) L w4 HN.out (F3.out.more K4.out (by simp) (by simp)).list (.inr ⟨_, _, rfl⟩) (by omega); rw [HV.out] at hva)
    | (go_at_call 13; refine hva.mono ?_; rintro r w5 ⟨rfl, hk5⟩; have K5 := hide (K4.out.trans hk5 (by simp)); clear hk5 hva; have hrv := refvalid_ok ao n cap L w5 HN.out (HL.out.kept (F3.out.kept.trans K5.out (by simp)) (by simp)) (by omega); rw [HV.out] at hrv)
    | (go_at_call 14; refine hrv.mono ?_; rintro r w6 ⟨rfl, hk6⟩; have K6 := hide (K5.out.trans hk6 (by simp)); clear hk6 hrv; have hkp := kept_ok g n cap ao L w6 HN.out (F3.out.more K6.out (by simp) (by simp)).room (HL.out.kept (F3.out.kept.trans K6.out (by simp)) (by simp)) hsm)
    | (go_at_call 15; refine hkp.mono ?_; rintro r w7 ⟨rfl, hk7⟩; have K7 := hide (K6.out.trans hk7 (by simp)); clear hk7 hkp))
  have F7 : Hid (Fi w w7 g n L) := F3.out.more K7.out (by simp) (by simp)
  have S7 : Hid (Sl w7 bo1 E ∧ Sl w7 bo2 E) := ⟨S3.out.1.kept K7.out (by simp), S3.out.2.kept K7.out (by simp)⟩
  clear F3 S3 K4 K5 K6 K7 hcc hvv
  clear w3 w4 w5 w6
  have hot := other_any ao n cap L w7 HN.out (HL.out.kept F7.out.kept (by simp)) HNL.out hm
  go_upto_region 7 with (go_at_call 16; refine hot.mono ?_; rintro r w8 ⟨bo, c, rfl, hR, hne, hk8⟩; have H8 := hide (And.intro hR (And.intro hne hk8)); clear hot hR hne hk8)
  have twl : Hid ((Tb.twin L).length = n) := by show _ = _; rw [Tb.twin_len]; exact HN.out
  have twn : Hid (Tb.twin L ≠ [] → L ≠ []) := fun hne h => hne (by rw [h]; rfl)
  generalize Tb.twin L = M at H8 twl twn
  obtain ⟨w9, hcp, f9, k9⟩ := (F7.out.more H8.out.2.2 (by simp) (by simp)).copy M twl.out bo c H8.out.1
  have F9 : Hid (Fi w w9 g n M) := f9
  have S9 : Hid (Sl w9 bo1 E ∧ Sl w9 bo2 E) := ⟨(S7.out.1.kept H8.out.2.2 (by simp)).kept k9 (fun _ a ha => by simpa using G1.out a ha), (S7.out.2.kept H8.out.2.2 (by simp)).kept k9 (fun _ a ha => by simpa using G2.out a ha)⟩
  have B9 : Hid (Ress w9 bo M ∧ (M ≠ [] → ∀ z, bo = some z → z.block ≠ g)) := by
    have hb : M ≠ [] → ∀ z, bo = some z → z.block ≠ g := fun hne z hz e => by
      have := H8.out.2.1 z hz (twn.out hne)
      have := F7.out.lt
      omega
    exact ⟨H8.out.1.kept k9 (fun hne z hz => by simpa using hb hne z hz), hb⟩
  clear f9 k9
  go_upto_region 8 with (fail)
  clear hcp H8 F7 S7
  clear w7 w8
  obtain ⟨V2, hV⟩ : ∃ V, Tb.valid M = V := ⟨_, rfl⟩
  obtain ⟨E2, hE⟩ : ∃ E, Tb.encd M = E := ⟨_, rfl⟩
  have HEL2 : Hid (E2.length ≤ 3000) := by show _ ≤ _; rw [← hE]; exact Tb.encd_len M
  have HV2 := hide hV
  have HE2 := hide hE
  obtain ⟨cv2, hcv⟩ : ∃ cv, Tb.code V2 = cv := ⟨_, rfl⟩
  have HCV2 := hide hcv
  clear hV hE hcv
  have hen := encode_ok (some ⟨g, 0, none⟩) n (n + 3) M w9 twl.out (by omega) F9.out.list (.inr ⟨_, _, rfl⟩)
  rw [HV2.out, HE2.out] at hen
  go_upto_region 9 with (go_at_call 10; refine hen.mono ?_; intro r w10 ht; obtain ⟨bo3, c3, m3, rfl, hm1, hs1, hb1, _, hk1⟩ := told_open ht; rw [HCV2.out]; have H2 := hide (And.intro hm1 (And.intro hs1 (And.intro hb1 hk1))); clear ht hm1 hs1 hb1 hk1 hen)
  have F10 : Hid (Fi w w10 g n M) := F9.out.more H2.out.2.2.2 (by simp) (by simp)
  have S10 : Hid (Sl w10 bo3 E2) := H2.out.2.1
  have T10 : Hid (Sl w10 bo1 E ∧ Sl w10 bo2 E) := ⟨S9.out.1.kept H2.out.2.2.2 (by simp), S9.out.2.kept H2.out.2.2.2 (by simp)⟩
  have B10 : Hid (Ress w10 bo M) := B9.out.1.kept H2.out.2.2.2 (by simp)
  have HM3 : Hid (E2.length = m3) := H2.out.1
  have hmm3 : m3 ≤ 4611686018427387904 := by have := HM3.out; have := HEL2.out; omega
  clear H2 F9 S9
  have hen := refencode_ok bo n c M w10 twl.out (by omega) B10.out
  rw [HV2.out, HE2.out] at hen
  go_upto_region 10 with (go_at_call 11; refine hen.mono ?_; intro r w11 ht; obtain ⟨bo4, c4, m4, rfl, hm2, hs2, hb2, _, hk2⟩ := told_open ht; obtain rfl : m4 = m3 := (hm2.symm.trans HM3.out); rw [HCV2.out]; have H3 := hide (And.intro hs2 (And.intro hb2 hk2)); clear ht hm2 hs2 hb2 hk2 hen)
  have F11 : Hid (Fi w w11 g n M) := F10.out.more H3.out.2.2 (by simp) (by simp)
  have S11 : Hid (Sl w11 bo3 E2 ∧ Sl w11 bo4 E2) := ⟨S10.out.kept H3.out.2.2 (by simp), H3.out.1⟩
  have T11 : Hid (Sl w11 bo1 E ∧ Sl w11 bo2 E) := ⟨T10.out.1.kept H3.out.2.2 (by simp), T10.out.2.kept H3.out.2.2 (by simp)⟩
  have B11 : Hid (Ress w11 bo M) := B10.out.kept H3.out.2.2 (by simp)
  clear H3 F10 S10 T10 B10
  clear w10
  have hcc : (cv2 != cv2) = false := by simp
  have hvv : (V2 != V2) = false := by cases V2 <;> rfl
  have hsa := same_yes bo3 bo4 m4 c3 c4 E2 w11 HM3.out hmm3 S11.out.1 S11.out.2
  go_upto_region 12 with (first
    | (have z := hsa; go_at_call 12; refine hsa.mono ?_; rintro r w12 ⟨rfl, hk4⟩; have K4 := hide hk4; clear hk4 hsa z; have hsb := same_yes bo1 bo2 m2 c1 c2 E w12 HM.out hmm (T11.out.1.kept K4.out (by simp)) (T11.out.2.kept K4.out (by simp)))
    | (go_at_call 12; refine hsb.mono ?_; rintro r w13 ⟨rfl, hk5⟩; have K5 := hide (K4.out.trans hk5 (by simp)); clear hk5 hsb; have hva := valid_ok (some ⟨g, 0, none⟩) n (n + 3) M w13 twl.out (F11.out.more K5.out (by simp) (by simp)).list (.inr ⟨_, _, rfl⟩) (by omega); rw [HV2.out] at hva)
    | (go_at_call 13; refine hva.mono ?_; rintro r w14 ⟨rfl, hk6⟩; have K6 := hide (K5.out.trans hk6 (by simp)); clear hk6 hva; have hrv := refvalid_ok bo n c M w14 twl.out (B11.out.kept K6.out (by simp)) (by omega); rw [HV2.out] at hrv)
    | (go_at_call 14; refine hrv.mono ?_; rintro r w15 ⟨rfl, hk7⟩; have K7 := hide (K6.out.trans hk7 (by simp)); clear hk7 hrv; have hkp := kept_ok g n c bo M w15 twl.out (F11.out.more K7.out (by simp) (by simp)).room (B11.out.kept K7.out (by simp)) hsm)
    | (go_at_call 15; refine hkp.mono ?_; rintro r w16 ⟨rfl, hk8⟩; have K8 := hide (K7.out.trans hk8 (by simp)); clear hk8 hkp))
  have F16 : Hid (Fi w w16 g n M) := F11.out.more K8.out (by simp) (by simp)
  have B16 : Hid (Ress w16 bo M) := B11.out.kept K8.out (by simp)
  clear F11 S11 T11 B11 K4 K5 K6 K7 K8 hcc hvv HEL HE HEL2 HE2 HM HM3 hmm hmm3 G1 G2
  by_cases h0 : n = 0
  · have h0z : ((n : Int) == 0) = true := by simp [h0]
    clear h0
    go_wp2_with (go_at_call 17; refine (awake_ok _).mono ?_; rintro r w17 ⟨rfl, hk17⟩; have HD := hide hk17; clear hk17)
    go_ret
    exact ⟨rfl, (F16.out.kept.trans HD.out (by simp)).below (Nat.le_refl _) (by simp)⟩
  · have h0z : ((n : Int) == 0) = false := by simp [h0]
    have hpos : 0 < n := by omega
    have hposz : (0 : Int) < (n : Int) := by omega
    obtain ⟨k, hk⟩ : ∃ k, (M.getD 0 res0).code = k := ⟨_, rfl⟩
    have hkw : (Lit.int .i64 k).wf = true := by rw [← hk]; exact (M.getD 0 res0).hc
    obtain ⟨cc, ff⟩ := F16.out.cell hpos
    rw [hk] at cc
    have F17 : Hid (Fi w (w16.setCell ⟨g, 64, none⟩ (.int .i64 300)) g n (M.set 0 ((M.getD 0 res0).coded 300 rfl))) := F16.out.code hpos 300 rfl
    have B17 : Hid (Ress (w16.setCell ⟨g, 64, none⟩ (.int .i64 300)) bo M) := B16.out.kept (l := [g]) ((Kept.refl [g] w16).setCell (by simp) _) (fun hne z hz => by simpa using B9.out.2 hne z hz)
    go_upto_region 16 with (fail)
    clear cc ff F16 B16
    have HK := hide hk
    clear hk
    generalize w16.setCell ⟨g, 64, none⟩ (.int .i64 300) = w17 at F17 B17 ⊢
    have hva := valid_ok (some ⟨g, 0, none⟩) n (n + 3) _ w17 F17.out.len F17.out.list (.inr ⟨_, _, rfl⟩) (by omega)
    rw [Tb.valid_300 (by rw [twl.out]; exact hpos)] at hva
    go_upto_region 17 with (go_at_call 13; refine hva.mono ?_; rintro r w18 ⟨rfl, hk6⟩; have K6 := hide hk6; clear hk6 hva)
    have F18 := hide (F17.out.more K6.out (by simp) (by simp))
    have B18 : Hid (Ress w18 bo M) := B17.out.kept K6.out (by simp)
    clear F17 B17 K6
    obtain ⟨c2', f2'⟩ := F18.out.cell hpos
    have F19 : Hid (Fi w (w18.setCell ⟨g, 64, none⟩ (.int .i64 k)) g n M) := by
      have h1 := F18.out.code hpos k hkw
      have h2 := set_back (M := M) (by rw [twl.out]; exact hpos) k hkw HK.out rfl
      exact h2 ▸ h1
    have B19 : Hid (Ress (w18.setCell ⟨g, 64, none⟩ (.int .i64 k)) bo M) := B18.out.kept (l := [g]) ((Kept.refl [g] w18).setCell (by simp) _) (fun hne z hz => by simpa using B9.out.2 hne z hz)
    generalize ((M.set 0 ((M.getD 0 res0).coded 300 rfl)).getD 0 res0).code = k2 at c2'
    go_upto_region 18 with (fail)
    clear c2' f2' F18 B18
    generalize w18.setCell ⟨g, 64, none⟩ (.int .i64 k) = w19 at F19 B19 ⊢
    have hvv : (V2 == V2) = true := by simp
    have hva := valid_ok (some ⟨g, 0, none⟩) n (n + 3) M w19 twl.out F19.out.list (.inr ⟨_, _, rfl⟩) (by omega)
    rw [HV2.out] at hva
    go_wp2_with (first
      | (go_at_call 13; refine hva.mono ?_; rintro r w20 ⟨rfl, hk6⟩; have K6 := hide hk6; clear hk6 hva; have hrv := refvalid_ok bo n c M w20 twl.out (B19.out.kept K6.out (by simp)) (by omega); rw [HV2.out] at hrv)
      | (go_at_call 14; refine hrv.mono ?_; rintro r w21 ⟨rfl, hk7⟩; have K7 := hide (K6.out.trans hk7 (by simp)); clear hk7 hrv)
      | (go_at_call 17; refine (awake_ok _).mono ?_; rintro r w22 ⟨rfl, hk17⟩; have HD := hide hk17; clear hk17))
    go_ret
    exact ⟨rfl, ((F19.out.kept.trans K7.out (by simp)).trans HD.out (by simp)).below (Nat.le_refl _) (by simp)⟩
end Go.Proofs.Ytdeneflgldagpaa
