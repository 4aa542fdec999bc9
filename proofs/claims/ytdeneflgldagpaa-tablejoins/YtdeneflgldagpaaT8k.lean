/-
  The walk: freightlaw8.TableJoins.
-/
import Derived.Test.YtdeneflgldagpaaT8i
import Derived.Test.YtdeneflgldagpaaT8j
namespace Go.Proofs.Ytdeneflgldagpaa
open Go.RowKit Go.Sort
set_option linter.unusedVariables false
set_option linter.unusedSimpArgs false

set_option maxHeartbeats 12800000 in
set_option maxRecDepth 100000 in
theorem joins_walk (ao : Option Addr) (n cap : Nat) (ao2 : Option Addr) (n2 cap2 : Nat) (p : Int) (L L2 : List Res) (w : World) (hi : InR w ao n cap L) (hi2 : InR w ao2 n2 cap2 L2) (hpw : (Lit.int .i64 p).wf = true) :
    Calls Try.prog 7 #[.slice ao n cap, .slice ao2 n2 cap2, .int .i64 p] w fun e w' => e = .returned (.bool true) ∧ Below w.heap.size w w' := by
  have hcm := hi.max
  have hle := hi.le
  have hcm2 := hi2.max
  have hle2 := hi2.le
  have hm : n * 72 ≤ 140737488351232 := by omega
  have hm2 : n2 * 72 ≤ 140737488351232 := by omega
  have hsm : n ≤ 4611686018427387800 := by omega
  have hsm2 : n2 ≤ 4611686018427387800 := by omega
  have hn3 : n + 3 ≤ 9223372036854775807 := by omega
  have hn32 : n2 + 3 ≤ 9223372036854775807 := by omega
  have HL := hide hi.ress
  have HNL : Hid (ao = none → cap = 0) := fun h => (hi.nil h).2
  have HN := hide hi.len
  have HL2 := hide hi2.ress
  have HNL2 : Hid (ao2 = none → cap2 = 0) := fun h => (hi2.nil h).2
  have HN2 := hide hi2.len
  have hroom := roomy_ok ao n cap L w hi.len hi.ress hm
  clear hi hi2 hcm hle hcm2 hle2 hpw
  go_enter Try.func7, Try.ntmps7
  go_upto_region 2 with (go_at_call 9; refine hroom.mono ?_; rintro r w1 ⟨g, rfl, hg, hR, hT, hk⟩; have H1 := hide (And.intro hg (And.intro hR (And.intro hT hk))); clear hg hR hT hk hroom)
  have F1 : Hid (Fi w w1 g n L) := Fi.mk' HN.out H1.out.2.1 H1.out.2.2.1 H1.out.2.2.2 H1.out.1
  clear H1
  have hroom := roomy_ok ao2 n2 cap2 L2 w1 HN2.out (HL2.out.kept F1.out.kept (by simp)) hm2
  go_upto_region 3 with (go_at_call 9; refine hroom.mono ?_; rintro r w2 ⟨g2, rfl, hg, hR, hT, hk⟩; have H1 := hide (And.intro hg (And.intro hR (And.intro hT hk))); clear hg hR hT hk hroom)
  have F2 : Hid (Fi w w2 g n L) := F1.out.more H1.out.2.2.2 (by simp) (by simp)
  have I2 : Hid (Fi w w2 g2 n2 L2) := Fi.mk' HN2.out H1.out.2.1 H1.out.2.2.1 (F1.out.kept.trans H1.out.2.2.2 (by simp)) (Nat.le_trans F1.out.kept.size H1.out.1)
  have HG : Hid (g ≠ g2) := fun e => by have := F1.out.lt; have := H1.out.1; omega
  clear H1 F1
  clear w1
  obtain ⟨S, hS⟩ : ∃ S, Tb.join L L2 p = S := ⟨_, rfl⟩
  have HS := hide hS
  have HSL : Hid (S.1.length ≤ 4611686018427387904 ∧ S.2.1.length ≤ 4611686018427387904) := by
    have := Tb.join_len L L2 p
    rw [HN.out, HN2.out, hS] at this
    exact ⟨by omega, by omega⟩
  clear hS
  have hjo := join_ok (some ⟨g, 0, none⟩) (some ⟨g2, 0, none⟩) n (n + 3) n2 (n2 + 3) L L2 p w2 (by omega) (by omega) HN.out HN2.out ⟨F2.out.list, .inr ⟨_, _, rfl⟩, by simp⟩ ⟨I2.out.list, .inr ⟨_, _, rfl⟩, by simp⟩ (by omega) (by omega) hn3 hn32
  rw [HS.out] at hjo
  obtain ⟨R, C, cv⟩ := S
  go_upto_region 4 with (go_at_call 25; refine hjo.mono ?_; intro r w3 ht; obtain ⟨bo1, c1, m, co1, d1, q, rfl, hm1, hq1, hs1, hi1, hl1, hb1, hc1, hk1⟩ := told_openJ ht; have H3 := hide (And.intro hm1 (And.intro hq1 (And.intro hs1 (And.intro hi1 (And.intro hl1 (And.intro hb1 (And.intro hc1 hk1))))))); clear ht hm1 hq1 hs1 hi1 hl1 hb1 hc1 hk1 hjo)
  have F3 : Hid (Fi w w3 g n L) := F2.out.more H3.out.2.2.2.2.2.2.2 (by simp) (by simp)
  have I3 : Hid (Fi w w3 g2 n2 L2) := I2.out.more H3.out.2.2.2.2.2.2.2 (by simp) (by simp)
  have G1 : Hid ((∀ a, bo1 = some a → a.block ≠ g ∧ a.block ≠ g2) ∧ (∀ a, co1 = some a → a.block ≠ g ∧ a.block ≠ g2)) := ⟨fun a ha => by have := H3.out.2.2.2.2.2.1 a ha; have := F2.out.lt; have := I2.out.lt; omega, fun a ha => by have := H3.out.2.2.2.2.2.2.1 a ha; have := F2.out.lt; have := I2.out.lt; omega⟩
  have S3 : Hid (Ress w3 bo1 R ∧ Idss w3 co1 C) := ⟨H3.out.2.2.1, H3.out.2.2.2.1⟩
  have HM : Hid (R.length = m ∧ C.length = q ∧ (∀ i ∈ C, i.length = 32)) := ⟨H3.out.1, H3.out.2.1, H3.out.2.2.2.2.1⟩
  have hmm : m ≤ 4611686018427387904 := by have := HM.out.1; have : R.length ≤ 4611686018427387904 := HSL.out.1; omega
  have hqq : q ≤ 4611686018427387904 := by have := HM.out.2.1; have : C.length ≤ 4611686018427387904 := HSL.out.2; omega
  clear H3 F2 I2
  have hjo := refjoin_ok ao ao2 n cap n2 cap2 L L2 p w3 HN.out HN2.out (HL.out.kept F3.out.kept (by simp)) (HL2.out.kept F3.out.kept (by simp)) (by omega) (by omega)
  rw [HS.out] at hjo
  go_upto_region 5 with (go_at_call 26; refine hjo.mono ?_; intro r w4 ht; obtain ⟨bo2, c2, m', co2, d2, q', rfl, hm1, hq1, hs1, hi1, hl1, hb1, hc1, hk1⟩ := told_openJ ht; obtain rfl : m' = m := (hm1.symm.trans HM.out.1); obtain rfl : q' = q := (hq1.symm.trans HM.out.2.1); have H3 := hide (And.intro hs1 (And.intro hi1 (And.intro hb1 (And.intro hc1 hk1)))); clear ht hm1 hq1 hs1 hi1 hl1 hb1 hc1 hk1 hjo)
  have F4 : Hid (Fi w w4 g n L) := F3.out.more H3.out.2.2.2.2 (by simp) (by simp)
  have I4 : Hid (Fi w w4 g2 n2 L2) := I3.out.more H3.out.2.2.2.2 (by simp) (by simp)
  have G2 : Hid ((∀ a, bo2 = some a → a.block ≠ g ∧ a.block ≠ g2) ∧ (∀ a, co2 = some a → a.block ≠ g ∧ a.block ≠ g2)) := ⟨fun a ha => by have := H3.out.2.2.1 a ha; have := F3.out.lt; have := I3.out.lt; omega, fun a ha => by have := H3.out.2.2.2.1 a ha; have := F3.out.lt; have := I3.out.lt; omega⟩
  have S4 : Hid (Ress w4 bo1 R ∧ Idss w4 co1 C ∧ Ress w4 bo2 R ∧ Idss w4 co2 C) := ⟨S3.out.1.kept H3.out.2.2.2.2 (by simp), S3.out.2.kept H3.out.2.2.2.2 (by simp), H3.out.1, H3.out.2.1⟩
  clear H3 F3 I3 S3
  clear w2 w3
  have hcc : (cv != cv) = false := by simp
  have hsa := like_yes bo1 bo2 m' c1 c2 R w4 HM.out.1 hmm S4.out.1 S4.out.2.2.1
  go_upto_region 7 with (first
    | (go_at_call 20; refine hsa.mono ?_; rintro r w5 ⟨rfl, hk⟩; have K5 := hide hk; clear hk hsa; have hid := ids_yes co1 co2 q' d1 d2 C w5 HM.out.2.1 HM.out.2.2 hqq (S4.out.2.1.kept K5.out (by simp)) (S4.out.2.2.2.kept K5.out (by simp)))
    | (go_at_call 27; refine hid.mono ?_; rintro r w6 ⟨rfl, hk⟩; have K6 := hide (K5.out.trans hk (by simp)); clear hk hid; have hkp := kept_ok g n cap ao L w6 HN.out (F4.out.more K6.out (by simp) (by simp)).room (HL.out.kept (F4.out.kept.trans K6.out (by simp)) (by simp)) hsm)
    | (have z := hkp; go_at_call 15; refine hkp.mono ?_; rintro r w7 ⟨rfl, hk⟩; have K7 := hide (K6.out.trans hk (by simp)); clear hk hkp z; have hkq := kept_ok g2 n2 cap2 ao2 L2 w7 HN2.out (I4.out.more K7.out (by simp) (by simp)).room (HL2.out.kept (F4.out.kept.trans K7.out (by simp)) (by simp)) hsm2)
    | (go_at_call 15; refine hkq.mono ?_; rintro r w8 ⟨rfl, hk⟩; have K8 := hide (K7.out.trans hk (by simp)); clear hk hkq))
  have F8 : Hid (Fi w w8 g n L) := F4.out.more K8.out (by simp) (by simp)
  have I8 : Hid (Fi w w8 g2 n2 L2) := I4.out.more K8.out (by simp) (by simp)
  have S8 : Hid (Ress w8 bo1 R ∧ Idss w8 co1 C ∧ Ress w8 bo2 R ∧ Idss w8 co2 C) := ⟨S4.out.1.kept K8.out (by simp), S4.out.2.1.kept K8.out (by simp), S4.out.2.2.1.kept K8.out (by simp), S4.out.2.2.2.kept K8.out (by simp)⟩
  clear F4 I4 S4 K5 K6 K7 K8 hcc
  clear w4 w5 w6 w7
  have hot := other_any ao n cap L w8 HN.out (HL.out.kept F8.out.kept (by simp)) HNL.out hm
  go_upto_region 8 with (go_at_call 16; refine hot.mono ?_; rintro r w9 ⟨bo, c, rfl, hR, hne, hk⟩; have H9 := hide (And.intro hR (And.intro hne hk)); clear hot hR hne hk)
  have twl : Hid ((Tb.twin L).length = n) := by show _ = _; rw [Tb.twin_len]; exact HN.out
  have twn : Hid (Tb.twin L ≠ [] → L ≠ []) := fun hne h => hne (by rw [h]; rfl)
  generalize Tb.twin L = M at H9 twl twn
  have F9 : Hid (Fi w w9 g n L) := F8.out.more H9.out.2.2 (by simp) (by simp)
  have I9 : Hid (Fi w w9 g2 n2 L2) := I8.out.more H9.out.2.2 (by simp) (by simp)
  have S9 : Hid (Ress w9 bo1 R ∧ Idss w9 co1 C ∧ Ress w9 bo2 R ∧ Idss w9 co2 C) := ⟨S8.out.1.kept H9.out.2.2 (by simp), S8.out.2.1.kept H9.out.2.2 (by simp), S8.out.2.2.1.kept H9.out.2.2 (by simp), S8.out.2.2.2.kept H9.out.2.2 (by simp)⟩
  have B9 : Hid (Ress w9 bo M ∧ (M ≠ [] → ∀ z, bo = some z → z.block ≠ g ∧ z.block ≠ g2)) := ⟨H9.out.1, fun hne z hz => by have := H9.out.2.1 z hz (twn.out hne); have := F8.out.lt; have := I8.out.lt; omega⟩
  clear H9 F8 I8 S8
  clear w8
  have hot := other_any ao2 n2 cap2 L2 w9 HN2.out (HL2.out.kept F9.out.kept (by simp)) HNL2.out hm2
  go_upto_region 9 with (go_at_call 16; refine hot.mono ?_; rintro r w10 ⟨bp, e, rfl, hR, hne, hk⟩; have H9 := hide (And.intro hR (And.intro hne hk)); clear hot hR hne hk)
  have twl2 : Hid ((Tb.twin L2).length = n2) := by show _ = _; rw [Tb.twin_len]; exact HN2.out
  have twn2 : Hid (Tb.twin L2 ≠ [] → L2 ≠ []) := fun hne h => hne (by rw [h]; rfl)
  generalize Tb.twin L2 = M2 at H9 twl2 twn2
  have I10 : Hid (Fi w w10 g2 n2 L2) := I9.out.more H9.out.2.2 (by simp) (by simp)
  obtain ⟨w11, hcp, f11, k11⟩ := (F9.out.more H9.out.2.2 (by simp) (by simp)).copy M twl.out bo c (B9.out.1.kept H9.out.2.2 (by simp))
  have F11 : Hid (Fi w w11 g n M) := f11
  have I11 : Hid (Fi w w11 g2 n2 L2) := I10.out.more k11 (by simpa using fun h => HG.out h.symm) (by have := F9.out.new; simp; omega)
  have S11 : Hid (Ress w11 bo1 R ∧ Idss w11 co1 C ∧ Ress w11 bo2 R ∧ Idss w11 co2 C) := ⟨(S9.out.1.kept H9.out.2.2 (by simp)).kept k11 (fun _ a ha => by simpa using (G1.out.1 a ha).1), (S9.out.2.1.kept H9.out.2.2 (by simp)).kept k11 (fun _ a ha => by simpa using (G1.out.2 a ha).1), (S9.out.2.2.1.kept H9.out.2.2 (by simp)).kept k11 (fun _ a ha => by simpa using (G2.out.1 a ha).1), (S9.out.2.2.2.kept H9.out.2.2 (by simp)).kept k11 (fun _ a ha => by simpa using (G2.out.2 a ha).1)⟩
  have B11 : Hid (Ress w11 bo M) := (B9.out.1.kept H9.out.2.2 (by simp)).kept k11 (fun hne z hz => by simpa using (B9.out.2 hne z hz).1)
  have P11 : Hid (Ress w11 bp M2 ∧ (M2 ≠ [] → ∀ z, bp = some z → z.block ≠ g2)) := ⟨H9.out.1.kept k11 (fun hne z hz => by have := H9.out.2.1 z hz (twn2.out hne); have := F9.out.lt; simp; omega), fun hne z hz => by have := H9.out.2.1 z hz (twn2.out hne); have := I9.out.lt; omega⟩
  clear f11 k11
  go_upto_region 10 with (fail)
  clear hcp H9 F9 I9 S9 I10
  obtain ⟨w12, hcp, f12, k12⟩ := I11.out.copy M2 twl2.out bp e P11.out.1
  have I12 : Hid (Fi w w12 g2 n2 M2) := f12
  have F12 : Hid (Fi w w12 g n M) := F11.out.more k12 (by simpa using HG.out) (by have := I11.out.new; simp; omega)
  have S12 : Hid (Ress w12 bo1 R ∧ Idss w12 co1 C ∧ Ress w12 bo2 R ∧ Idss w12 co2 C) := ⟨S11.out.1.kept k12 (fun _ a ha => by simpa using (G1.out.1 a ha).2), S11.out.2.1.kept k12 (fun _ a ha => by simpa using (G1.out.2 a ha).2), S11.out.2.2.1.kept k12 (fun _ a ha => by simpa using (G2.out.1 a ha).2), S11.out.2.2.2.kept k12 (fun _ a ha => by simpa using (G2.out.2 a ha).2)⟩
  have B12 : Hid (Ress w12 bo M ∧ Ress w12 bp M2) := ⟨B11.out.kept k12 (fun hne z hz => by simpa using (B9.out.2 hne z hz).2), P11.out.1.kept k12 (fun hne z hz => by simpa using P11.out.2 hne z hz)⟩
  clear f12 k12
  go_upto_region 11 with (fail)
  clear hcp F11 I11 S11 B11 P11 B9
  clear w9 w10 w11
  obtain ⟨S, hS⟩ : ∃ S, Tb.join M M2 p = S := ⟨_, rfl⟩
  have HS2 := hide hS
  have HSL2 : Hid (S.1.length ≤ 4611686018427387904 ∧ S.2.1.length ≤ 4611686018427387904) := by
    have := Tb.join_len M M2 p
    rw [twl.out, twl2.out, hS] at this
    exact ⟨by omega, by omega⟩
  clear hS
  have hjo := join_ok (some ⟨g, 0, none⟩) (some ⟨g2, 0, none⟩) n (n + 3) n2 (n2 + 3) M M2 p w12 (by omega) (by omega) twl.out twl2.out ⟨F12.out.list, .inr ⟨_, _, rfl⟩, by simp⟩ ⟨I12.out.list, .inr ⟨_, _, rfl⟩, by simp⟩ (by omega) (by omega) hn3 hn32
  rw [HS2.out] at hjo
  obtain ⟨R2, C2, cv2⟩ := S
  go_upto_region 12 with (go_at_call 25; refine hjo.mono ?_; intro r w13 ht; obtain ⟨bo3, c3, m3, co3, d3, q3, rfl, hm1, hq1, hs1, hi1, hl1, hb1, hc1, hk1⟩ := told_openJ ht; have H3 := hide (And.intro hm1 (And.intro hq1 (And.intro hs1 (And.intro hi1 (And.intro hl1 hk1))))); clear ht hm1 hq1 hs1 hi1 hl1 hb1 hc1 hk1 hjo)
  have F13 : Hid (Fi w w13 g n M) := F12.out.more H3.out.2.2.2.2.2 (by simp) (by simp)
  have I13 : Hid (Fi w w13 g2 n2 M2) := I12.out.more H3.out.2.2.2.2.2 (by simp) (by simp)
  have S13 : Hid (Ress w13 bo1 R ∧ Idss w13 co1 C ∧ Ress w13 bo2 R ∧ Idss w13 co2 C) := ⟨S12.out.1.kept H3.out.2.2.2.2.2 (by simp), S12.out.2.1.kept H3.out.2.2.2.2.2 (by simp), S12.out.2.2.1.kept H3.out.2.2.2.2.2 (by simp), S12.out.2.2.2.kept H3.out.2.2.2.2.2 (by simp)⟩
  have B13 : Hid (Ress w13 bo M ∧ Ress w13 bp M2) := ⟨B12.out.1.kept H3.out.2.2.2.2.2 (by simp), B12.out.2.kept H3.out.2.2.2.2.2 (by simp)⟩
  have T13 : Hid (Ress w13 bo3 R2 ∧ Idss w13 co3 C2) := ⟨H3.out.2.2.1, H3.out.2.2.2.1⟩
  have HM3 : Hid (R2.length = m3 ∧ C2.length = q3 ∧ (∀ i ∈ C2, i.length = 32)) := ⟨H3.out.1, H3.out.2.1, H3.out.2.2.2.2.1⟩
  have hmm3 : m3 ≤ 4611686018427387904 := by have := HM3.out.1; have : R2.length ≤ 4611686018427387904 := HSL2.out.1; omega
  have hqq3 : q3 ≤ 4611686018427387904 := by have := HM3.out.2.1; have : C2.length ≤ 4611686018427387904 := HSL2.out.2; omega
  clear H3 F12 I12 S12 B12
  have hjo := refjoin_ok bo bp n c n2 e M M2 p w13 twl.out twl2.out B13.out.1 B13.out.2 (by omega) (by omega)
  rw [HS2.out] at hjo
  go_upto_region 13 with (go_at_call 26; refine hjo.mono ?_; intro r w14 ht; obtain ⟨bo4, c4, m4, co4, d4, q4, rfl, hm1, hq1, hs1, hi1, hl1, hb1, hc1, hk1⟩ := told_openJ ht; obtain rfl : m4 = m3 := (hm1.symm.trans HM3.out.1); obtain rfl : q4 = q3 := (hq1.symm.trans HM3.out.2.1); have H3 := hide (And.intro hs1 (And.intro hi1 hk1)); clear ht hm1 hq1 hs1 hi1 hl1 hb1 hc1 hk1 hjo)
  have F14 : Hid (Fi w w14 g n M) := F13.out.more H3.out.2.2 (by simp) (by simp)
  have I14 : Hid (Fi w w14 g2 n2 M2) := I13.out.more H3.out.2.2 (by simp) (by simp)
  have S14 : Hid (Ress w14 bo1 R ∧ Idss w14 co1 C ∧ Ress w14 bo2 R ∧ Idss w14 co2 C) := ⟨S13.out.1.kept H3.out.2.2 (by simp), S13.out.2.1.kept H3.out.2.2 (by simp), S13.out.2.2.1.kept H3.out.2.2 (by simp), S13.out.2.2.2.kept H3.out.2.2 (by simp)⟩
  have B14 : Hid (Ress w14 bo M ∧ Ress w14 bp M2) := ⟨B13.out.1.kept H3.out.2.2 (by simp), B13.out.2.kept H3.out.2.2 (by simp)⟩
  have T14 : Hid (Ress w14 bo3 R2 ∧ Idss w14 co3 C2 ∧ Ress w14 bo4 R2 ∧ Idss w14 co4 C2) := ⟨T13.out.1.kept H3.out.2.2 (by simp), T13.out.2.kept H3.out.2.2 (by simp), H3.out.1, H3.out.2.1⟩
  clear H3 F13 I13 S13 B13 T13
  clear w13
  have hcc : (cv2 != cv2) = false := by simp
  have hsa := like_yes bo3 bo4 m4 c3 c4 R2 w14 HM3.out.1 hmm3 T14.out.1 T14.out.2.2.1
  go_upto_region 15 with (first
    | (go_at_call 20; refine hsa.mono ?_; rintro r w15 ⟨rfl, hk⟩; have K5 := hide hk; clear hk hsa; have hid := ids_yes co3 co4 q4 d3 d4 C2 w15 HM3.out.2.1 HM3.out.2.2 hqq3 (T14.out.2.1.kept K5.out (by simp)) (T14.out.2.2.2.kept K5.out (by simp)))
    | (go_at_call 27; refine hid.mono ?_; rintro r w16 ⟨rfl, hk⟩; have K6 := hide (K5.out.trans hk (by simp)); clear hk hid; have hkp := kept_ok g n c bo M w16 twl.out (F14.out.more K6.out (by simp) (by simp)).room (B14.out.1.kept K6.out (by simp)) hsm)
    | (have z := hkp; go_at_call 15; refine hkp.mono ?_; rintro r w17 ⟨rfl, hk⟩; have K7 := hide (K6.out.trans hk (by simp)); clear hk hkp z; have hkq := kept_ok g2 n2 e bp M2 w17 twl2.out (I14.out.more K7.out (by simp) (by simp)).room (B14.out.2.kept K7.out (by simp)) hsm2)
    | (go_at_call 15; refine hkq.mono ?_; rintro r w18 ⟨rfl, hk⟩; have K8 := hide (K7.out.trans hk (by simp)); clear hk hkq))
  have F18 : Hid (Kept [] w w18) := F14.out.kept.trans K8.out (by simp)
  have S18 : Hid (Ress w18 bo1 R ∧ Idss w18 co1 C ∧ Ress w18 bo2 R ∧ Idss w18 co2 C) := ⟨S14.out.1.kept K8.out (by simp), S14.out.2.1.kept K8.out (by simp), S14.out.2.2.1.kept K8.out (by simp), S14.out.2.2.2.kept K8.out (by simp)⟩
  clear F14 I14 S14 B14 T14 K5 K6 K7 K8 hcc
  have hsa := like_yes bo1 bo2 m' c1 c2 R w18 HM.out.1 hmm S18.out.1 S18.out.2.2.1
  go_wp2_with (first
    | (go_at_call 20; refine hsa.mono ?_; rintro r w19 ⟨rfl, hk⟩; have K5 := hide hk; clear hk hsa; have hid := ids_yes co1 co2 q' d1 d2 C w19 HM.out.2.1 HM.out.2.2 hqq (S18.out.2.1.kept K5.out (by simp)) (S18.out.2.2.2.kept K5.out (by simp)))
    | (go_at_call 27; refine hid.mono ?_; rintro r w20 ⟨rfl, hk⟩; have K6 := hide (K5.out.trans hk (by simp)); clear hk hid)
    | (go_at_call 17; refine (awake_ok _).mono ?_; rintro r w21 ⟨rfl, hk⟩; have HD := hide hk; clear hk))
  go_ret
  exact ⟨rfl, ((F18.out.trans K6.out (by simp)).trans HD.out (by simp)).below (Nat.le_refl _) (by simp)⟩
end Go.Proofs.Ytdeneflgldagpaa
