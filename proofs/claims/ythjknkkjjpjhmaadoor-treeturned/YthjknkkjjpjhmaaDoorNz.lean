/-
  TreeReturns: the walk. (Written by tools/nz.py.)
-/
import Derived.Test.YthjknkkjjpjhmaaDoorNy
namespace Go.Proofs.YthjknkkjjpjhmaaDoor
open Go.RowKit
set_option linter.unusedVariables false
set_option linter.unusedSimpArgs false

theorem cut_at (cut : Int) (m : Nat) (hm : 0 < m) (hc : -9223372036854775808 ≤ cut ∧ cut ≤ 9223372036854775807) : ∃ r : Int, cut.tmod m = r ∧ -(m : Int) < r ∧ r < m := by
  refine ⟨_, rfl, ?_, ?_⟩
  · have h1 := Int.lt_tmod_of_pos cut (show (0 : Int) < m by omega)
    simpa using h1
  · exact Int.tmod_lt_of_pos cut (by omega)
set_option maxHeartbeats 6400000 in
set_option maxRecDepth 100000 in
theorem returns_yes (ao : Option Addr) (n cap : Nat) (mo : Option Addr) (mn mcap : Nat) (cut : Int) (L : List Ent) (ms : List UInt8) (w : World) (hT : Tabs w) (hn : L.length = n) (hL : Ents w ao L) (hnc : n ≤ cap) (hcm : cap * 56 ≤ 140737488351232) (hM : InB w mo mn mcap ms) (hc : -9223372036854775808 ≤ cut ∧ cut ≤ 9223372036854775807) (ht : Tn.isTree L = true) :
    Calls Tryd.prog 6 #[.slice ao n cap, .slice mo mn mcap, .int .i64 cut] w fun r w' => r = .returned (.bool true) ∧ Below w.heap.size w w' := by
  have hk := known_ok w hT
  have HT := hide hT
  have HL := hide hL
  have HM := hide hM
  have hmm := hM.max
  have hml := hM.le
  have hok : ∀ e ∈ L, EntOk e := fun e he => by
    obtain ⟨i, hi, rfl⟩ := List.getElem_of_mem he
    obtain ⟨_, _, _, _, h⟩ := hL i hi
    simpa [List.getD, List.getElem?_eq_getElem hi] using h
  have he : Tn.encd L = Tn.encT L := by simp [Tn.encd, ht]
  obtain ⟨hl2, hl2114⟩ := Tn.encT_len hok ht
  obtain ⟨X, hX⟩ : ∃ X, Tn.encT L = X := ⟨_, rfl⟩
  have HX : Hid (Tn.encd L = X ∧ Tn.isTree L = true ∧ Tn.parse X = some L ∧ (∀ r, r ≠ [] → Tn.parse (X ++ r) = none) ∧ ∀ k, k < X.length → Tn.parse (X.take k) = none) :=
    ⟨by rw [he, hX], ht, by rw [← hX]; exact Tn.enc_parse hok ht, fun r hr => by rw [← hX]; exact Tn.enc_more hok ht r hr, fun k hk => by rw [← hX] at hk ⊢; exact Tn.enc_cut hok ht k hk⟩
  rw [hX] at hl2 hl2114
  obtain ⟨m, hm⟩ : ∃ m, X.length = m := ⟨_, rfl⟩
  rw [hm] at hl2 hl2114
  obtain ⟨r0, hr0, hr1, hr2⟩ := cut_at cut m (by omega) hc
  have HMX := hide hm
  clear hT hL hM hok he hX ht hm
  go_enter Tryd.func6, Tryd.ntmps6
  go_upto_region 10 with (first
    | (go_at_call 9; refine hk.mono ?_; rintro r w1 ⟨rfl, hb1⟩; have hen := encode_ok ao n cap L w1 hn hnc (by omega) (HL.out.below hb1) (HT.out.below hb1); rw [HX.out.1, HX.out.2.1] at hen; have HB1 := hide hb1; clear hk hb1)
    | (go_at_call 13; refine hen.mono ?_; rintro r w2 ⟨⟨v, rfl, hv⟩, hb2⟩; obtain ⟨ao2, cap2, hv2, hlc2, hsl2, hfar2, hcm2, hnil2⟩ := OwnB.shape hv; subst hv2; have hB2 := HB1.out.trans (hb2.mono HB1.out.size); have hpa := parse_ok ao2 m cap2 X w2 HMX.out (by omega) hsl2 hnil2 (HT.out.below hB2); rw [HX.out.2.2.1] at hpa; rw [HMX.out]; have H2 : Hid (Below w.heap.size w w2 ∧ Sl w2 ao2 X ∧ (ao2 = none → X = [] ∧ cap2 = 0)) := ⟨hB2, hsl2, hnil2⟩; rw [HMX.out] at hlc2; clear hen hv hb2 hB2 hsl2 hfar2 hnil2)
    | (go_at_call 18; refine hpa.mono ?_; rintro r w3 ⟨⟨v, rfl, hv⟩, hb3⟩; obtain ⟨ao3, cap3, hv3, hlc3, hE3, _, _⟩ := hv.ents; subst hv3; have H3 : Hid (Below w.heap.size w w3 ∧ Kept [] w2 w3 ∧ Ents w3 ao3 L) := ⟨H2.out.1.trans (hb3.mono H2.out.1.size), Kept.of_below hb3, hE3⟩; clear hpa hv hb3 hE3))
  by_cases hmn : 0 < mn
  · have hms : ms ≠ [] := by rintro rfl; have := HM.out.len; simp at this; omega
    -- append(append([]byte{}, b...), more...)
    obtain ⟨v4, w4, hrun4, ho4, hk4⟩ := run_freshB w3 X ao2 m cap2 HMX.out (H2.out.2.1.kept H3.out.2.1 (by simp)) H2.out.2.2 (by omega)
    have hB4 : Below w.heap.size w w4 := H3.out.1.trans (hk4.below H3.out.1.size (by simp))
    obtain ⟨v5, w5, hrun5, ho5, hk5⟩ := run_appSl w4 w3.heap.size v4 X ms ho4 mo mn mcap HM.out.len (HM.out.sl.kept (Kept.of_below hB4) (by simp)) HM.out.nil (by rw [HMX.out]; omega) hk4.size
    have hB5 : Below w.heap.size w w5 := hB4.trans (hk5.below hB4.size (fun g hg => Nat.le_trans H3.out.1.size (ho4.far g (by simpa using hg)).1))
    have hk35 : Kept [] w3 w5 := hk4.trans hk5 (fun g hg hlt => by have := (ho4.far g (by simpa using hg)).1; omega)
    obtain ⟨ao5, cap5, hv5, hlc5, hsl5, _, _, hnil5⟩ := ho5.shape
    have hl5 : (X ++ ms).length = m + mn := by rw [List.length_append, HMX.out, HM.out.len]
    rw [hl5] at hv5
    have hpa5 := parse_ok ao5 (m + mn) cap5 (X ++ ms) w5 hl5 (by omega) hsl5 hnil5 (HT.out.below hB5)
    rw [HX.out.2.2.2.1 ms hms] at hpa5
    have H5 : Hid (Below w.heap.size w w5 ∧ Kept [] w3 w5) := ⟨hB5, hk35⟩
    subst hv5
    clear ho4 hk4 hB4 ho5 hk5 hB5 hk35 hlc5 hsl5 hnil5 hl5 hms
    go_upto_region 12 with (first
      | refine wpList_app_run rfl (.tmp 39) (.tmp 40) 26 26 rfl (.slice (some ⟨w3.heap.size, 0, none⟩) 0 0) (.slice ao2 m cap2) rfl rfl v4 w4 hrun4 ?_
      | refine wpList_app_run rfl (.tmp 41) (.tmp 42) 26 26 rfl v4 (.slice mo mn mcap) rfl rfl (.slice ao5 (m + mn) cap5) w5 hrun5 ?_
      | (go_at_call 18; refine hpa5.mono ?_; rintro r w6 ⟨⟨v, rfl, hv⟩, hb6⟩; obtain ⟨ao6, cap6, hv6, _⟩ := hv.ents; subst hv6; have HW : Hid (Below w.heap.size w w6 ∧ Kept [] w2 w6) := ⟨H5.out.1.trans (hb6.mono H5.out.1.size), (H3.out.2.1.trans H5.out.2 (by simp)).trans (Kept.of_below hb6) (by simp)⟩; have HK3 : Hid (Kept [] w3 w6) := H5.out.2.trans (Kept.of_below hb6) (by simp); clear hpa5 hv hb6 H5))
    obtain ⟨k, hk0, hkm⟩ : ∃ k : Nat, (if r0 < 0 then r0 + m else r0) = (k : Int) ∧ k < m := by
      refine ⟨(if r0 < 0 then r0 + m else r0).toNat, ?_, ?_⟩ <;> split <;> omega
    have hsK : Sl w6 ao2 (X.take k) := (H2.out.2.1.kept HW.out.2 (by simp)).take k
    obtain ⟨v9, w9, hrun9, ho9, hk9⟩ := run_freshB w6 (X.take k) ao2 k cap2 (by rw [List.length_take, HMX.out]; omega) hsK (fun h => ⟨by rw [(H2.out.2.2 h).1]; simp, (H2.out.2.2 h).2⟩) (by omega)
    obtain ⟨ao9, cap9, hv9, hlc9, hsl9, _, _, hnil9⟩ := ho9.shape
    have hl9 : (X.take k).length = k := by rw [List.length_take, HMX.out]; omega
    rw [hl9] at hv9
    subst hv9
    have hB9 : Below w.heap.size w w9 := HW.out.1.trans (hk9.below HW.out.1.size (by simp))
    have hpa9 := parse_ok ao9 k cap9 (X.take k) w9 hl9 (by omega) hsl9 hnil9 (HT.out.below hB9)
    rw [HX.out.2.2.2.2 k (by rw [HMX.out]; exact hkm)] at hpa9
    have cK := fun W => Tryd.cutTo W ao2 m cap2 k (by omega)
    have H9 : Hid (Below w.heap.size w w9 ∧ Kept [] w6 w9) := ⟨hB9, hk9⟩
    clear hsK ho9 hlc9 hsl9 hnil9 hl9 hB9 hk9
    by_cases hneg : r0 < 0
    · rw [if_pos hneg] at hk0
      go_wp2_with (first
        | refine wpList_app_run rfl (.tmp 58) (.tmp 61) 26 26 rfl (.slice (some ⟨w6.heap.size, 0, none⟩) 0 0) (.slice ao2 k cap2) rfl rfl (.slice ao9 k cap9) w9 hrun9 ?_
        | (go_at_call 18; refine hpa9.mono ?_; rintro r w10 ⟨⟨v, rfl, hv⟩, hb10⟩; obtain ⟨ao10, cap10, hv10, _⟩ := hv.ents; subst hv10; have hk10 : Kept [] w3 w10 := (HK3.out.trans H9.out.2 (by simp)).trans (Kept.of_below hb10) (by simp); have hB10 := H9.out.1.trans (hb10.mono H9.out.1.size); have hal := alike_any ao3 ao n cap3 n cap L L w10 hn hn (by omega) (H3.out.2.2.kept hk10 (by simp)) (HL.out.below hB10); rw [decide_eq_true (rfl : L = L)] at hal; have HB10 := hide hB10; clear hpa9 hv hb10 hk10 hB10)
        | (go_at_call 20; refine hal.mono ?_; rintro r w11 ⟨rfl, hk11⟩; have HB11 := hide (HB10.out.trans (hk11.below HB10.out.size (by simp))); clear hal hk11))
      go_ret
      exact ⟨rfl, HB11.out⟩
    · rw [if_neg hneg] at hk0
      subst hk0
      go_wp2_with (first
        | refine wpList_app_run rfl (.tmp 58) (.tmp 61) 26 26 rfl (.slice (some ⟨w6.heap.size, 0, none⟩) 0 0) (.slice ao2 k cap2) rfl rfl (.slice ao9 k cap9) w9 hrun9 ?_
        | (go_at_call 18; refine hpa9.mono ?_; rintro r w10 ⟨⟨v, rfl, hv⟩, hb10⟩; obtain ⟨ao10, cap10, hv10, _⟩ := hv.ents; subst hv10; have hk10 : Kept [] w3 w10 := (HK3.out.trans H9.out.2 (by simp)).trans (Kept.of_below hb10) (by simp); have hB10 := H9.out.1.trans (hb10.mono H9.out.1.size); have hal := alike_any ao3 ao n cap3 n cap L L w10 hn hn (by omega) (H3.out.2.2.kept hk10 (by simp)) (HL.out.below hB10); rw [decide_eq_true (rfl : L = L)] at hal; have HB10 := hide hB10; clear hpa9 hv hb10 hk10 hB10)
        | (go_at_call 20; refine hal.mono ?_; rintro r w11 ⟨rfl, hk11⟩; have HB11 := hide (HB10.out.trans (hk11.below HB10.out.size (by simp))); clear hal hk11))
      go_ret
      exact ⟨rfl, HB11.out⟩
  · have HW : Hid (Below w.heap.size w w3 ∧ Kept [] w2 w3) := ⟨H3.out.1, H3.out.2.1⟩
    have HK3 : Hid (Kept [] w3 w3) := Kept.refl _ _
    go_upto_region 12 with (fail)
    obtain ⟨k, hk0, hkm⟩ : ∃ k : Nat, (if r0 < 0 then r0 + m else r0) = (k : Int) ∧ k < m := by
      refine ⟨(if r0 < 0 then r0 + m else r0).toNat, ?_, ?_⟩ <;> split <;> omega
    have hsK : Sl w3 ao2 (X.take k) := (H2.out.2.1.kept HW.out.2 (by simp)).take k
    obtain ⟨v9, w9, hrun9, ho9, hk9⟩ := run_freshB w3 (X.take k) ao2 k cap2 (by rw [List.length_take, HMX.out]; omega) hsK (fun h => ⟨by rw [(H2.out.2.2 h).1]; simp, (H2.out.2.2 h).2⟩) (by omega)
    obtain ⟨ao9, cap9, hv9, hlc9, hsl9, _, _, hnil9⟩ := ho9.shape
    have hl9 : (X.take k).length = k := by rw [List.length_take, HMX.out]; omega
    rw [hl9] at hv9
    subst hv9
    have hB9 : Below w.heap.size w w9 := HW.out.1.trans (hk9.below HW.out.1.size (by simp))
    have hpa9 := parse_ok ao9 k cap9 (X.take k) w9 hl9 (by omega) hsl9 hnil9 (HT.out.below hB9)
    rw [HX.out.2.2.2.2 k (by rw [HMX.out]; exact hkm)] at hpa9
    have cK := fun W => Tryd.cutTo W ao2 m cap2 k (by omega)
    have H9 : Hid (Below w.heap.size w w9 ∧ Kept [] w3 w9) := ⟨hB9, hk9⟩
    clear hsK ho9 hlc9 hsl9 hnil9 hl9 hB9 hk9
    by_cases hneg : r0 < 0
    · rw [if_pos hneg] at hk0
      go_wp2_with (first
        | refine wpList_app_run rfl (.tmp 58) (.tmp 61) 26 26 rfl (.slice (some ⟨w3.heap.size, 0, none⟩) 0 0) (.slice ao2 k cap2) rfl rfl (.slice ao9 k cap9) w9 hrun9 ?_
        | (go_at_call 18; refine hpa9.mono ?_; rintro r w10 ⟨⟨v, rfl, hv⟩, hb10⟩; obtain ⟨ao10, cap10, hv10, _⟩ := hv.ents; subst hv10; have hk10 : Kept [] w3 w10 := (HK3.out.trans H9.out.2 (by simp)).trans (Kept.of_below hb10) (by simp); have hB10 := H9.out.1.trans (hb10.mono H9.out.1.size); have hal := alike_any ao3 ao n cap3 n cap L L w10 hn hn (by omega) (H3.out.2.2.kept hk10 (by simp)) (HL.out.below hB10); rw [decide_eq_true (rfl : L = L)] at hal; have HB10 := hide hB10; clear hpa9 hv hb10 hk10 hB10)
        | (go_at_call 20; refine hal.mono ?_; rintro r w11 ⟨rfl, hk11⟩; have HB11 := hide (HB10.out.trans (hk11.below HB10.out.size (by simp))); clear hal hk11))
      go_ret
      exact ⟨rfl, HB11.out⟩
    · rw [if_neg hneg] at hk0
      subst hk0
      go_wp2_with (first
        | refine wpList_app_run rfl (.tmp 58) (.tmp 61) 26 26 rfl (.slice (some ⟨w3.heap.size, 0, none⟩) 0 0) (.slice ao2 k cap2) rfl rfl (.slice ao9 k cap9) w9 hrun9 ?_
        | (go_at_call 18; refine hpa9.mono ?_; rintro r w10 ⟨⟨v, rfl, hv⟩, hb10⟩; obtain ⟨ao10, cap10, hv10, _⟩ := hv.ents; subst hv10; have hk10 : Kept [] w3 w10 := (HK3.out.trans H9.out.2 (by simp)).trans (Kept.of_below hb10) (by simp); have hB10 := H9.out.1.trans (hb10.mono H9.out.1.size); have hal := alike_any ao3 ao n cap3 n cap L L w10 hn hn (by omega) (H3.out.2.2.kept hk10 (by simp)) (HL.out.below hB10); rw [decide_eq_true (rfl : L = L)] at hal; have HB10 := hide hB10; clear hpa9 hv hb10 hk10 hB10)
        | (go_at_call 20; refine hal.mono ?_; rintro r w11 ⟨rfl, hk11⟩; have HB11 := hide (HB10.out.trans (hk11.below HB10.out.size (by simp))); clear hal hk11))
      go_ret
      exact ⟨rfl, HB11.out⟩

theorem bounds64 {c : Int} (h : (Lit.int .i64 c).wf = true) : -9223372036854775808 ≤ c ∧ c ≤ 9223372036854775807 := by
  simp [Lit.wf, IntKind.min, IntKind.max, IntKind.bits, IntKind.signed] at h
  omega
theorem returns_walk (ao : Option Addr) (n cap : Nat) (mo : Option Addr) (mn mcap : Nat) (cut : Int) (L : List Ent) (ms : List UInt8) (w : World) (hT : Tabs w) (hL : L.length = n ∧ Ents w ao L ∧ n ≤ cap ∧ cap * 56 ≤ 140737488351232 ∧ (ao = none → n = 0 ∧ cap = 0)) (hM : InB w mo mn mcap ms) (hc : (Lit.int .i64 cut).wf = true) :
    Calls Tryd.prog 6 #[.slice ao n cap, .slice mo mn mcap, .int .i64 cut] w fun r w' => r = .returned (.bool true) ∧ Below w.heap.size w w' := by
  obtain ⟨h1, h2, h3, h4, _⟩ := hL
  by_cases ht : Tn.isTree L = true
  · exact returns_yes ao n cap mo mn mcap cut L ms w hT h1 h2 h3 h4 hM (bounds64 hc) ht
  · exact returns_no ao n cap mo mn mcap cut L w hT h1 h2 h3 h4 (by simpa using ht)

end Go.Proofs.YthjknkkjjpjhmaaDoor
