/-
  TreeTurned: the walk.
-/
import Derived.Test.YthjknkkjjpjhmaaDoorOb
namespace Go.Proofs.YthjknkkjjpjhmaaDoor
open Go.RowKit
set_option linter.unusedVariables false
set_option linter.unusedSimpArgs false

theorem Tn.isTree_valid {L : List Ent} (h : Tn.isTree L = true) {k : Nat} (hk : k < L.length) : Tn.valid (L.getD k ent0).name = true := by
  simp only [Tn.isTree, Bool.and_eq_true, decide_eq_true_eq, List.all_eq_true, List.mem_range] at h
  have := h.2 k hk
  simp only [Tn.right, Bool.and_eq_true] at this
  exact this.1.2
theorem Ents.oks {w : World} {ao : Option Addr} {L : List Ent} (h : Ents w ao L) : ∀ e ∈ L, EntOk e := fun e he => by
  obtain ⟨i, hi, rfl⟩ := List.getElem_of_mem he
  obtain ⟨_, _, _, _, h⟩ := h i hi
  simpa [List.getD, List.getElem?_eq_getElem hi] using h

set_option maxHeartbeats 6400000 in
set_option maxRecDepth 100000 in
theorem turned_walk (ao : Option Addr) (n cap : Nat) (how at_ kd : Int) (L : List Ent) (nm : List UInt8) (w : World) (hT : Tabs w) (hL : L.length = n ∧ Ents w ao L ∧ n ≤ cap ∧ cap * 56 ≤ 140737488351232 ∧ (ao = none → n = 0 ∧ cap = 0)) (hm : nm.length ≤ 4611686018427387904) (w1 : (Lit.int .i64 how).wf = true) (w2 : (Lit.int .i64 at_).wf = true) (w4 : (Lit.int .i64 kd).wf = true) :
    Calls Tryd.prog 8 #[.slice ao n cap, .int .i64 how, .int .i64 at_, .string ⟨nm.toArray⟩, .int .i64 kd] w fun r w' => r = .returned (.bool true) ∧ Below w.heap.size w w' := by
  have hk := known_ok w hT
  have HT := hide hT
  have HL := hide hL
  have hbd := bounds64 w2
  have HW4 := hide w4
  clear hT hL w1 w2 w4
  go_enter Tryd.func8, Tryd.ntmps8
  go_upto_region 4 with (first
    | (go_at_call 9; refine hk.mono ?_; rintro r v1 ⟨rfl, hb1⟩; have htu := turned_ok ao n cap how at_ nm kd L v1 HL.out.1 (HL.out.2.1.below hb1) HL.out.2.2.1 HL.out.2.2.2.1 HL.out.2.2.2.2 hm HW4.out hbd; have HB1 := hide hb1; clear hk hb1)
    | (go_at_call 23; refine htu.mono ?_; rintro r v2 ⟨⟨ao2, n2, cap2, L2, rfl, hn2, hE2, hlc2, hm2, hnil2⟩, hb2⟩; have H2 : Hid (Below w.heap.size w v2 ∧ Ents v2 ao2 L2) := ⟨HB1.out.trans (hb2.mono HB1.out.size), hE2⟩; clear htu hb2 hE2))
  have hen := encode_ok ao2 n2 cap2 L2 v2 hn2 hlc2 hm2 H2.out.2 (HT.out.below H2.out.1)
  by_cases ht : Tn.isTree L2 = true
  · obtain ⟨hl2, hl2114⟩ := Tn.encT_len H2.out.2.oks ht
    have he : Tn.encd L2 = Tn.encT L2 := by simp [Tn.encd, ht]
    obtain ⟨X, hX⟩ : ∃ X, Tn.encT L2 = X := ⟨_, rfl⟩
    rw [ht, he, hX] at hen
    rw [hX] at hl2 hl2114
    have HX : Hid (Tn.isTree L2 = true ∧ Tn.parse X = some L2) := ⟨ht, by rw [← hX]; exact Tn.enc_parse H2.out.2.oks ht⟩
    clear ht he hX
    go_upto_region 7 with (first
      | (go_at_call 13; refine hen.mono ?_; rintro r v3 ⟨⟨v, rfl, hv⟩, hb3⟩; obtain ⟨ao3, cap3, hv3, hlc3, hsl3, _, hcm3, hnil3⟩ := OwnB.shape hv; subst hv3; have hB3 := H2.out.1.trans (hb3.mono H2.out.1.size); have his := is_ok ao2 n2 cap2 L2 v3 hn2 (by omega) (H2.out.2.below hb3); rw [HX.out.1] at his; have H3 : Hid (Below w.heap.size w v3 ∧ Ents v3 ao2 L2 ∧ Sl v3 ao3 X ∧ (ao3 = none → X = [] ∧ cap3 = 0)) := ⟨hB3, H2.out.2.below hb3, hsl3, hnil3⟩; clear hen hv hb3 hB3 hsl3 hnil3)
      | (go_at_call 22; refine his.mono ?_; rintro r v4 ⟨rfl, hb4⟩; have H4 : Hid (Below w.heap.size w v4 ∧ Kept [] v3 v4) := ⟨H3.out.1.trans (hb4.mono H3.out.1.size), Kept.of_below hb4⟩; clear his hb4))
    go_wp2_with (fail)
    go_loopw [14] (fun x wr => ∃ k : Nat, k ≤ n2 ∧ x = .int .i64 k ∧ Hid (Below w.heap.size w wr ∧ Kept [] v3 wr)) (fun x wr => n2 - (intOf x).toNat)
    case atStart => exact ⟨0, Nat.zero_le _, rfl, H4.out⟩
    case round =>
      obtain ⟨k, hkk, rfl, HR⟩ := hrel
      by_cases hlt : k < n2
      · have hkl : k < L2.length := by rw [hn2]; exact hlt
        obtain ⟨b, off, hao, hrg, hok⟩ := H3.out.2.1 k hkl
        subst hao
        have hva := valid_ok (L2.getD k ent0).name wr hok.nam (HT.out.below HR.out.1)
        rw [Tn.isTree_valid HX.out.1 hkl] at hva
        have c0 := HR.out.2.cellOf (hrg 0 _ rfl) (by simp)
        simp only [Nat.add_zero] at c0
        generalize (L2.getD k ent0).name = nk at *
        clear hrg hok
        go_wp2_with (go_at_call 10; refine hva.mono ?_; rintro r v5 ⟨rfl, hb5⟩; have HR5 : Hid (Below w.heap.size w v5 ∧ Kept [] v3 v5) := ⟨HR.out.1.trans (hb5.mono HR.out.1.size), HR.out.2.trans (Kept.of_below hb5) (by simp)⟩; clear hva hb5)
        go_roundw
        case rel => exact ⟨k + 1, by omega, by go_num, HR5⟩
        case measure => simp [intOf]; omega
      · have hpa := parse_ok ao3 X.length cap3 X wr rfl (by omega) (H3.out.2.2.1.kept HR.out.2 (by simp)) H3.out.2.2.2 (HT.out.below HR.out.1)
        rw [HX.out.2] at hpa
        go_wp2_with (first
          | (go_at_call 18; refine hpa.mono ?_; rintro r v6 ⟨⟨v, rfl, hv⟩, hb6⟩; obtain ⟨ao6, cap6, hv6, hlc6, hE6, _, _⟩ := hv.ents; subst hv6; have hB6 := HR.out.1.trans (hb6.mono HR.out.1.size); have hal := alike_any ao6 ao2 n2 cap6 n2 cap2 L2 L2 v6 hn2 hn2 (by omega) hE6 (H3.out.2.1.kept (HR.out.2.trans (Kept.of_below hb6) (by simp)) (by simp)); rw [decide_eq_true (rfl : L2 = L2)] at hal; have HB6 := hide hB6; clear hpa hv hb6 hB6 hE6)
          | (go_at_call 20; refine hal.mono ?_; rintro r v7 ⟨rfl, hk7⟩; have HB7 := hide (HB6.out.trans (hk7.below HB6.out.size (by simp))); clear hal hk7))
        go_ret
        exact ⟨rfl, HB7.out⟩
  · have ht' : Tn.isTree L2 = false := by simpa using ht
    have he : Tn.encd L2 = [] := by simp [Tn.encd, ht']
    rw [ht', he] at hen
    have HX := hide ht'
    clear ht ht' he
    go_wp2_with (first
      | (go_at_call 13; refine hen.mono ?_; rintro r v3 ⟨⟨v, rfl, hv⟩, hb3⟩; obtain ⟨ao3, cap3, hv3, _⟩ := OwnB.shape hv; subst hv3; have hB3 := H2.out.1.trans (hb3.mono H2.out.1.size); have his := is_ok ao2 n2 cap2 L2 v3 hn2 (by omega) (H2.out.2.below hb3); rw [HX.out] at his; have HB3 := hide hB3; clear hen hv hb3 hB3)
      | (go_at_call 22; refine his.mono ?_; rintro r v4 ⟨rfl, hb4⟩; have HB4 := hide (HB3.out.trans (hb4.mono HB3.out.size)); clear his hb4))
    go_ret
    exact ⟨rfl, HB4.out⟩
end Go.Proofs.YthjknkkjjpjhmaaDoor
