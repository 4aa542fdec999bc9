/-
  Contracts: table.inOrder, table.Valid.
-/
import Derived.Test.YtmhnjhnnaciokaaZh
import Derived.Shelf.SlSortCmp.NoneTotal
namespace Go.Proofs.Ytmhnjhnnaciokaa
open Go.Shelf Go.RowKit Go.Lib Go.Sort
set_option linter.unusedVariables false
set_option linter.unusedSimpArgs false

theorem sort_none (ao : Option Addr) (cap : Nat) (fv : Value) (w : World) :
    Calls Try.prog 47 #[.slice ao 0 cap, fv] w fun e w' => e = .returned (.tuple #[]) ∧ w' = w := AnyF.slices_SortFunc_none laySort ao cap fv w

set_option maxHeartbeats 800000 in
set_option maxRecDepth 100000 in
theorem compact_small (ao : Option Addr) (n cap : Nat) (fv : Value) (w : World) (h2 : n < 2) :
    Calls Try.prog 48 #[.slice ao n cap, fv] w fun e w' => e = .returned (.slice ao n cap) ∧ w' = w := by
  go_enter Try.func48, Try.ntmps48
  go_wp2
  go_ret
  exact ⟨rfl, rfl⟩

theorem compact_as (b cap n : Nat) (L : List Res) (w : World) (hn : L.length = n) (hL : Ress w (some ⟨b, 0, none⟩) L) (ht : w.there b 0 (n * 65)) (hm : n ≤ 4611686018427387904) (hc : n ≤ cap) (hc2 : cap ≤ 9223372036854775807) :
    Calls Try.prog 48 #[.slice (some ⟨b, 0, none⟩) n cap, .func (.func 49) #[] #[]] w fun e w' => ∃ m c, e = .returned (.slice (some ⟨b, 0, none⟩) m c) ∧ Kept [b] w w' ∧ (Tb.apart L → m = n ∧ Kept [] w w') ∧ (¬ Tb.apart L → m < n) := by
  refine (compact_ok b cap n L w hn hL ht hm hc hc2).mono ?_
  rintro e w' ⟨h1, h2, h3, h4⟩
  by_cases ha : Tb.apart L
  · exact ⟨n, cap, h2 ha, h1, fun _ => ⟨rfl, h3 ha⟩, fun h => absurd ha h⟩
  · obtain ⟨m, c, he, hlt⟩ := h4 ha
    exact ⟨m, c, he, h1, fun h => absurd h ha, fun _ => hlt⟩
theorem clone_as (ao : Option Addr) (n cap : Nat) (L : List Res) (w : World) (hn : L.length = n) (hL : Ress w ao L) (hw : Wao ao) (hm : n * 72 ≤ 140737488355328) (h0 : L ≠ []) :
    Calls Try.prog 46 #[.slice ao n cap] w fun e w' => ∃ g c, e = .returned (.slice (some ⟨g, 0, none⟩) n c) ∧ n ≤ c ∧ c ≤ 9223372036854775807 ∧ w.heap.size ≤ g ∧ g < w'.heap.size ∧ Ress w' (some ⟨g, 0, none⟩) L ∧ w'.there g 0 (n * 65) ∧ Kept [] w w' := by
  refine (clone_ok ao n cap L w hn hL hw hm).mono ?_
  rintro e w1 ⟨v, rfl, hO, hB⟩
  obtain ⟨bo, bc, hv, hbc, hR, hbo, hbm⟩ := hO.ress
  obtain ⟨g, o, hg, hgl, _⟩ := hR.open h0
  obtain ⟨g', eg, hbase, hgs, _⟩ := hbo _ hg
  subst hv hg
  cases eg
  subst hn
  obtain ⟨cur, hcur, _, _, _, hcs, _, _⟩ := hO.row
  exact ⟨g, bc, rfl, hbc, hbm, hbase, hgl, hR, there_row hcur 0 _ (by rw [hcs]; omega), Kept.of_below hB⟩
theorem clone_none (ao : Option Addr) (cap : Nat) (w : World) (hw : Wao ao) :
    Calls Try.prog 46 #[.slice ao 0 cap] w fun e w' => ∃ bo c, e = .returned (.slice bo 0 c) ∧ Kept [] w w' := by
  refine (clone_ok ao 0 cap [] w rfl (Ress.nil _ _) hw (by omega)).mono ?_
  rintro e w1 ⟨v, rfl, hO, hB⟩
  obtain ⟨bo, bc, hv, _⟩ := hO.ress
  exact ⟨bo, bc, by rw [hv]; rfl, Kept.of_below hB⟩
/-- What inOrder answers: as many results, and they are the same just if they were in order; or fewer. -/
def InO (w' : World) (L : List Res) (n : Nat) (bo : Option Addr) (m : Nat) : Prop :=
  (m = n ∧ ∃ M : List Res, M.length = n ∧ Ress w' bo M ∧ decide (L = M) = Tb.rise L) ∨ (m < n ∧ Tb.rise L = false)
set_option maxHeartbeats 1600000 in
set_option maxRecDepth 100000 in
theorem inOrder_ok (ao : Option Addr) (n cap : Nat) (L : List Res) (w : World) (hn : L.length = n) (hL : Ress w ao L) (hw : Wao ao) (hm : n ≤ 32) :
    Calls Try.prog 29 #[.slice ao n cap] w fun e w' => ∃ bo m c, e = .returned (.slice bo m c) ∧ Kept [] w w' ∧ InO w' L n bo m := by
  by_cases h0 : L = []
  · subst h0
    obtain rfl : n = 0 := hn.symm
    have hc := clone_none ao cap w hw
    go_enter Try.func29, Try.ntmps29
    go_wp2_with (first
      | (go_at_call 46; refine hc.mono ?_; rintro e w1 ⟨bo, bc, rfl, hB⟩; have HB := hide hB; clear hB hc)
      | (go_at_call 47; refine (sort_none _ _ _ _).mono ?_; rintro e w2 ⟨rfl, rfl⟩)
      | (go_at_call 48; refine (compact_small _ _ _ _ _ (by decide)).mono ?_; rintro e w3 ⟨rfl, rfl⟩))
    go_ret
    exact ⟨bo, 0, bc, rfl, HB.out, .inl ⟨rfl, [], rfl, Ress.nil _ _, rfl⟩⟩
  · have HN : Hid (L.length = n) := hn
    have hc := clone_as ao n cap L w hn hL hw (by omega) h0
    clear hL hw hn h0
    go_enter Try.func29, Try.ntmps29
    go_wp2_with (first
      | (go_at_call 46; refine hc.mono ?_; rintro e w1 ⟨g, bc, rfl, hbc, hbm, hbase, hgl, hR, hT, hk1⟩
         have HK1 := hide hk1
         have HR := hide hR
         have HT := hide hT
         have HG : Hid (w.heap.size ≤ g ∧ g < w1.heap.size) := ⟨hbase, hgl⟩
         clear hc hR hT hk1 hbase hgl)
      | (go_at_call 47; refine (sort_ok g bc n L w1 HN.out HR.out HT.out HG.out.2 (by omega)).mono ?_; rintro e w2 ⟨rfl, M, hp, hs, hR2, hT2, hk2⟩
         have HP : Hid (M.Perm L ∧ ∀ i j, i < j → j < M.length → Tb.cf (M.getD i res0) (M.getD j res0) ≤ 0) := ⟨hp, hs⟩
         have HM : Hid (M.length = n) := hp.length_eq.trans HN.out
         have HR2 := hide hR2
         have HT2 := hide hT2
         have HK2 := hide hk2
         clear hp hs hR2 hT2 hk2 HR HT)
      | (go_at_call 48; refine (compact_as g bc n M w2 HM.out HR2.out HT2.out (by omega) hbc hbm).mono ?_; rintro e w3 ⟨m, c, rfl, hk3, ha, hna⟩
         have HK3 : Hid (Kept [g] w2 w3) := hk3
         have HA := hide ha
         have HNA := hide hna
         clear hk3 ha hna))
    go_ret
    refine ⟨some ⟨g, 0, none⟩, m, c, rfl, ?_, ?_⟩
    · have hg := HG.out.1
      exact (HK1.out.trans HK2.out (by simp; omega)).trans HK3.out (by simp; omega)
    · by_cases ha : Tb.apart M
      · obtain ⟨rfl, hk⟩ := HA.out ha
        refine .inl ⟨rfl, M, HM.out, HR2.out.kept hk (by simp), ?_⟩
        by_cases hr : Tb.rise L = true
        · rw [hr, Tb.sorted_same HP.out.1 HP.out.2 hr]; simp
        · have : ¬ L = M := by
            rintro rfl
            exact hr (Tb.sorted_rise HP.out.2 ha)
          rw [decide_eq_false this]
          simpa using (Bool.eq_false_iff.2 hr).symm
      · refine .inr ⟨HNA.out ha, ?_⟩
        rw [Bool.eq_false_iff]
        intro hr
        have := Tb.sorted_same HP.out.1 HP.out.2 hr
        subst this
        exact ha (Tb.rise_apart hr)

set_option maxHeartbeats 1600000 in
set_option maxRecDepth 100000 in
theorem valid_ok (ao : Option Addr) (n cap : Nat) (L : List Res) (w : World) (hn : L.length = n) (hL : Ress w ao L) (hw : Wao ao) (hm : n ≤ 4611686018427387904) :
    Calls Try.prog 13 #[.slice ao n cap] w fun e w' => e = .returned (.bool (Tb.valid L)) ∧ Kept [] w w' := by
  have HV : Hid (Tb.valid L = (decide (n ≤ 32) && !(L.any Tb.noCode) && Tb.rise L)) := by show _ = _; unfold Tb.valid; rw [hn]
  by_cases h32 : n ≤ 32
  · have hcon := contains_ok ao n cap L w hn hL hm
    have hord : Hid (∀ w1, Kept [] w w1 → Calls Try.prog 29 #[.slice ao n cap] w1 fun e w' => ∃ bo m c, e = .returned (.slice bo m c) ∧ Kept [] w1 w' ∧ InO w' L n bo m) := fun w1 h => inOrder_ok ao n cap L w1 hn (hL.kept h (by simp)) hw h32
    have HL := hide hL
    have HN := hide hn
    obtain ⟨A, hA⟩ : ∃ A, L.any Tb.noCode = A := ⟨_, rfl⟩
    rw [hA] at hcon
    have HA := hide hA
    clear hL hn hA hw
    have n32 : ¬ (32 < (n : Int)) := by omega
    cases A with
    | true =>
      go_enter Try.func13, Try.ntmps13
      go_wp2_with (go_at_call 27; refine hcon.mono ?_; rintro e w1 ⟨rfl, hk1⟩)
      go_ret
      exact ⟨by rw [HV.out, HA.out]; simp, hk1⟩
    | false =>
      go_enter Try.func13, Try.ntmps13
      go_wp2_with (first
        | (go_at_call 27; refine hcon.mono ?_; rintro e w1 ⟨rfl, hk1⟩; have HK1 := hide hk1; clear hk1 hcon)
        | (go_at_call 29; refine (hord.out _ HK1.out).mono ?_; rintro e w2 ⟨bo, m, c, rfl, hk2, hi⟩; have HK2 := hide hk2; have HI := hide hi; clear hk2 hi)
        | (go_at_call 28
           have hq : Calls Try.prog 28 #[.slice ao n cap, .slice bo m c] w2 fun e w' => e = .returned (.bool (Tb.rise L)) ∧ Kept [] w2 w' := by
             rcases HI.out with ⟨rfl, M, hM, hR, hd⟩ | ⟨hlt, hr⟩
             · rw [← hd]
               exact equal_ok ao bo m cap m c L M w2 HN.out hM ((HL.out.kept HK1.out (by simp)).kept HK2.out (by simp)) hR (by omega) (by omega)
             · rw [hr]
               refine (equal_len ao bo n cap m c w2 (by omega)).mono ?_
               rintro e w' ⟨he, rfl⟩
               exact ⟨he, Kept.refl _ _⟩
           refine hq.mono ?_; rintro e w3 ⟨rfl, hk3⟩; have HK3 := hide hk3; clear hk3 hq))
      go_ret
      exact ⟨by rw [HV.out, HA.out]; simp [h32], (HK1.out.trans HK2.out (by simp)).trans HK3.out (by simp)⟩
  · have n32 : 32 < (n : Int) := by omega
    clear hL hn hw
    go_enter Try.func13, Try.ntmps13
    go_wp2
    go_ret
    exact ⟨by rw [HV.out]; simp [h32], Kept.refl _ _⟩
end Go.Proofs.Ytmhnjhnnaciokaa
