/-
  TreeParses: the walk.
-/
import Derived.Test.YthjknkkjjpjhmaaDoorOg
import Derived.Test.YthjknkkjjpjhmaaDoorOh
import Derived.Test.YthjknkkjjpjhmaaDoorOf
import Derived.Test.YthjknkkjjpjhmaaDoorNw
namespace Go.Proofs.YthjknkkjjpjhmaaDoor
open Go.RowKit
set_option linter.unusedVariables false
set_option linter.unusedSimpArgs false

/-- A row of bytes that may be written. -/
def RowY (w : World) (g : Nat) : Prop := ∃ cur, w.heap[g]? = some (.cells cur 5 (0, 0))
theorem RowY.kept {l : List Nat} {w w' : World} {g : Nat} (h : RowY w g) (hk : Kept l w w') (hn : g ∉ l) : RowY w' g := by
  obtain ⟨cur, h1⟩ := h
  exact ⟨cur, hk.heap h1 hn⟩
theorem RowY.free {w : World} {g : Nat} (h : RowY w g) (j : Nat) : w.frozen? ⟨g, j, none⟩ = false := by
  obtain ⟨cur, h1⟩ := h
  exact frozen_of_row _ _ _ _ _ h1
theorem RowY.setCell {w : World} {g : Nat} (h : RowY w g) (b o : Nat) (v : Value) : RowY (w.setCell ⟨b, o, none⟩ v) g := by
  obtain ⟨cur, h1⟩ := h
  by_cases hp : b = g
  · subst hp
    exact ⟨_, heap_setCell_same w b o _ _ _ h1⟩
  · exact ⟨cur, by rw [Below.heap_setCell _ _ _ _ (fun e => hp e.symm)]; exact h1⟩
theorem Sl.put {w : World} {g : Nat} {xs : List UInt8} (h : Sl w (some ⟨g, 0, none⟩) xs) {m : Nat} (hm : m < xs.length) (y : UInt8) : Sl (w.setCell ⟨g, m, none⟩ (.int .u8 y.toNat)) (some ⟨g, 0, none⟩) (xs.set m y) := by
  refine Sl.of (fun i hi => ?_)
  rw [List.length_set] at hi
  obtain ⟨_, _, e, hc⟩ := h i hi
  cases e
  rw [Nat.zero_add] at hc ⊢
  by_cases he : i = m
  · subst he
    rw [World.cell?_setCell_same _ _ _ hc]
    simp [List.getD, hi]
  · rw [World.cell?_setCell_other _ _ _ _ (by intro e; injection e with e1 e2; omega), hc]
    simp [List.getD, List.getElem?_set, Ne.symm he]
theorem OwnB.rowY {w : World} {base g n cap : Nat} {xs : List UInt8} (h : OwnB w base (.slice (some ⟨g, 0, none⟩) n cap) xs) : RowY w g := by
  rcases h.2 with ⟨h0, _⟩ | ⟨g', cap', cur, hv, hb, hg, _⟩
  · cases h0
  · cases hv
    exact ⟨cur, hg⟩
/-- What holds at the head of a round of TreeParses. -/
structure Tp (w wr : World) (ao : Option Addr) (c g n cap : Nat) (xs : List UInt8) : Prop where
  bel : Below w.heap.size w wr
  s1 : Sl wr ao xs
  cy : Cy wr g n cap xs
  rg : RowY wr g
  gb : w.heap.size ≤ g
  r1 : ∀ a, ao = some a → ∃ g1, a = ⟨g1, 0, none⟩ ∧ w.heap.size ≤ g1 ∧ g1 ≠ g ∧ RowY wr g1
  n1 : ao = none → n = 0 ∧ c = 0
  l1 : n ≤ c
theorem Tp.kept {w wr wr' : World} {ao : Option Addr} {c g n cap : Nat} {xs : List UInt8} (h : Tp w wr ao c g n cap xs) (hk : Kept [] wr wr') : Tp w wr' ao c g n cap xs :=
  ⟨h.bel.trans (hk.below h.bel.size (by simp)), h.s1.kept hk (by simp), h.cy.kept hk (by simp), h.rg.kept hk (by simp), h.gb, fun a ha => by obtain ⟨g1, e, h1, h2, h3⟩ := h.r1 a ha; exact ⟨g1, e, h1, h2, h3.kept hk (by simp)⟩, h.n1, h.l1⟩
/-- The last byte turned in both. -/
theorem Tp.next {w wr : World} {g1 c g m cap : Nat} {xs : List UInt8} (h : Tp w wr (some ⟨g1, 0, none⟩) c g (m + 1) cap xs) (y : UInt8) :
    Tp w ((wr.setCell ⟨g1, m, none⟩ (.int .u8 y.toNat)).setCell ⟨g, m, none⟩ (.int .u8 y.toNat)) (some ⟨g1, 0, none⟩) c g (m + 1) cap (xs.set m y) := by
  obtain ⟨g', e', hg1, hne, hr1⟩ := h.r1 _ rfl
  cases e'
  have hml : m < xs.length := by rw [h.cy.len]; omega
  have k1 : Kept [g1] wr (wr.setCell ⟨g1, m, none⟩ (.int .u8 y.toNat)) := (Kept.refl _ wr).setCell (by simp) _
  have a1 := h.s1.put hml y
  have a2 := h.cy.kept k1 (by simp; omega)
  have a3 := h.rg.setCell g1 m (.int .u8 y.toNat)
  have a4 := hr1.setCell g1 m (.int .u8 y.toNat)
  generalize wr.setCell ⟨g1, m, none⟩ (.int .u8 y.toNat) = W1 at *
  have k2 : Kept [g] W1 (W1.setCell ⟨g, m, none⟩ (.int .u8 y.toNat)) := (Kept.refl _ W1).setCell (by simp) _
  have k3 : Kept [g1, g] wr (W1.setCell ⟨g, m, none⟩ (.int .u8 y.toNat)) := (k1.mono (by simp)).trans k2 (by simp)
  refine ⟨h.bel.trans (k3.below h.bel.size (by have := h.gb; simp; omega)), a1.kept k2 (fun _ a ha => by cases ha; simp; omega), ⟨a2.sl.put hml y, fun i hi => ?_, by simp [h.cy.len], h.cy.cap⟩, a3.setCell _ _ _, h.gb, fun a ha => ?_, h.n1, h.l1⟩
  · rw [World.cell?_setCell_other _ _ _ _ (by intro e; injection e with e1 e2; omega)]
    exact a2.mks i hi
  · cases ha
    exact ⟨g1, rfl, hg1, hne, a4.setCell _ _ _⟩
theorem parse_small (xs : List UInt8) : ((Tn.parse xs).getD []).length ≤ 32 := by
  rcases hp : Tn.parse xs with _ | L
  · simp
  · exact Tn.isTree_len (Tn.parse_enc hp).2

set_option maxHeartbeats 6400000 in
set_option maxRecDepth 100000 in
theorem parses_walk (ao : Option Addr) (n cap : Nat) (xs : List UInt8) (w : World) (hT : Tabs w) (hin : InB w ao n cap xs) :
    Calls Tryd.prog 5 #[.slice ao n cap] w fun r w' => r = .returned (.bool true) ∧ Below w.heap.size w w' := by
  have hk := known_ok w hT
  have HT := hide hT
  have HI := hide hin
  have hcm := hin.max
  have hle := hin.le
  have hn := hin.len
  clear hT hin
  go_enter Tryd.func5, Tryd.ntmps5
  go_upto_region 3 with (go_at_call 9; refine hk.mono ?_; rintro r w1 ⟨rfl, hb1⟩; have HB1 := hide hb1; clear hk hb1)
  obtain ⟨v2, w2, hrun2, ho2, hk2⟩ := run_freshB w1 xs ao n cap hn (HI.out.sl.kept (Kept.of_below HB1.out) (by simp)) HI.out.nil (by omega)
  obtain ⟨ao2, c2, hv2, hlc2, hS2, hb2, _, hnil⟩ := ho2.shape
  have hB2 : Below w.heap.size w w2 := HB1.out.trans (hk2.below HB1.out.size (by simp))
  have hrw : ∀ a, ao2 = some a → ∃ g1, a = ⟨g1, 0, none⟩ ∧ w.heap.size ≤ g1 ∧ g1 < w2.heap.size ∧ RowY w2 g1 := fun a ha => by
    obtain ⟨g1, e, q1, q2, _⟩ := hb2 a ha
    subst e
    rw [hv2, ha] at ho2
    exact ⟨g1, rfl, Nat.le_trans HB1.out.size q1, q2, ho2.rowY⟩
  rw [hn] at hv2 hlc2
  subst hv2
  have hcp := roomy_ok ao2 n c2 xs w2 hn hS2 hnil (by omega)
  have H2 : Hid (Below w.heap.size w w2 ∧ Sl w2 ao2 xs ∧ (ao2 = none → n = 0 ∧ c2 = 0) ∧ ∀ a, ao2 = some a → ∃ g1, a = ⟨g1, 0, none⟩ ∧ w.heap.size ≤ g1 ∧ g1 < w2.heap.size ∧ RowY w2 g1) := ⟨hB2, hS2, fun h => by obtain ⟨q1, q2⟩ := hnil h; subst q1; exact ⟨by simpa using hn.symm, q2⟩, hrw⟩
  have HN := hide hn
  clear ho2 hk2 hS2 hb2 hB2 hnil hrw hn
  go_upto_region 5 with (first
    | refine wpList_app_run rfl (.tmp 12) (.tmp 13) 26 26 rfl (.slice (some ⟨w1.heap.size, 0, none⟩) 0 0) (.slice ao n cap) rfl rfl (.slice ao2 n c2) w2 hrun2 ?_
    | (go_at_call 17; refine hcp.mono ?_; rintro r w3 ⟨⟨g, gc, rfl, hO, hgc⟩, hk3⟩; have hfar := hO.far g rfl; have H3 : Hid (Tp w w3 ao2 c2 g n gc xs) := ⟨H2.out.1.trans (hk3.below H2.out.1.size (by simp)), H2.out.2.1.kept hk3 (by simp), cy_of hO HN.out hgc, hO.rowY, Nat.le_trans H2.out.1.size hfar.1, (fun a ha => by obtain ⟨g1, e, q1, q2, q3⟩ := H2.out.2.2.2 a ha; exact ⟨g1, e, q1, by omega, q3.kept hk3 (by simp)⟩), H2.out.2.2.1, hlc2⟩; clear hcp hO hk3 hfar))
  clear hrun2
  go_wp2_with (fail)
  go_loopw [5] (fun x wr => ∃ (i : Nat) (M : List UInt8), i ≤ 2 ∧ x = .int .i64 i ∧ Hid (Tp w wr ao2 c2 g n gc M)) (fun x wr => 2 - (intOf x).toNat)
  case atStart => exact ⟨0, xs, by omega, rfl, H3.out⟩
  case round =>
    obtain ⟨i, M, hi, rfl, HM⟩ := hrel
    by_cases hlt : i < 2
    · have hml := HM.out.cy.len
      have hl1 := HM.out.l1
      have hen := parse_ok (some ⟨g, 0, none⟩) n gc M wr hml (by omega) HM.out.cy.sl (by simp) (HT.out.below HM.out.bel)
      obtain ⟨cd, hcd⟩ : ∃ cd, Tn.code (Tn.parse M).isSome = cd := ⟨_, rfl⟩
      have hYl := parse_small M
      obtain ⟨Y, hY⟩ : ∃ Y, (Tn.parse M).getD [] = Y := ⟨_, rfl⟩
      have HY := hide (And.intro hY hcd)
      rw [hY] at hYl
      have ncd : (cd != cd) = false := by simp
      clear hY hcd
      go_upto_region 12 with (first
        | (go_at_call 18; refine hen.mono ?_; rintro r w4 ⟨⟨v, rfl, hv⟩, hb4⟩; rw [HY.out.1] at hv; rw [HY.out.2]; obtain ⟨ao4, c4, hv4, hlc4, hE4, _⟩ := hv.ents; subst hv4; have M4 := hide (HM.out.kept (Kept.of_below hb4)); have hre := refparse_ok ao2 n c2 M w4 hml (by omega) hl1 M4.out.s1; have S4 := hide hE4; clear hen hv hb4 hE4)
        | (go_at_call 19; refine hre.mono ?_; rintro r w5 ⟨⟨v, rfl, hv⟩, hb5⟩; rw [HY.out.1] at hv; rw [HY.out.2]; obtain ⟨ao5, c5, hv5, hlc5, hE5, _⟩ := hv.ents; subst hv5; have M5 := hide (M4.out.kept (Kept.of_below hb5)); have hsm := alike_any ao4 ao5 Y.length c4 Y.length c5 Y Y w5 rfl rfl (by omega) (S4.out.kept (Kept.of_below hb5) (by simp)) hE5; rw [decide_eq_true (rfl : Y = Y)] at hsm; clear hre hv hb5 hE5)
        | (go_at_call 20; refine hsm.mono ?_; rintro r w6 ⟨rfl, hk6⟩; have M6 := hide (M5.out.kept hk6); clear hsm hk6; have hwh := stands_ok g n gc M ao2 c2 w6 M6.out.cy M6.out.s1 (by omega))
        | (go_at_call 21; refine hwh.mono ?_; rintro r w7 ⟨rfl, hk7⟩; have M7 := hide (M6.out.kept hk7); clear hwh hk7))
      by_cases hz : n = 0
      · subst hz
        go_wp2
        go_roundw
        case rel => exact ⟨i + 1, M, by omega, by go_num, M7⟩
        case measure => simp [intOf]; omega
      · obtain ⟨m, rfl⟩ : ∃ m, n = m + 1 := ⟨n - 1, by omega⟩
        cases ao2 with
        | none => exact absurd (M7.out.n1 rfl).1 (by omega)
        | some a2 =>
        obtain ⟨g1, rfl, hg1, hgn, hr1⟩ := M7.out.r1 a2 rfl
        have hmk : m < M.length := by rw [hml]; omega
        have n1 : (0 : Int) < (m : Int) + 1 := by omega
        have n2 : ¬ ((m : Int) + 1 < 0) := by omega
        have n3 : ¬ ((m : Int) + 1 ≤ (m : Int)) := by omega
        have wm : IntKind.i64.wrap (m : Int) = m := by rw [IntKind.wrap_i64]; omega
        have cl : w7.cell? ⟨g1, m, none⟩ = some (.int .u8 (M.getD m 0).toNat) := by
          obtain ⟨_, _, e, hc⟩ := M7.out.s1 m hmk
          cases e
          rw [Nat.zero_add] at hc
          exact hc
        have cg : w7.cell? ⟨g, m, none⟩ = some (.int .u8 (M.getD m 0).toNat) := by
          obtain ⟨_, _, e, hc⟩ := M7.out.cy.sl m hmk
          cases e
          rw [Nat.zero_add] at hc
          exact hc
        have N8 := hide (M7.out.next (M.getD m 0 ^^^ 1))
        have fl := hr1.free m
        have fg := (M7.out.rg.setCell g1 m (.int .u8 (M.getD m 0 ^^^ 1).toNat)).free m
        have b8 := UInt8.toNat_lt (M.getD m 0)
        generalize M.getD m 0 = x at *
        have hxx : (x ^^^ 1).toNat = x.toNat ^^^ 1 := by simp
        have x1 := xor1_of x
        have cg1 : (w7.setCell ⟨g1, m, none⟩ (.int .u8 (x ^^^ 1).toNat)).cell? ⟨g, m, none⟩ = some (.int .u8 x.toNat) := by
          rw [World.cell?_setCell_other _ _ _ _ (by intro e; injection e with e1 e2; omega)]; exact cg
        have cl1 : (w7.setCell ⟨g1, m, none⟩ (.int .u8 (x ^^^ 1).toNat)).cell? ⟨g1, m, none⟩ = some (.int .u8 (x ^^^ 1).toNat) := World.cell?_setCell_same _ _ _ cl
        rw [hxx] at N8 x1 cg1 cl1 fg
        clear hxx cg M7
        go_upto_region 14 with (fail)
        clear cl fl x1
        generalize World.setCell w7 _ _ = W8 at N8 cg1 cl1 fg ⊢
        go_wp2
        go_roundw
        case rel => exact ⟨i + 1, _, by omega, by go_num, N8⟩
        case measure => simp [intOf]; omega
    · have HB := hide HM.out.bel
      go_wp2
      go_ret
      exact ⟨rfl, HB.out⟩
end Go.Proofs.YthjknkkjjpjhmaaDoor
