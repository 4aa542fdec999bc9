/-
  TreeEncodes: the walk. (Written by tools/of.py.)
-/
import Derived.Test.YthjknkkjjpjhmaaDoorOe
namespace Go.Proofs.YthjknkkjjpjhmaaDoor
open Go.RowKit
set_option linter.unusedVariables false
set_option linter.unusedSimpArgs false

/-- A row of entries that may be written. -/
def RowE (w : World) (g cap : Nat) : Prop := ∃ cur, w.heap[g]? = some (.cells cur 37 (0, 0)) ∧ cur.size = cap * 34
theorem RowE.kept {l : List Nat} {w w' : World} {g cap : Nat} (h : RowE w g cap) (hk : Kept l w w') (hn : g ∉ l) : RowE w' g cap := by
  obtain ⟨cur, h1, h2⟩ := h
  exact ⟨cur, hk.heap h1 hn, h2⟩
theorem RowE.free {w : World} {g cap : Nat} (h : RowE w g cap) (j : Nat) : w.frozen? ⟨g, j, none⟩ = false := by
  obtain ⟨cur, h1, _⟩ := h
  exact frozen_of_row _ _ _ _ _ h1
theorem RowE.setCell {w : World} {g cap : Nat} (h : RowE w g cap) (b o : Nat) (v : Value) : RowE (w.setCell ⟨b, o, none⟩ v) g cap := by
  obtain ⟨cur, h1, h2⟩ := h
  by_cases hp : b = g
  · subst hp
    exact ⟨_, heap_setCell_same w b o _ _ _ h1, by simp [h2]⟩
  · exact ⟨cur, by rw [Below.heap_setCell _ _ _ _ (fun e => hp e.symm)]; exact h1, h2⟩
theorem RowE.setCells {g cap : Nat} (b : Nat) : ∀ (vs : List Value) (o : Nat) (w : World), RowE w g cap → RowE (w.setCells b o vs) g cap
  | [], _, _, h => h
  | v :: r, o, w, h => by
    rw [World.setCells]
    exact RowE.setCells b r (o + 1) _ (h.setCell b o v)
theorem RowE.there {w : World} {g cap : Nat} (h : RowE w g cap) (o m : Nat) (hm : o + m ≤ cap * 34) : w.there g o m := by
  obtain ⟨cur, h1, h2⟩ := h
  exact there_row h1 o m (by omega)
/-- The entry with its last byte turned. -/
def flip (e : Ent) : Ent := ⟨e.name, e.kind, e.id.set 31 (e.id.getD 31 0 ^^^ 1)⟩
theorem flip_ok {e : Ent} (h : EntOk e) : EntOk (flip e) := ⟨by simp [flip, h.idl], h.nam, h.kin⟩
theorem flip_cells (e : Ent) : (flip e).cells = e.cells.set 33 (.int .u8 (e.id.getD 31 0 ^^^ 1).toNat) := by
  simp only [flip, Ent.cells, List.set_cons_succ, bys_set]
theorem flip_at {e : Ent} {j : Nat} (hj : j ≠ 33) : (flip e).cells[j]? = e.cells[j]? := by
  rw [flip_cells, List.getElem?_set]
  simp [Ne.symm hj]
theorem Ents.flip {w : World} {g : Nat} {L : List Ent} (h : Ents w (some ⟨g, 0, none⟩) L) {k : Nat} (hk : k < L.length) : Ents (w.setCell ⟨g, k * 34 + 33, none⟩ (.int .u8 ((L.getD k ent0).id.getD 31 0 ^^^ 1).toNat)) (some ⟨g, 0, none⟩) (L.set k (Go.Proofs.YthjknkkjjpjhmaaDoor.flip (L.getD k ent0))) := by
  obtain ⟨_, _, hx, hc, hok⟩ := h k hk
  cases hx
  rw [Nat.zero_add] at hc
  refine h.turn hk (flip_ok hok) (fun j v hv => ?_) (fun o ho => World.cell?_setCell_other _ _ _ _ (by intro e; injection e with e1 e2; omega))
  by_cases hj : j = 33
  · subst hj
    have h33 : (L.getD k ent0).cells[33]? = some (.int .u8 ((L.getD k ent0).id.getD 31 0).toNat) := by
      simp only [Ent.cells, List.getElem?_cons_succ]
      exact bys_at (by rw [hok.idl]; omega)
    rw [flip_cells, List.getElem?_set] at hv
    rw [if_pos rfl, if_pos (by rw [hok.len]; omega)] at hv
    cases hv
    exact World.cell?_setCell_same _ _ _ (hc 33 _ h33)
  · rw [World.cell?_setCell_other _ _ _ _ (by intro e; injection e with e1 e2; omega)]
    rw [flip_at hj] at hv
    exact hc j v hv
theorem Ents.ids {w : World} {g : Nat} {L : List Ent} (h : Ents w (some ⟨g, 0, none⟩) L) {k : Nat} (hk : k < L.length) (I : List UInt8) (hI : I.length = 32) (ht : w.there g (k * 34 + 2) 32) : Ents (w.setCells g (k * 34 + 2) (bys I)) (some ⟨g, 0, none⟩) (L.set k ⟨(L.getD k ent0).name, (L.getD k ent0).kind, I⟩) := by
  obtain ⟨_, _, hx, hc, hok⟩ := h k hk
  cases hx
  rw [Nat.zero_add] at hc
  have hl : (bys I).length = 32 := by rw [bys_length, hI]
  refine h.turn hk ⟨hI, hok.nam, hok.kin⟩ (fun j v hv => ?_) (fun o ho => World.cell?_setCells_out g (bys I) _ w ⟨g, o, none⟩ (fun _ _ => by rw [hl]; show o < k * 34 + 2 ∨ k * 34 + 2 + 32 ≤ o; omega))
  match j, hv with
  | 0, hv =>
    rw [World.cell?_setCells_out g (bys I) _ w ⟨g, k * 34 + 0, none⟩ (fun _ _ => by left; show k * 34 + 0 < _; omega)]
    exact hc 0 v hv
  | 1, hv =>
    rw [World.cell?_setCells_out g (bys I) _ w ⟨g, k * 34 + 1, none⟩ (fun _ _ => by left; show k * 34 + 1 < _; omega)]
    exact hc 1 v hv
  | j + 2, hv =>
    have hr := World.rangeAt_setCells_same w g (k * 34 + 2) (bys I) (by rw [hl]; exact ht) j v (by simpa [Ent.cells] using hv)
    rw [show k * 34 + (j + 2) = k * 34 + 2 + j by omega]
    exact hr
/-- What holds at the head of a round of TreeEncodes. -/
structure Te (w wr : World) (ao : Option Addr) (c g n cap : Nat) (L : List Ent) : Prop where
  bel : Below w.heap.size w wr
  e1 : Ents wr ao L
  cq : Cq wr g n cap L
  rg : RowE wr g cap
  gb : w.heap.size ≤ g
  r1 : ∀ a, ao = some a → ∃ g1, a = ⟨g1, 0, none⟩ ∧ w.heap.size ≤ g1 ∧ g1 ≠ g ∧ RowE wr g1 c
  n1 : ao = none → n = 0 ∧ c = 0
  l1 : n ≤ c
theorem Te.kept {w wr wr' : World} {ao : Option Addr} {c g n cap : Nat} {L : List Ent} (h : Te w wr ao c g n cap L) (hk : Kept [] wr wr') : Te w wr' ao c g n cap L :=
  ⟨h.bel.trans (hk.below h.bel.size (by simp)), h.e1.kept hk (by simp), h.cq.kept hk (by simp), h.rg.kept hk (by simp), h.gb, fun a ha => by obtain ⟨g1, e, h1, h2, h3⟩ := h.r1 a ha; exact ⟨g1, e, h1, h2, h3.kept hk (by simp)⟩, h.n1, h.l1⟩
/-- The last id turned in both. -/
theorem Te.next {w wr : World} {g1 c g n cap k : Nat} {L : List Ent} (h : Te w wr (some ⟨g1, 0, none⟩) c g n cap L) (hk : k < n) (hn : n = k + 1) :
    Te w ((wr.setCell ⟨g1, k * 34 + 33, none⟩ (.int .u8 ((L.getD k ent0).id.getD 31 0 ^^^ 1).toNat)).setCells g (k * 34 + 2) (bys (flip (L.getD k ent0)).id)) (some ⟨g1, 0, none⟩) c g n cap (L.set k (flip (L.getD k ent0))) := by
  obtain ⟨g', e', hg1, hne, hr1⟩ := h.r1 _ rfl
  cases e'
  have hkl : k < L.length := by rw [h.cq.len]; exact hk
  have hok : EntOk (L.getD k ent0) := by obtain ⟨_, _, _, _, q⟩ := h.e1 k hkl; exact q
  have hcap := h.cq.cap
  have k1 : Kept [g1] wr (wr.setCell ⟨g1, k * 34 + 33, none⟩ (.int .u8 ((L.getD k ent0).id.getD 31 0 ^^^ 1).toNat)) := (Kept.refl _ wr).setCell (by simp) _
  have a1 := h.e1.flip hkl
  have a2 := h.cq.kept k1 (by simp; omega)
  have a3 := h.rg.setCell g1 (k * 34 + 33) (.int .u8 ((L.getD k ent0).id.getD 31 0 ^^^ 1).toNat)
  have a4 := hr1.setCell g1 (k * 34 + 33) (.int .u8 ((L.getD k ent0).id.getD 31 0 ^^^ 1).toNat)
  generalize wr.setCell ⟨g1, k * 34 + 33, none⟩ (.int .u8 ((L.getD k ent0).id.getD 31 0 ^^^ 1).toNat) = W1 at *
  have hI : (flip (L.getD k ent0)).id.length = 32 := (flip_ok hok).idl
  have hth : W1.there g (k * 34 + 2) 32 := a3.there _ _ (by have := Nat.mul_le_mul_right 34 hcap; omega)
  have k2 : Kept [g] W1 (W1.setCells g (k * 34 + 2) (bys (flip (L.getD k ent0)).id)) := kept_setCells (by simp) _ _ _ (Kept.refl _ _)
  have k3 : Kept [g1, g] wr (W1.setCells g (k * 34 + 2) (bys (flip (L.getD k ent0)).id)) := (k1.mono (by simp)).trans k2 (by simp)
  refine ⟨h.bel.trans (k3.below h.bel.size (by have := h.gb; simp; omega)), a1.kept k2 (fun _ a ha => by cases ha; simp; omega), ⟨a2.ents.ids hkl _ hI hth, fun i hi => ?_, by simp [h.cq.len], hcap⟩, RowE.setCells g _ _ _ a3, h.gb, fun a ha => ?_, h.n1, h.l1⟩
  · refine World.rangeAt_setCells_apart (a2.mks i hi) g _ _ (.inr (.inr ?_))
    rw [bys_length, hI]
    have : k + 1 ≤ n + i := by omega
    have := Nat.mul_le_mul_right 34 this
    omega
  · cases ha
    exact ⟨g1, rfl, hg1, hne, RowE.setCells g _ _ _ a4⟩
theorem xor1 : ∀ n : Nat, n < 256 → bits .xor .u8 (n : Int) 1 = ((UInt8.ofNat n ^^^ 1).toNat : Int) := by decide +kernel
theorem xor1_of (x : UInt8) : bits .xor .u8 (x.toNat : Int) 1 = ((x ^^^ 1).toNat : Int) := by
  have := xor1 x.toNat (UInt8.toNat_lt x)
  simpa using this
theorem Ents.oks' {w : World} {ao : Option Addr} {L : List Ent} (h : Ents w ao L) : ∀ e ∈ L, EntOk e := fun e he => by
  obtain ⟨i, hi, rfl⟩ := List.getElem_of_mem he
  obtain ⟨_, _, _, _, h⟩ := h i hi
  simpa [List.getD, List.getElem?_eq_getElem hi] using h

set_option maxHeartbeats 6400000 in
set_option maxRecDepth 100000 in
theorem encodes_walk (ao : Option Addr) (n cap : Nat) (L : List Ent) (w : World) (hT : Tabs w) (hL : L.length = n ∧ Ents w ao L ∧ n ≤ cap ∧ cap * 56 ≤ 140737488351232 ∧ (ao = none → n = 0 ∧ cap = 0)) :
    Calls Tryd.prog 4 #[.slice ao n cap] w fun r w' => r = .returned (.bool true) ∧ Below w.heap.size w w' := by
  have hk := known_ok w hT
  have HT := hide hT
  obtain ⟨hn, hE, hnc, hcm, h0⟩ := hL
  have HE := hide hE
  clear hT hE
  go_enter Tryd.func4, Tryd.ntmps4
  go_upto_region 3 with (go_at_call 9; refine hk.mono ?_; rintro r w1 ⟨rfl, hb1⟩; have HB1 := hide hb1; clear hk hb1)
  obtain ⟨v2, w2, hrun2, ho2, hk2⟩ := run_freshE w1 L ao n cap hn (HE.out.below HB1.out) h0 (by omega)
  obtain ⟨ao2, c2, hv2, hlc2, hE2, hb2, _⟩ := ho2.ents
  have hB2 : Below w.heap.size w w2 := HB1.out.trans (hk2.below HB1.out.size (by simp))
  have hnil : ao2 = none → n = 0 ∧ c2 = 0 := fun h => by
    rcases ho2.1.2 with ⟨q1, q2⟩ | ⟨g, c, cur, hv, _⟩
    · rw [hv2] at q1; injection q1 with q3 q4 q5; exact ⟨by omega, q5⟩
    · rw [hv2] at hv; injection hv with q1 q2 q3; rw [h] at q1; cases q1
  have hrw : ∀ a, ao2 = some a → ∃ g1, a = ⟨g1, 0, none⟩ ∧ w.heap.size ≤ g1 ∧ g1 < w2.heap.size ∧ RowE w2 g1 c2 := fun a ha => by
    obtain ⟨g1, e, q1, q2, _⟩ := hb2 a ha
    subst e
    rw [hv2, ha] at ho2
    obtain ⟨cur, h1, _, h3⟩ := OwnE.row ho2
    exact ⟨g1, rfl, Nat.le_trans HB1.out.size q1, q2, cur, h1, h3⟩
  rw [hn] at hv2 hlc2
  subst hv2
  have hcp := copied_ok ao2 n c2 L w2 hn hE2 hnil (by omega)
  have H2 : Hid (Below w.heap.size w w2 ∧ Ents w2 ao2 L ∧ (ao2 = none → n = 0 ∧ c2 = 0) ∧ ∀ a, ao2 = some a → ∃ g1, a = ⟨g1, 0, none⟩ ∧ w.heap.size ≤ g1 ∧ g1 < w2.heap.size ∧ RowE w2 g1 c2) := ⟨hB2, hE2, hnil, hrw⟩
  clear ho2 hk2 hE2 hb2 hB2 hnil hrw
  go_upto_region 5 with (first
    | refine wpList_app_run rfl (.tmp 12) (.tmp 13) 24 24 rfl (.slice (some ⟨w1.heap.size, 0, none⟩) 0 0) (.slice ao n cap) rfl rfl (.slice ao2 n c2) w2 hrun2 ?_
    | (go_at_call 12; refine hcp.mono ?_; rintro r w3 ⟨⟨g, gc, rfl, hC⟩, hk3⟩; have H3 : Hid (Te w w3 ao2 c2 g n gc L) := ⟨H2.out.1.trans (hk3.below H2.out.1.size (by simp)), H2.out.2.1.kept hk3 (by simp), hC.cq, (by obtain ⟨cur, q1, q2, q3⟩ := OwnE.row hC.1; exact ⟨cur, q1, q3⟩), Nat.le_trans H2.out.1.size hC.far.1, (fun a ha => by obtain ⟨g1, e, q1, q2, q3⟩ := H2.out.2.2.2 a ha; exact ⟨g1, e, q1, by have := hC.far.1; omega, q3.kept hk3 (by simp)⟩), H2.out.2.2.1, hlc2⟩; clear hcp hC hk3))
  clear hrun2
  go_wp2_with (fail)
  go_loopw [5] (fun x wr => ∃ (i : Nat) (M : List Ent), i ≤ 2 ∧ x = .int .i64 i ∧ Hid (Te w wr ao2 c2 g n gc M)) (fun x wr => 2 - (intOf x).toNat)
  case atStart => exact ⟨0, L, by omega, rfl, H3.out⟩
  case round =>
    obtain ⟨i, M, hi, rfl, HM⟩ := hrel
    by_cases hlt : i < 2
    · have hgc := HM.out.cq.cap
      have hml := HM.out.cq.len
      have hen := encode_ok (some ⟨g, 0, none⟩) n gc M wr hml (by omega) (by omega) HM.out.cq.ents (HT.out.below HM.out.bel)
      obtain ⟨cd, hcd⟩ : ∃ cd, Tn.code (Tn.isTree M) = cd := ⟨_, rfl⟩
      obtain ⟨Y, hY⟩ : ∃ Y, Tn.encd M = Y := ⟨_, rfl⟩
      have HY := hide (And.intro hY hcd)
      have hYl : Y.length ≤ 4611686018427387904 := by
        rw [← hY]; unfold Tn.encd; split
        · rename_i ht; have := (Tn.encT_len HM.out.cq.ents.oks' ht).2; omega
        · simp
      have ncd : (cd != cd) = false := by simp
      clear hY hcd
      go_upto_region 12 with (first
        | (go_at_call 13; refine hen.mono ?_; rintro r w4 ⟨⟨v, rfl, hv⟩, hb4⟩; rw [HY.out.1] at hv; rw [HY.out.2]; obtain ⟨ao4, c4, hv4, hlc4, hsl4, _⟩ := OwnB.shape hv; subst hv4; have M4 := hide (HM.out.kept (Kept.of_below hb4)); have hre := refencode_ok ao2 n c2 M w4 hml (by omega) M4.out.e1; have S4 := hide hsl4; clear hen hv hb4 hsl4)
        | (go_at_call 14; refine hre.mono ?_; rintro r w5 ⟨⟨v, rfl, hv⟩, hb5⟩; rw [HY.out.1] at hv; rw [HY.out.2]; obtain ⟨ao5, c5, hv5, hlc5, hsl5, _⟩ := OwnB.shape hv; subst hv5; have M5 := hide (M4.out.kept (Kept.of_below hb5)); have hsm := same_any ao4 ao5 Y.length c4 Y.length c5 Y Y w5 rfl rfl hYl (S4.out.kept (Kept.of_below hb5) (by simp)) hsl5; rw [decide_eq_true (rfl : Y = Y)] at hsm; clear hre hv hb5 hsl5)
        | (go_at_call 15; refine hsm.mono ?_; rintro r w6 ⟨rfl, m6, rfl⟩; have M6 := hide (M5.out.kept ((Kept.refl [] w5).drewN m6)); clear hsm; generalize World.drewN w5 m6 = w6 at M6 ⊢; have hwh := whole_ok g n gc M ao2 c2 w6 M6.out.cq M6.out.e1 (by omega))
        | (go_at_call 16; refine hwh.mono ?_; rintro r w7 ⟨rfl, hk7⟩; have M7 := hide (M6.out.kept hk7); clear hwh hk7))
      by_cases hz : n = 0
      · subst hz
        go_wp2
        go_roundw
        case rel => exact ⟨i + 1, M, by omega, by go_num, M7⟩
        case measure => simp [intOf]; omega
      · obtain ⟨m, rfl⟩ : ∃ m, n = m + 1 := ⟨n - 1, by omega⟩
        cases ao2 with
        | none => exact absurd (M7.out.n1 rfl).1 (by omega)
        | some a2 =>
        obtain ⟨g1, rfl, hg1, hgn, _⟩ := M7.out.r1 a2 rfl
        have hmk : m < M.length := by rw [hml]; omega
        have n1 : (0 : Int) < (m : Int) + 1 := by omega
        have n2 : ¬ ((m : Int) + 1 < 0) := by omega
        have n3 : ¬ ((m : Int) + 1 ≤ (m : Int)) := by omega
        have hl1 := M7.out.l1
        have wm : IntKind.i64.wrap (m : Int) = m := by rw [IntKind.wrap_i64]; omega
        go_upto_region 13 with (fail)
        refine wp_region_held_drew (S := fun w' => True) (by kernel_rfl) trivial (fun h0' => ?_)
        have M8 : Hid (Te w w7.drew (some ⟨g1, 0, none⟩) c2 g (m + 1) gc M) := M7.out.kept ((Kept.refl [] w7).drew)
        clear M7
        generalize World.drew w7 = v0 at M8 ⊢
        obtain ⟨g1', hge, _, _, hrow1⟩ := M8.out.r1 _ rfl
        cases hge
        obtain ⟨_, _, hx, hrm, hok⟩ := M8.out.e1 m hmk
        cases hx
        rw [Nat.zero_add] at hrm
        have N8 := hide (M8.out.next (k := m) (by omega) rfl)
        have HE8 := hide (M8.out.e1.flip hmk)
        have th8 := (M8.out.rg.setCell g1 (m * 34 + 33) (.int .u8 ((M.getD m ent0).id.getD 31 0 ^^^ 1).toNat)).there (m * 34 + 2) 32 (by have := Nat.mul_le_mul_right 34 hgc; omega)
        have c33 : v0.cell? ⟨g1, m * 34 + 33, none⟩ = some (.int .u8 ((M.getD m ent0).id.getD 31 0).toNat) := hrm 33 _ (by
          simp only [Ent.cells, List.getElem?_cons_succ]
          exact bys_at (by rw [hok.idl]; omega))
        have f33 := hrow1.free (m * 34 + 33)
        have rid : (v0.setCell ⟨g1, m * 34 + 33, none⟩ (.int .u8 ((M.getD m ent0).id.getD 31 0 ^^^ 1).toNat)).rangeAt g1 (m * 34 + 2) (bys (flip (M.getD m ent0)).id) := by
          obtain ⟨_, _, hx, hr2, _⟩ := HE8.out m (by simpa using hmk)
          cases hx
          have e1 : (M.set m (flip (M.getD m ent0))).getD m ent0 = flip (M.getD m ent0) := by simp [List.getD, hmk]
          rw [e1, Nat.zero_add] at hr2
          intro j v hv
          have := hr2 (j + 2) v (by simpa [Ent.cells] using hv)
          rw [show m * 34 + 2 + j = m * 34 + (j + 2) by omega]
          exact this
        have hI : (flip (M.getD m ent0)).id.length = 32 := (flip_ok hok).idl
        generalize flip (M.getD m ent0) = fe at *
        generalize hxg : (M.getD m ent0).id.getD 31 0 = x at *
        clear hxg hok hrm HE8
        have hxx : (x ^^^ 1).toNat = x.toNat ^^^ 1 := by simp
        rw [hxx] at N8 rid th8
        have il : (Tryd.prog.info? 35).map (·.size) = some (bys fe.id).length := by rw [bys_length, hI]; kernel_rfl
        have ia : (Tryd.prog.info? 35).map (·.size) = some (bys fe.id).toArray.size := by simp only [List.size_toArray, bys_length, hI]; kernel_rfl
        have hone : (bys fe.id).toArray.all (·.oneCell') = true := all_oneCell_toArray (bys_oneCell _)
        have th9 : (v0.setCell ⟨g1, m * 34 + 33, none⟩ (.int .u8 ((x.toNat ^^^ 1 : Nat) : Int))).there g (m * 34 + 2) (bys fe.id).toArray.size := by simp only [List.size_toArray, bys_length, hI]; exact th8
        have x1 := xor1_of x
        rw [hxx] at x1
        clear hxx th8
        refine wpAnyH_take (i := 0) (v := .slice (some ⟨g1, 0, none⟩) (m + 1) c2) rfl (by kernel_rfl) (by kernel_rfl) (by kernel_rfl) (fun _ _ _ h => h) (Or.inl ⟨by rfl, fun w hSw => by go_simp⟩) h0' ?_
        try simp only [List.getElem_toArray, List.getElem_cons_zero, List.getElem_cons_succ, Act.put, List.setIfInBounds_toArray, List.set_cons_zero, List.set_cons_succ]
        refine wpAnyH_take (i := 1) (v := .slice (some ⟨g, 0, none⟩) (m + 1) gc) rfl (by kernel_rfl) (by kernel_rfl) (by kernel_rfl) (fun _ _ _ h => h) (Or.inl ⟨by rfl, fun w hSw => by go_simp⟩) h0' ?_
        try simp only [List.getElem_toArray, List.getElem_cons_zero, List.getElem_cons_succ, Act.put, List.setIfInBounds_toArray, List.set_cons_zero, List.set_cons_succ]
        refine wpAnyH_take (i := 2) (v := .int .i64 ((m : Int) + 1)) rfl (by kernel_rfl) (by kernel_rfl) (by kernel_rfl) (fun _ _ _ h => h) (Or.inl ⟨by rfl, fun w hSw => by go_simp⟩) h0' ?_
        try simp only [List.getElem_toArray, List.getElem_cons_zero, List.getElem_cons_succ, Act.put, List.setIfInBounds_toArray, List.set_cons_zero, List.set_cons_succ]
        refine wpAnyH_take (i := 3) (v := .int .i64 m) rfl (by kernel_rfl) (by kernel_rfl) (by kernel_rfl) (fun _ _ _ h => h) (Or.inl ⟨by rfl, fun w hSw => by have c := wm; go_simp⟩) h0' ?_
        try simp only [List.getElem_toArray, List.getElem_cons_zero, List.getElem_cons_succ, Act.put, List.setIfInBounds_toArray, List.set_cons_zero, List.set_cons_succ]
        refine wpAnyH_take (i := 4) (v := .slice (some ⟨g1, 0, none⟩) (m + 1) c2) rfl (by kernel_rfl) (by kernel_rfl) (by kernel_rfl) (fun _ _ _ h => h) (Or.inl ⟨by rfl, fun w hSw => by go_simp⟩) h0' ?_
        try simp only [List.getElem_toArray, List.getElem_cons_zero, List.getElem_cons_succ, Act.put, List.setIfInBounds_toArray, List.set_cons_zero, List.set_cons_succ]
        refine wpAnyH_take (i := 5) (v := .slice (some ⟨g, 0, none⟩) (m + 1) gc) rfl (by kernel_rfl) (by kernel_rfl) (by kernel_rfl) (fun _ _ _ h => h) (Or.inl ⟨by rfl, fun w hSw => by go_simp⟩) h0' ?_
        try simp only [List.getElem_toArray, List.getElem_cons_zero, List.getElem_cons_succ, Act.put, List.setIfInBounds_toArray, List.set_cons_zero, List.set_cons_succ]
        refine wpAnyH_take (i := 6) (v := .int .i64 ((m : Int) + 1)) rfl (by kernel_rfl) (by kernel_rfl) (by kernel_rfl) (fun _ _ _ h => h) (Or.inl ⟨by rfl, fun w hSw => by go_simp⟩) h0' ?_
        try simp only [List.getElem_toArray, List.getElem_cons_zero, List.getElem_cons_succ, Act.put, List.setIfInBounds_toArray, List.set_cons_zero, List.set_cons_succ]
        refine wpAnyH_take (i := 7) (v := .int .i64 m) rfl (by kernel_rfl) (by kernel_rfl) (by kernel_rfl) (fun _ _ _ h => h) (Or.inl ⟨by rfl, fun w hSw => by have c := wm; go_simp⟩) h0' ?_
        try simp only [List.getElem_toArray, List.getElem_cons_zero, List.getElem_cons_succ, Act.put, List.setIfInBounds_toArray, List.set_cons_zero, List.set_cons_succ]
        refine wpAnyH_take (i := 8) (v := .pointer (some ⟨g1, m * 34, none⟩)) rfl (by kernel_rfl) (by kernel_rfl) (by kernel_rfl) (fun _ _ _ h => h) (Or.inl ⟨by rfl, fun w hSw => by have c := n3; go_simp⟩) h0' ?_
        try simp only [List.getElem_toArray, List.getElem_cons_zero, List.getElem_cons_succ, Act.put, List.setIfInBounds_toArray, List.set_cons_zero, List.set_cons_succ]
        refine wpAnyH_take (i := 9) (v := .pointer (some ⟨g1, m * 34 + 2, none⟩)) rfl (by kernel_rfl) (by kernel_rfl) (by kernel_rfl) (fun _ _ _ h => h) (Or.inl ⟨by rfl, fun w hSw => by go_simp⟩) h0' ?_
        try simp only [List.getElem_toArray, List.getElem_cons_zero, List.getElem_cons_succ, Act.put, List.setIfInBounds_toArray, List.set_cons_zero, List.set_cons_succ]
        refine wpAnyH_take (i := 10) (v := .pointer (some ⟨g1, m * 34 + 33, none⟩)) rfl (by kernel_rfl) (by kernel_rfl) (by kernel_rfl) (fun _ _ _ h => h) (Or.inl ⟨by rfl, fun w hSw => by go_simp⟩) h0' ?_
        try simp only [List.getElem_toArray, List.getElem_cons_zero, List.getElem_cons_succ, Act.put, List.setIfInBounds_toArray, List.set_cons_zero, List.set_cons_succ]
        refine wpAnyH_take (i := 13) (v := .pointer (some ⟨g1, m * 34, none⟩)) rfl (by kernel_rfl) (by kernel_rfl) (by kernel_rfl) (fun _ _ _ h => h) (Or.inl ⟨by rfl, fun w hSw => by have c := n3; go_simp⟩) h0' ?_
        try simp only [List.getElem_toArray, List.getElem_cons_zero, List.getElem_cons_succ, Act.put, List.setIfInBounds_toArray, List.set_cons_zero, List.set_cons_succ]
        refine wpAnyH_take (i := 14) (v := .pointer (some ⟨g1, m * 34 + 2, none⟩)) rfl (by kernel_rfl) (by kernel_rfl) (by kernel_rfl) (fun _ _ _ h => h) (Or.inl ⟨by rfl, fun w hSw => by go_simp⟩) h0' ?_
        try simp only [List.getElem_toArray, List.getElem_cons_zero, List.getElem_cons_succ, Act.put, List.setIfInBounds_toArray, List.set_cons_zero, List.set_cons_succ]
        refine wpAnyH_ready (rs := [11]) (by kernel_rfl) (by simp) (AllReadyH.cons (i := 11) rfl (fun K hK => ?_) AllReadyH.nil)
        rw [if_pos (by rfl)]
        go_simp
        refine hK.out _ _ trivial (fun h1' => ?_)
        clear hK K
        try simp only [List.getElem_toArray, List.getElem_cons_zero, List.getElem_cons_succ, Act.put, List.setIfInBounds_toArray, List.set_cons_zero, List.set_cons_succ]
        refine wpAnyH_take (i := 12) (v := .int .u8 ((x.toNat ^^^ 1 : Nat) : Int)) rfl (by kernel_rfl) (by kernel_rfl) (by kernel_rfl) (fun _ _ _ h => h) (Or.inl ⟨by rfl, fun w hSw => by have c := x1; go_simp⟩) h1' ?_
        try simp only [List.getElem_toArray, List.getElem_cons_zero, List.getElem_cons_succ, Act.put, List.setIfInBounds_toArray, List.set_cons_zero, List.set_cons_succ]
        refine wpAnyH_take (i := 15) (v := .pointer (some ⟨g1, m * 34 + 33, none⟩)) rfl (by kernel_rfl) (by kernel_rfl) (by kernel_rfl) (fun _ _ _ h => h) (Or.inl ⟨by rfl, fun w hSw => by go_simp⟩) h1' ?_
        try simp only [List.getElem_toArray, List.getElem_cons_zero, List.getElem_cons_succ, Act.put, List.setIfInBounds_toArray, List.set_cons_zero, List.set_cons_succ]
        refine wpAnyH_ready (rs := [16]) (by kernel_rfl) (by simp) (AllReadyH.cons (i := 16) rfl (fun K hK => ?_) AllReadyH.nil)
        rw [if_pos (by rfl)]
        go_simp
        refine hK.out _ _ trivial (fun h2' => ?_)
        clear hK K
        try simp only [List.getElem_toArray, List.getElem_cons_zero, List.getElem_cons_succ, Act.put, List.setIfInBounds_toArray, List.set_cons_zero, List.set_cons_succ]
        refine wpAnyH_done (by kernel_rfl) ?_ _
        clear c33 f33 x1 h0' h1' h2'
        generalize World.setCell v0 _ _ = W8 at N8 rid th9 ⊢
        go_wp2_with (first
          | refine wpList_load_mid rfl 35 (.tmp 74) rfl g1 (m * 34 + 2) rfl (bys fe.id) _ rid Tryd.underlying35 rfl il ?_
          | refine wpList_store_mid rfl 35 (.tmp 77) (.tmp 75) rfl g (m * 34 + 2) (bys fe.id).toArray rfl rfl th9 ia hone ?_)
        go_roundw
        case rel => exact ⟨i + 1, _, by omega, by go_num, N8⟩
        case measure => simp [intOf]; omega
    · have HB := hide HM.out.bel
      go_wp2
      go_ret
      exact ⟨rfl, HB.out⟩
end Go.Proofs.YthjknkkjjpjhmaaDoor
