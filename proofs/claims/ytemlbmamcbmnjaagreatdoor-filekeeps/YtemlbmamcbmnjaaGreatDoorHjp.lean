/-
  Contract: Read.
-/
import Derived.Test.YtemlbmamcbmnjaaGreatDoorHip
namespace Go.Proofs.YtemlbmamcbmnjaaGreatDoor
open Go.RowKit Dsk
set_option linter.unusedVariables false
set_option linter.unusedSimpArgs false

set_option maxRecDepth 100000 in
theorem Tryz.cutMid (W : World) (ao : Option Addr) (L cap a m : Nat) (xs : By) (hs : Sl W ao xs) (hx : xs.length = L) (hL : L ≤ cap) (h : a + m ≤ L) (h0 : ao = none → cap = 0) :
    ∃ ao', (Instr.slice 28 (.slice ao L cap) (some (.int .i64 a)) (some (.int .i64 ((a : Int) + (m : Int)))) none).run Tryz.prog W = .ok (.slice ao' m (cap - a)) W ∧ Sl W ao' ((xs.drop a).take m) ∧ (ao' = none → m = 0 ∧ cap - a = 0) := by
  have hz : (sizeOf (Tryz.prog.elem 28)).run Tryz.prog W = .ok 1 W := by kernel_rfl
  have hr := run_slice_lh (P := Tryz.prog) W 28 ao L cap (by kernel_rfl) .i64 .i64 a ((a : Int) + (m : Int)) (by omega) (by omega) (by omega)
  have hm : (((a : Int) + (m : Int)).toNat - a) = m := by omega
  rw [hr, hz]
  cases ao with
  | none =>
    have := h0 rfl
    subst this
    refine ⟨none, by simp [sliced, hm], ?_, fun _ => ⟨by omega, by omega⟩⟩
    have : (xs.drop a).take m = [] := by apply List.eq_nil_of_length_eq_zero; simp; omega
    rw [this]
    exact Sl.nil _ _
  | some ad =>
    by_cases hc : cap = a
    · refine ⟨some ad, by simp [sliced, hc]; omega, ?_, by simp⟩
      have : (xs.drop a).take m = [] := by apply List.eq_nil_of_length_eq_zero; simp; omega
      rw [this]
      exact Sl.nil _ _
    · refine ⟨some (ad.add a), by simp [sliced, hc, hm], ?_, by simp⟩
      intro i hi
      simp only [List.length_take, List.length_drop] at hi
      obtain ⟨b', off', e', hcell⟩ := hs (a + i) (by omega)
      injection e' with e'
      subst e'
      refine ⟨b', off' + a, by rw [show ((⟨b', off', none⟩ : Addr).add a) = ⟨b', off' + a, none⟩ from by unfold Addr.add; by_cases h : a = 0 <;> simp [h]], ?_⟩
      rw [Nat.add_assoc, hcell]
      have hi2 : i < m := by omega
      simp [List.getElem?_take, hi2, List.getElem?_drop]

/-- A call that answers a row of bytes of its own, and leaves a disk. -/
def AftB (w w' : World) (p : Nat) (S' : Ds) (o : Lab) (v : Value) (xs : By) : Prop := ∃ A' o', PD w' p S' A' o' ∧ o.Ext o' w ∧ Keep o.mine w w' ∧ OwnB w' v xs.length xs ∧ (∀ g, v.ownBlock = some g → w.heap.size ≤ g ∧ o' g = 0)

/-- One span more. -/
theorem PDx.told {w w' : World} {p : Nat} {S : Ds} {A : Nat → Nat} {o : Lab} {ms mh : Nat} {rv sv sv' : Value} (h : PDx w p S A o ms mh rv sv) (s : Dsk.Span) (hwf : ({ S with reads := S.reads ++ [s] } : Ds).Wf)
    (hc : w'.heap[p]? = some (.cells #[.int .i64 S.room, .bool S.on, .map (some ms), rv, .map (some mh), .int .i64 S.strokes, .int .i64 S.off, .int .i64 S.from_, .int .i64 S.to, .int .i64 S.planned, sv'] 98 (0, 0)))
    (hr : w'.ownsRow 0 199 3 sv' (S.reads.length + 1) (S.reads.flatMap encSp ++ encSp s)) (hK : Keep (fun k => k = p ∨ sv.ownBlock = some k) w w') (hl : ∀ g, sv'.ownBlock = some g → sv.ownBlock = some g ∨ w.heap.size ≤ g) :
    PDx w' p { S with reads := S.reads ++ [s] } A (o.ext w w' 1) ms mh rv sv' ∧ Keep (fun b => o b = 1) w w' := by
  have hF : ∀ b, (b = p ∨ sv.ownBlock = some b) → o b = 1 := fun b hb => by
    rcases hb with rfl | e
    · exact h.lp
    · exact h.ls b e
  have old : ∀ b, b < w.heap.size → o.ext w w' 1 b = o b := fun b hb => Lab.ext_old hb
  refine ⟨⟨hwf, hc, h.ne, h.safe.keep hK ?_, h.shown.keep hK ?_, own_keeps h.row hK (fun g hg => ?_), ?_, fun j hj => (h.th j hj).ext hK (fun g hg e2 => by have := hF g e2; omega), (old p h.lt).trans h.lp, (old _ h.safe.lt).trans h.lm, (old _ h.shown.lt).trans h.lh, fun g hg => (old g (h.row.lt g hg).2).trans (h.lr g hg), fun g hg => ?_, lim_ext h.lim hK.size, h.pl⟩, hK.mono (fun b hb _ => hF b hb)⟩
  · rintro (e | e)
    · exact h.ne_m e
    · exact own_nmap h.reads h.safe.blk e
  · rintro (e | e)
    · exact h.ne_h e
    · exact own_nmap h.reads h.shown.blk e
  · rintro (e | e)
    · exact h.ne_r (by rw [hg, e])
    · exact own_two h.row h.reads (by decide) g hg e
  · have e1 : ({ S with reads := S.reads ++ [s] } : Ds).reads.length = S.reads.length + 1 := by simp
    have e2 : ({ S with reads := S.reads ++ [s] } : Ds).reads.flatMap encSp = S.reads.flatMap encSp ++ encSp s := by simp
    rw [e1, e2]
    exact hr
  · rcases hl g hg with e | e
    · exact (old g (h.reads.lt g e).2).trans (h.ls g e)
    · exact Lab.ext_new e (hr.lt g hg).2

set_option maxHeartbeats 1600000 in
set_option maxRecDepth 100000 in
theorem read_ok {w : World} {p : Nat} {S : Ds} {A : Nat → Nat} {o : Lab} {N : Nat} (h : PD w p S A o) (hB : S.Bd N) (hN : N ≤ 268435456) (nm : By) (hnl : nm.length ≤ 4611686018427387904) (a m : Int) :
    Calls Tryz.prog 75 #[.pointer (some ⟨p, 0, none⟩), encStr nm, .int .i64 a, .int .i64 m] w fun e w' => ∃ v, e = .returned (.tuple #[v, .int .i64 (S.readOk nm a m)]) ∧ AftB w w' p (S.read nm a m) o v (S.readBytes nm a m) := by
  obtain ⟨ms, mh, rv, sv, h⟩ := h
  have hfd := find_ok h nm hnl
  have HNO : Hid (∀ E : Int, E ≠ 0 → S.readOk nm a m = E → AftB w w p (S.read nm a m) o (.slice none 0 0) (S.readBytes nm a m)) := fun E hE he => by
    have e1 : S.read nm a m = S := by unfold Ds.read; rw [he, if_neg hE]
    have e2 : S.readBytes nm a m = [] := by unfold Ds.readBytes; rw [he, if_neg hE]
    rw [e1, e2]
    exact ⟨A, o, ⟨ms, mh, rv, sv, h⟩, Lab.Ext.refl _ _, Keep.refl _ _, OwnB.nil _, by simp [Value.ownBlock]⟩
  by_cases h0 : (S.find nm).1 = 0
  · obtain ⟨hon, hnm, hmem, hlt⟩ := Ds.find_ok h.wf h0
    have hv : findV S A nm = .pointer (some ⟨A (S.find nm).2, 0, none⟩) := by unfold findV; rw [if_pos h0]
    have HC : Hid (S.readOk nm a m = if a < 0 ∨ m < 0 ∨ ((S.th (S.find nm).2).shown.length : Int) < a ∨ ((S.th (S.find nm).2).shown.length : Int) - a < m then 54 else 0) := hide (by simp [Ds.readOk, h0])
    have HD : Hid (S.readOk nm a m = 0 → S.readBytes nm a m = ((S.th (S.find nm).2).shown.drop a.toNat).take m.toNat ∧ S.read nm a m = { S with reads := S.reads ++ [⟨nm, a.toNat, m.toNat⟩] }) := fun he => by
      unfold Ds.readBytes Ds.read
      rw [he, if_pos rfl, if_pos rfl]
      exact ⟨rfl, rfl⟩
    rw [hv, h0] at hfd
    generalize (S.find nm).2 = k at hfd HC hlt HD
    obtain ⟨rv1, sv1, ht⟩ := h.th k hlt
    obtain ⟨so, sc, rfl, hsc, hscm, hs0, hs1⟩ := ht.shown.shape
    have i2 := ht.th0.c2
    have hlen := hB.len h.wf hlt
    by_cases hbad : a < 0 ∨ m < 0 ∨ ((S.th k).shown.length : Int) < a ∨ ((S.th k).shown.length : Int) - a < m
    · have he : S.readOk nm a m = 54 := by rw [HC.out, if_pos hbad]
      have H54 := hide (HNO.out 54 (by decide) he)
      have HE := hide he
      clear h hB ht h0 hv hmem hnm hon HC HD HNO he hs0 hs1
      generalize (S.th k).shown.length = L at i2 hlen hbad hsc
      by_cases b1 : a < 0
      · go_enter Tryz.func75, Tryz.ntmps75
        go_wp2_with (go_at_call 82; refine hfd.mono ?_; rintro e w' ⟨rfl, rfl⟩; clear hfd)
        go_ret2
        exact ⟨_, by rw [HE.out]; rfl, H54.out⟩
      by_cases b2 : m < 0
      · go_enter Tryz.func75, Tryz.ntmps75
        go_wp2_with (go_at_call 82; refine hfd.mono ?_; rintro e w' ⟨rfl, rfl⟩; clear hfd)
        go_ret2
        exact ⟨_, by rw [HE.out]; rfl, H54.out⟩
      by_cases b3 : (L : Int) < a
      · go_enter Tryz.func75, Tryz.ntmps75
        go_wp2_with (go_at_call 82; refine hfd.mono ?_; rintro e w' ⟨rfl, rfl⟩; clear hfd)
        go_ret2
        exact ⟨_, by rw [HE.out]; rfl, H54.out⟩
      have b4 : (L : Int) - a < m := by omega
      clear hbad
      go_enter Tryz.func75, Tryz.ntmps75
      go_wp2_with (go_at_call 82; refine hfd.mono ?_; rintro e w' ⟨rfl, rfl⟩; clear hfd)
      go_ret2
      exact ⟨_, by rw [HE.out]; rfl, H54.out⟩
    · obtain ⟨x, rfl⟩ : ∃ x : Nat, a = x := ⟨a.toNat, by omega⟩
      obtain ⟨y, rfl⟩ : ∃ y : Nat, m = y := ⟨m.toNat, by omega⟩
      have he : S.readOk nm x y = 0 := by rw [HC.out, if_neg hbad]
      obtain ⟨hb1, hb2⟩ := HD.out he
      simp only [Int.toNat_natCast] at hb1 hb2
      have hwfr := h.wf.read nm x y
      rw [hb2] at hwfr
      obtain ⟨to, tc, rfl, _⟩ := own_shape h.reads
      have c10 := h.c10
      obtain ⟨g, c2, w1, hrun, ho1, hk1, hg1, hlt1⟩ := run_app (P := Tryz.prog) w 96 96 199 Tryz.underlying96 Tryz.infoSpan rfl (by decide) _ S.reads.length _ h.reads (encSp ⟨nm, x, y⟩) rfl (by simp [encSp, Value.oneCell']) (by unfold maxLen; have := hB.reads; omega) (by have := hB.reads; omega)
      have hK1 := hk1 (fun k => (Value.slice to S.reads.length tc).ownBlock = some k) (fun k e => e)
      have hQ1 := hK1.heapOf h.cells h.ne_s
      have hgp : g ≠ p := by rcases hg1 with e | e; exact fun e2 => h.ne_s (by rw [← e, e2]); have := h.lt; omega
      obtain ⟨w2, hw2⟩ : ∃ w2, w2 = w1.setCell ⟨p, 10, none⟩ (.slice (some ⟨g, 0, none⟩) (S.reads.length + 1) c2) := ⟨_, rfl⟩
      have hK2 : Keep (· = p) w1 w2 := by rw [hw2]; exact (Keep.refl (· = p) w1).setCell (p := ⟨p, 10, none⟩) (fun _ => rfl) _
      have hQ2 := heap_setCell_same w1 p 10 _ _ (.slice (some ⟨g, 0, none⟩) (S.reads.length + 1) c2) hQ1
      rw [← hw2] at hQ2
      have ho2 := own_keeps ho1 hK2 (fun k e e2 => by simp only [Value.ownBlock, Option.some.injEq] at e; exact hgp (by rw [e, e2]))
      have hK02 : Keep (fun k => k = p ∨ (Value.slice to S.reads.length tc).ownBlock = some k) w w2 := (hK1.mono (fun k e _ => .inr e)).trans hK2 (fun k e _ => .inl e)
      obtain ⟨hP2, hKo⟩ := h.told ⟨nm, x, y⟩ hwfr hQ2 ho2 hK02 (fun k e => by
        simp only [Value.ownBlock, Option.some.injEq] at e
        subst e
        rcases hg1 with e | e
        · exact .inl e.symm
        · exact .inr e)
      have d10 : w1.cell? ⟨p, 10, none⟩ = some (.slice to S.reads.length tc) := by rw [cell_of_row w1 p 10 _ _ _ hQ1]; rfl
      have f10 : w1.frozen? ⟨p, 10, none⟩ = false := frozen_of_row w1 p 10 _ _ hQ1
      have ht2 := ht.keep hKo (fun g hg => by omega)
      have j2 := ht2.th0.c2
      obtain ⟨ao', hcut, hsl, hnil⟩ := Tryz.cutMid w2 so (S.th k).shown.length sc x y (S.th k).shown ht2.shown.sl rfl hsc (by omega) (fun e => (hs0 e).2)
      rw [← hb1] at hsl
      have hyl : (S.readBytes nm x y).length = y := by rw [hb1]; simp; omega
      have hcl := cloneB_ok ao' y (sc - x) (S.readBytes nm x y) w2 hyl hsl hnil (by omega)
      have hxy : (x : Int) + (y : Int) = ((x + y : Nat) : Int) := by omega
      have hwr : IntKind.i64.wrap ((x : Int) + (y : Int)) = ((x + y : Nat) : Int) := by rw [IntWalk.i64_in _ (by omega)]; omega
      have FIN : Hid (∀ w3 v, OwnB w3 v y (S.readBytes nm x y) → Kept [] w2 w3 → (∀ g, v.ownBlock = some g → w2.heap.size ≤ g) → AftB w w3 p (S.read nm x y) o v (S.readBytes nm x y)) := fun w3 v hv hk hn => by
        have hP3 := hP2.keep (Keep.ofNone (F := fun _ => False) hk) (fun _ _ h => h)
        refine ⟨A, o.ext w w2 1, ?_, Ext_ext _ _ _ _, (mine_k hKo).kept hk, by rw [hyl]; exact hv, fun g hg => ⟨Nat.le_trans hKo.size (hn g hg), ?_⟩⟩
        · rw [hb2]; exact ⟨_, _, _, _, hP3⟩
        · have := hn g hg
          have := hKo.size
          unfold Lab.ext
          rw [if_neg (by omega), if_neg (by omega)]
      have HE := hide he
      have HXY := hide hxy
      clear h hB ht h0 hv hmem hnm hon HC HD HNO he hs0 hs1 hb1 hb2 hwfr ho1 hk1 hg1 hK1 hQ1 hK2 hQ2 ho2 hK02 hP2 hKo ht2 hsl hnil hxy hscm hgp hlt1
      generalize (S.th k).shown.length = L at i2 hlen hbad j2 hcut hsc
      have b1 : ¬ ((x : Int) < 0) := by omega
      have b2 : ¬ ((y : Int) < 0) := by omega
      have b3 : ¬ ((L : Int) < x) := by omega
      have b4 : ¬ ((L : Int) - x < y) := by omega
      clear hbad
      simp only [encSp] at hrun
      go_enter Tryz.func75, Tryz.ntmps75
      go_upto_region 7 with (first
        | (go_at_call 82; refine hfd.mono ?_; rintro e w' ⟨rfl, rfl⟩; clear hfd)
        | (at_builtin; refine wpList_app_run rfl _ _ 96 96 rfl _ _ rfl rfl _ _ hrun ?_))
      try rw [← hw2]
      clear hw2 hrun d10 f10 c10 i2
      go_wp2_with (go_at_call 66; refine hcl.mono ?_; rintro e w3 ⟨v, rfl, hv3, hk3, hn3⟩; have H3 := hide (FIN.out w3 v hv3 hk3 hn3); obtain ⟨vo, vc, rfl, _⟩ := hv3.shape; clear hv3 hk3 hn3)
      go_ret2
      exact ⟨_, by rw [HE.out]; rfl, H3.out⟩
  · have hv : findV S A nm = .pointer none := by unfold findV; rw [if_neg h0]
    have he : S.readOk nm a m = (S.find nm).1 := by simp [Ds.readOk, h0]
    have HF := hide (HNO.out _ h0 he)
    have HE := hide he
    rw [hv] at hfd
    clear h hB HNO he
    generalize (S.find nm).1 = E at hfd h0 HE
    have e0 : (E != 0) = true := by simpa using h0
    clear h0 hv
    go_enter Tryz.func75, Tryz.ntmps75
    go_wp2_with (go_at_call 82; refine hfd.mono ?_; rintro e w' ⟨rfl, rfl⟩; clear hfd)
    go_ret2
    exact ⟨_, by rw [HE.out]; rfl, HF.out⟩
end Go.Proofs.YtemlbmamcbmnjaaGreatDoor
