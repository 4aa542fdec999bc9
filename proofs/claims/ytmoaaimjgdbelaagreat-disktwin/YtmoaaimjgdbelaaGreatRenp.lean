/-
  Contracts of freightref5: Sync, SyncNames, Plan, Look, Size, New.
-/
import Derived.Test.YtmoaaimjgdbelaaGreatRemp
namespace Go.Proofs.YtmoaaimjgdbelaaGreat
open Go.RowKit Dsk
set_option linter.unusedVariables false
set_option linter.unusedSimpArgs false

theorem find0 {S : Ds} (hwf : S.Wf) {n : By} (h0 : (S.find n).1 = 0) : ∃ i, S.shown[i]? = some (n, (S.find n).2) ∧ i < S.shown.length ∧ thereI S n = i ∧ (S.find n).2 ∈ S.lives ∧ S.on = true ∧ (S.find n).2 < S.nx := by
  obtain ⟨h1, h2, h3, h4⟩ := Ds.find_ok hwf h0
  obtain ⟨i, hi, hp, hf⟩ := fix_get_some hwf.sup ((Nm.get_some hwf.sup).2 h3)
  exact ⟨i, hp, hi, by unfold thereI; rw [if_pos h0, hf], Ds.shown_lives hwf h3, h1, h4⟩
theorem rnil_own {w : World} {T : TypeId} : w.ownsRow 0 T 4 (.slice none 0 0) 0 [] := World.ownsRow_nil _ _ _ _

section
variable {w : World} {q : Nat} {S : Ds} {A : Nat → Nat} {o : Lab} {nv bv tv sv : Value}

/-- Only a stroke is made. -/
theorem tick_fin (hwf : S.Wf) (hq : o q = 1) {v w2 : World} {a1 a2 a3 a4 : Value} (hk2 : Keep (· = q) w w2) (hv : RDx v q { (Ds.cnt S) with on := (Ds.cnt S).on && !S.goesOff } A o a1 a2 a3 a4) (hkv : Keep (· = q) w2 v) : RAft w v q S.tick o :=
  ⟨A, o, ⟨hwf.tick, a1, a2, a3, a4, hv⟩, fun _ _ h => h, (hk2.trans hkv (fun _ h _ => h)).mono (fun i e _ => by show o i ≠ 0; rw [show i = q from e, hq]; decide)⟩

set_option maxHeartbeats 3200000 in
set_option maxRecDepth 100000 in
theorem rsync_ok (h : RDx w q S A o nv bv tv sv) (hwf : S.Wf) {N : Nat} (hB : S.Bd N) (hN : N ≤ 268435456) (n : By) (hn : n.length ≤ 4611686018427387904) :
    Calls Tryz.prog 68 #[.pointer (some ⟨q, 0, none⟩), encStr n] w fun e w' => e = .returned (.int .i64 (S.sync n).1) ∧ RAft w w' q (S.sync n).2 o := by
  have hth := there_ok h hwf.sup (by have := hB.shown hwf; omega) n hn
  by_cases h0 : (S.find n).1 = 0
  · have hst := rstroke_ok h (by have := hB.strokes; omega) (by have := hB.planned; omega)
    obtain ⟨i, hp, hi, hti, hlv, hon, hnx⟩ := find0 hwf h0
    rw [h0, hti] at hth
    have hlq := h.lq
    cases hgo : S.goesOff with
    | true =>
      have HC : Hid (S.sync n = (S.ans 0, S.tick)) := hide (by simp [Ds.sync, h0, hgo, Ds.ans])
      have HFIN : Hid (∀ v w2 a1 a2 a3 a4, Keep (· = q) w w2 → RDx v q { (Ds.cnt S) with on := (Ds.cnt S).on && !true } A o a1 a2 a3 a4 → Keep (· = q) w2 v → RAft w v q S.tick o) := hide (fun v w2 a1 a2 a3 a4 h1 h2 h3 => tick_fin hwf hlq h1 (by rw [hgo]; exact h2) h3)
      have HGO : Hid (S.ans 0 = 50) := hide (by simp [Ds.ans, hgo])
      rw [hgo] at hst
      clear h hB h0 hlq hgo hti hp
      go_enter Tryz.func68, Tryz.ntmps68
      go_wp2_with (first
        | (go_at_call 92; refine hth.mono ?_; rintro e w' ⟨rfl, hw⟩; obtain rfl := hw.symm; clear hth)
        | (go_at_call 89; refine hst.mono ?_; rintro e w2 ⟨rfl, hR2, hK2⟩; have hen := fun b x => rend_ok hR2 b x; have HK2 := hide hK2; clear hst hR2 hK2)
        | (go_at_call 90; refine (hen _ _).mono ?_; rintro e w8 ⟨rfl, hR8, hK8⟩; have H8 := hide (HFIN.out w8 _ _ _ _ _ HK2.out hR8 hK8); clear hR8 hK8 hen))
      go_ret
      exact ⟨by rw [HC.out]; show _ = Ending.returned (Value.int _ (S.ans 0)); rw [HGO.out]; rfl, by rw [HC.out]; exact H8.out⟩
    | false =>
      have hsy : S.sync n = (0, { S.tick with th := upd S.th (S.find n).2 (S.th (S.find n).2).sync }) := by simp [Ds.sync, h0, hgo]
      have hwfE : ({ S.tick with th := upd S.th (S.find n).2 (S.th (S.find n).2).sync } : Ds).Wf := by have := hwf.sync n; rw [hsy] at this; exact this
      have HC := hide hsy
      have hlen : (S.th (S.find n).2).shown.length ≤ 268435456 := by have := hB.len hwf hnx; omega
      rw [hgo] at hst
      generalize (S.find n).2 = k at *
      obtain ⟨m, hm⟩ : ∃ m, S.shown.length = m := ⟨_, rfl⟩
      obtain ⟨no, nc, hnv⟩ := h.nvs
      rw [hm] at hnv hi
      subst hnv
      have HP := hide hp
      have HM := hide hm
      have HLQ := hide hlq
      have HGO := hide hgo
      have HLV := hide hlv
      have HPRE : Hid (∀ w2, RDx w2 q (Ds.cnt S) A o (.slice no m nc) bv tv sv → ∃ g, no = some ⟨g, 0, none⟩ ∧ w2.cell? ⟨q, 2, none⟩ = some (.slice no m nc) ∧ w2.cell? ⟨g, i * 2 + 1, none⟩ = some (.pointer (some ⟨A k, 0, none⟩))) := hide (fun w2 hR => by
        obtain ⟨g, e, _, c⟩ := nms_cell (n := m) (l := S.shown) (A := A) (w := w2) (vo := no) (vc := nc) (by have := hR.now; exact this) HP.out
        exact ⟨g, e, hR.cell 2 _ rfl, c⟩)
      clear h hB h0 hlq hgo hti hp hsy hm
      go_enter Tryz.func68, Tryz.ntmps68
      go_upto_region 6 with (first
        | (go_at_call 92; refine hth.mono ?_; rintro e w' ⟨rfl, hw⟩; obtain rfl := hw.symm; clear hth)
        | (go_at_call 89; refine hst.mono ?_; rintro e w2 ⟨rfl, hR2, hK2⟩; have HR2 := hide hR2; have HK2 := hide hK2; clear hst hR2 hK2))
      obtain ⟨g, rfl, c2, cp⟩ := HPRE.out w2 HR2.out
      obtain ⟨so, sc, ho, hc, hs1, hs2, cs, ch, hlb, hlt⟩ := HR2.out.thShape HLV.out
      have hcp := copiedB_ok _ _ _ w2 hs2 (by show (S.th k).shown.length ≤ _; omega)
      have HPOST : Hid (∀ g' c' w3, w3.ownsRow 0 5 1 (.slice (some ⟨g', 0, none⟩) ((Ds.cnt S).th k).shown.length c') ((Ds.cnt S).th k).shown.length (bys ((Ds.cnt S).th k).shown) → Kept [] w2 w3 → w2.heap.size ≤ g' → _) := hide (fun g' c' w3 hr hk hg => RDx.thSafe HR2.out HLV.out (w1 := w3) (v := .slice (some ⟨g', 0, none⟩) ((Ds.cnt S).th k).shown.length c') (xs := ((Ds.cnt S).th k).shown) ⟨hr, fun g2 e => by simp only [Value.ownBlock] at e; injection e with e; rw [← e]; exact hg, hk⟩)
      have HFIN : Hid (∀ v w5 o5 a1 a2 a3 a4, RDx v q { ({ Ds.cnt S with th := upd (Ds.cnt S).th k ⟨((Ds.cnt S).th k).shown, [], ((Ds.cnt S).th k).shown⟩ } : Ds) with on := (Ds.cnt S).on && !false } A o5 a1 a2 a3 a4 → (∀ b, b < w2.heap.size → o5 b = o b) → Keep (· = A k) w2 w5 → Keep (· = q) w5 v → RAft w v q { S.tick with th := upd S.th k (S.th k).sync } o) := hide (fun v w5 o5 a1 a2 a3 a4 hv ho5 hk5 hkv => by
        refine ⟨A, o5, ⟨hwfE, a1, a2, a3, a4, ?_⟩, fun b hb hn => ?_, ?_⟩
        · have e : ({ ({ Ds.cnt S with th := upd (Ds.cnt S).th k ⟨((Ds.cnt S).th k).shown, [], ((Ds.cnt S).th k).shown⟩ } : Ds) with on := (Ds.cnt S).on && !false } : Ds) = { S.tick with th := upd S.th k (S.th k).sync } := by
            simp only [Ds.tick, HGO.out]
            rfl
          rw [← e]
          exact hv
        · rw [ho5 b (Nat.lt_of_lt_of_le hb HK2.out.size)] at hn; exact hn
        · have k1 := HK2.out.mono (G := o.mine) (fun i e _ => by show o i ≠ 0; rw [show i = q from e, HLQ.out]; decide)
          have k2 := k1.trans hk5 (fun i e _ => by show o i ≠ 0; rw [show i = A k from e, hlb]; omega)
          exact k2.trans hkv (fun i e _ => by show o i ≠ 0; rw [show i = q from e, HLQ.out]; decide))
      clear hs1 hs2 HPRE
      have hz : ((Ds.cnt S).th k).shown.length = (S.th k).shown.length := rfl
      generalize ((Ds.cnt S).th k).shown.length = z at hcp HPOST ch hz
      clear hz
      go_upto_region 9 with (go_at_call 31; refine hcp.mono ?_; rintro e w3 ⟨g', c', rfl, hr, hk3, hg3⟩; have HP3 := hide (HPOST.out g' c' w3 hr hk3 hg3); have hk3' := hk3; obtain ⟨_, _, ⟨_, d0⟩, f0, ⟨_, d2⟩, f2⟩ := HP3.out; clear hcp HPOST hr hk3 hg3 cs ch cp c2)
      obtain ⟨hR5, hK5, _⟩ := HP3.out
      clear HP3 d0 f0 d2 f2
      have HO5 : Hid (∀ b, b < w2.heap.size → o.ext w2 w3 (k + 2) b = o b) := hide (fun b hb => Lab.ext_old hb)
      generalize o.ext w2 w3 (k + 2) = o5 at hR5 HO5
      generalize World.setCell _ _ _ = w5 at hR5 hK5 ⊢
      have hen := fun b x => rend_ok hR5 b x
      have HK5 := hide hK5
      clear hR5 hK5
      go_wp2_with (go_at_call 90; refine (hen _ _).mono ?_; rintro e w8 ⟨rfl, hR8, hK8⟩; have H8 := hide (HFIN.out w8 _ _ _ _ _ _ hR8 HO5.out HK5.out hK8); clear hR8 hK8 hen)
      go_ret
      exact ⟨by rw [HC.out]; rfl, by rw [HC.out]; exact H8.out⟩
  · have HC : Hid (S.sync n = ((S.find n).1, S)) := hide (by simp [Ds.sync, h0])
    have HA := hide (RAft.of ⟨hwf, _, _, _, _, h⟩ (Keep.refl _ w))
    generalize (S.find n).1 = E at hth h0 HC
    generalize thereI S n = I at hth
    have e0 : (E == 0) = false := by simpa using h0
    have e1 : (E != 0) = true := by simpa using h0
    clear h hB h0
    go_enter Tryz.func68, Tryz.ntmps68
    go_wp2_with (go_at_call 92; refine hth.mono ?_; rintro e w' ⟨rfl, hw⟩; obtain rfl := hw.symm; clear hth)
    go_ret
    exact ⟨by rw [HC.out]; rfl, by rw [HC.out]; exact HA.out⟩
end
end Go.Proofs.YtmoaaimjgdbelaaGreat
