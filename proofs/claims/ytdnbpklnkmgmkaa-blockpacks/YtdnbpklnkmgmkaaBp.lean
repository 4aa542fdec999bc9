/-
  Contract: freightref11.Pack. (Written by tools/bp.py.)
-/
import Derived.Test.YtdnbpklnkmgmkaaBf
import Derived.Test.YtdnbpklnkmgmkaaBo
namespace Go.Proofs.Ytdnbpklnkmgmkaa
open Go.RowKit
set_option linter.unusedVariables false
set_option linter.unusedSimpArgs false

theorem own_types2 {w : World} {b1 b2 : Nat} {e f : TypeId} {s1 s2 : Nat} {v u : Value} {n m : Nat} {xs ys : List Value} (h1 : w.ownsRow b1 e s1 v n xs) (h2 : w.ownsRow b2 f s2 u m ys) (hne : e ≠ f) (g : Nat) (hg : u.ownBlock = some g) : v.ownBlock ≠ some g := by
  intro hv
  rcases h1.2 with ⟨rfl, _⟩ | ⟨g1, c1, cur1, rfl, _, hg1, _⟩
  · simp [Value.ownBlock] at hv
  · rcases h2.2 with ⟨rfl, _⟩ | ⟨g2, c2, cur2, rfl, _, hg2, _⟩
    · simp [Value.ownBlock] at hg
    · simp [Value.ownBlock] at hv hg
      subst hv hg
      rw [hg1] at hg2
      injection hg2 with hg2
      injection hg2 with _ hg2 _
      exact hne hg2
theorem run_appK1 (w : World) (base : Nat) (v : Value) (L : List Bk) (h : OwnK w base v L) (B : Bk) (hl : (L.length + 1) * 32 ≤ 140737488355328) (hb : base ≤ w.heap.size) :
    ∃ v' w', (Builtin.append_ #[30, 30] 30 #[v, .slice (some ⟨w.heap.size, 0, none⟩) 1 1]).run Try.prog (w.alloc (.cells B.cells.toArray 45)) = .ok v' w' ∧ OwnK w' base v' (L ++ [B]) ∧ Kept v.ownBlock.toList w w' := by
  obtain ⟨i0, hi, hz0, hz1, hz2⟩ := info_parts Try.infoBlk3
  have hk := (Kept.refl v.ownBlock.toList w).alloc (.cells B.cells.toArray 45)
  have hk0 := (Kept.refl [] w).alloc (.cells B.cells.toArray 45)
  have hrow := heap_new w (.cells B.cells.toArray 45)
  obtain ⟨v', w', hrun, h1', h2, h3, h4⟩ := run_append_own_at (P := Try.prog) (w.alloc (.cells B.cells.toArray 45)) base 30 30 45 i0 (.agg #[.int .i64 0, .int .i64 0, .int .i64 0, .int .i64 0]) 4 32 Try.underlying30 hi hz0 hz1 hz2 rfl (by omega) v L.length (brows L) (h.kept hk0 (by simp)) ⟨w.heap.size, 0, none⟩ 1 1 B.cells rfl
    (fun j u hj => by
      rw [Addr.add_mid, Nat.zero_add, cell_of_row _ _ _ _ _ _ hrow, List.getElem?_toArray]; exact hj) (by
      intro x hx
      simp only [Bk.cells, List.mem_cons, List.not_mem_nil, or_false] at hx
      rcases hx with rfl | rfl | rfl | rfl <;> rfl) (by unfold maxLen; omega) (by omega) (Nat.le_trans hb hk0.size)
  refine ⟨v', w', hrun, ?_, hk.trans ((Kept.refl v.ownBlock.toList _).grown h2 (fun k hk _ => by simp [hk])) (fun i hi _ => hi)⟩
  unfold OwnK
  rw [List.length_append, brows_snoc]
  exact h1'
theorem Try.cutPiece (W : World) (b off L cap f q : Nat) (h1 : f + q ≤ cap) (h2 : 0 < q) :
    (Instr.slice 23 (.slice (some ⟨b, off, none⟩) L cap) (some (.int .i64 f)) (some (.int .i64 ((f : Int) + (q : Int)))) none).run Try.prog W = .ok (.slice (some ⟨b, off + f, none⟩) q (cap - f)) W := by
  have hz : (sizeOf (Try.prog.elem 23)).run Try.prog W = .ok 1 W := by kernel_rfl
  have h := run_slice_lh (P := Try.prog) W 23 (some ⟨b, off, none⟩) L cap (by kernel_rfl) .i64 .i64 f ((f : Int) + (q : Int)) (by omega) (by omega) (by omega)
  rw [h, hz]
  have e : ((f : Int) + (q : Int)).toNat = f + q := by omega
  simp [sliced, Addr.add_mid, e]
  omega

set_option maxHeartbeats 4000000 in
set_option maxRecDepth 100000 in
theorem refbpack_in (ao : Option Addr) (n cap s : Nat) (xs : List UInt8) (w : World) (hx : xs.length = n) (hc : n ≤ cap) (hs : Sl w ao xs) (h16 : 16 ≤ s) (h40 : s ≤ 4096) (hn : n ≤ 65536) :
    Calls Try.prog 9 #[.slice ao n cap, .int .i64 s] w (PkAns w (Blk.outs xs s (Blk.cnt n s), Blk.blks xs s (Blk.cnt n s), 0)) := by
  have HI := hide (refIsSize_yes (s : Int) w (by omega))
  have hq : ¬ (65536 : Int) < (n : Int) := by omega
  have hqd : decide ((65536 : Int) < (n : Int)) = false := by simpa using hq
  have hqn : decide (65536 < n) = false := by simp; omega
  obtain ⟨c, hcc⟩ : ∃ c, Blk.cnt n s = c := ⟨_, rfl⟩
  have HCL : Hid (∀ k, k < c ↔ k * s < n) := fun k => by rw [← hcc]; exact Blk.cnt_lt (by omega)
  have hcn : c ≤ 70000 := by
    by_cases h : c ≤ 70000
    · exact h
    · have h1 := (HCL.out 70000).1 (by omega)
      have h2 : 70000 * 16 ≤ 70000 * s := Nat.mul_le_mul_left _ h16
      omega
  have HX := hide hx
  have HS := hide hs
  rw [hcc]
  clear hx hs hcc
  unfold PkAns
  go_enter Try.func9, Try.ntmps9
  go_upto_region 7 with (go_at_call 26; refine HI.out.mono ?_; rintro e w' ⟨rfl, hww⟩; obtain rfl := hww.symm; clear HI)
  clear hq hqd hqn
  go_wp2
  go_loopw [7, 8, 9] (fun x y z wr => ∃ k : Nat, k ≤ c ∧ z = .int .i64 ((k * s : Nat) : Int) ∧ Hid (OwnB wr w.heap.size x (Blk.outs xs s k)) ∧ Hid (OwnK wr w.heap.size y (Blk.blks xs s k)) ∧ Hid (Kept [] w wr)) (fun x y z wr => 400000000 - (intOf z).toNat)
  case atStart => exact ⟨0, Nat.zero_le _, by simp, World.ownsRow_nil _ _ _ _, World.ownsRow_nil _ _ _ _, Kept.refl _ _⟩
  case round =>
    obtain ⟨k, hk, hz9, HOB, HOK, HK⟩ := hrel
    obtain ⟨f, hf⟩ : ∃ f, k * s = f := ⟨_, rfl⟩
    rw [hf] at hz9
    subst hz9
    by_cases hlt : k < c
    · have hks := (HCL.out k).1 hlt
      obtain ⟨b, off, hda, hbl, hcell⟩ := HS.out.open (by intro h; have := HX.out; rw [h] at this; simp at this; omega)
      subst hda
      rw [hf] at hks
      have hks2 : (f : Int) < (n : Int) := by omega
      have HQ0 : Hid ((Blk.pc xs s k).length = min s (n - f)) := by show _ = _; rw [Blk.pc_len, HX.out, hf]
      obtain ⟨q, hq⟩ : ∃ q, (Blk.pc xs s k).length = q := ⟨_, rfl⟩
      have hq1 : q = min s (n - f) := by rw [← hq]; exact HQ0.out
      have HQ := hide hq
      have hcut := fun W => Try.cutPiece W b off n cap f q (by omega) (by omega)
      have HBLT := hide hbl
      have HPS : Hid (Sl wr (some ⟨b, off + f, none⟩) (Blk.pc xs s k)) := by
        have hsl := (Sl.of hcell).kept HK.out (by simp)
        have := hsl.cut f q (by rw [HX.out]; omega)
        have e : (xs.drop f).take q = Blk.pc xs s k := by
          unfold Blk.pc
          rw [hf, hq1, ← HX.out, ← List.length_drop, ← List.take_eq_take_min]
        rw [e] at this
        exact this
      have HPK := hide (refpack_at (cap := cap - f) hq HPS.out wr (Below.refl _ _) (Prs.pack (Blk.pc xs s k)) 0 (by unfold Prs.packed; rw [if_neg (by omega)]))
      have HMS : Hid (400000000 - (intOf (.int .i64 ((f : Int) + (s : Int)))).toNat < 400000000 - (intOf (.int .i64 (f : Int))).toNat) := by show _ < _; simp [intOf]; omega
      have HQ1 := hide hq1
      clear hcell HCL HS HQ0 hq hq1
      by_cases hlo : n < f + s
      · by_cases hst : (Prs.pack (Blk.pc xs s k)).length < q
        · as_aux_lemma =>
          have hq1 := HQ1.out
          have tq : (n : Int) < (f : Int) + (s : Int) := by omega
          have tqn : decide (n < f + s) = true := by simp; omega
          have hto : (n : Int) = (f : Int) + (q : Int) := by omega
          have hcut' : ∀ W, (Instr.slice 23 (.slice (some ⟨b, off, none⟩) n cap) (some (.int .i64 f)) (some (.int .i64 (n : Int))) none).run Try.prog W = .ok (.slice (some ⟨b, off + f, none⟩) q (cap - f)) W := fun W => by rw [hto]; exact hcut W
          have HPK2 := HPK
          generalize hRR : Prs.pack (Blk.pc xs s k) = R at HPK2 hst
          have HSH : Hid (Blk.sh (Blk.pc xs s k) = R) := by show _ = _; unfold Blk.sh; rw [hRR, if_pos (by rw [HQ.out]; omega)]
          have sq : ¬ (q : Int) ≤ (R.length : Int) := by omega
          have hqle : q ≤ n := by omega
          clear hto hcut hst HPK hRR hq1 HQ1 hlo
          go_upto_region 17 with (go_at_call 27; refine HPK2.out.mono ?_; rintro e w2 ⟨bp, cp, rfl, ho2, hb2⟩; have HO2 := hide ho2; have HB2 := hide hb2; clear ho2 hb2 HPK2)
          clear hcut' tq tqn sq
          have hsl2 := own_slc HO2.out
          have HSL2 : Hid (Sl w2 bp (Blk.sh (Blk.pc xs s k))) := by show Sl _ _ _; rw [HSH.out]; exact hsl2.1
          have HNL : Hid (bp = none → Blk.sh (Blk.pc xs s k) = [] ∧ cp = 0) := by show _ → _; rw [HSH.out]; exact hsl2.2.2.1
          have HAP : Hid (∀ ad, bp = some ad → ad.block < w.heap.size ∨ wr.heap.size ≤ ad.block) := fun ad h => .inr (hsl2.2.2.2 ad h).1
          have HML : Hid ((Blk.sh (Blk.pc xs s k)).length = R.length) := by show _ = _; rw [HSH.out]
          clear hsl2 HO2
          generalize R.length = rl at HML ⊢
          have hml : rl ≤ n := by have h1 := HML.out; have h2 := Blk.sh_len (Blk.pc xs s k); have h3 := HQ.out; omega
          have HSM := hide (refsum_n bp rl cp _ w2 HML.out (by omega) HSL2.out)
          have HOB2 := hide (HOB.out.kept (Kept.of_below HB2.out) (by simp))
          have HOK2 := hide (HOK.out.kept (Kept.of_below HB2.out) (by simp))
          have HK2 := hide (HK.out.trans (Kept.of_below HB2.out) (by simp))
          have HG8 : Hid (∀ g, u8.ownBlock = some g → w.heap.size ≤ g ∧ g < wr.heap.size) := fun g hg => World.ownsRow.lt HOK.out g hg
          have HG7 : Hid (∀ g, u7.ownBlock = some g → w.heap.size ≤ g ∧ g < wr.heap.size) := fun g hg => World.ownsRow.lt HOB.out g hg
          obtain ⟨u, hu⟩ : ∃ u, Pure.sum (Blk.sh (Blk.pc xs s k)) = u := ⟨_, rfl⟩
          rw [hu] at HSM
          obtain ⟨o, ho⟩ : ∃ o, (Blk.outs xs s k).length = o := ⟨_, rfl⟩
          have HBK : Hid ((Blk.bk xs s k).cells = [.int .i64 (o : Nat), .int .i64 (rl : Nat), .int .i64 (q : Nat), .int .i64 (u : Nat)]) := by show _ = _; unfold Blk.bk; rw [HML.out, HQ.out, hu, ho]; rfl
          have hon : o ≤ n := by have h1 := Blk.outs_len xs s k; have h2 := HX.out; omega
          obtain ⟨a7, c7, h7, _, _, _⟩ := HOB2.out.shape
          obtain ⟨a8, c8, h8, _, _, _⟩ := HOK2.out.shape
          rw [Blk.blks_len] at h8
          rw [ho] at h7
          subst h7 h8
          obtain ⟨v5, w5, hr5, ho5, hk5⟩ := run_appK1 w2 w.heap.size _ (Blk.blks xs s k) HOK2.out (Blk.bk xs s k) (by rw [Blk.blks_len]; omega) HK2.out.size
          rw [HBK.out] at hr5
          rw [← Blk.blks_succ] at ho5
          have HOB5 : Hid (OwnB w5 w.heap.size (.slice a7 o c7) (Blk.outs xs s k)) := HOB2.out.kept hk5 (fun g hg hm => own_types2 HOK2.out HOB2.out (by decide) g hg (by simpa using hm))
          have HSL5 := hide (HSL2.out.kept hk5 (fun hne ad ha hm => by
            have h9 := HG8.out _ (by simpa using hm)
            have h8 := HAP.out ad ha
            omega))
          have hk25 : Kept [] w w5 := HK2.out.trans hk5 (fun g hg hlt => by have h9 := HG8.out g (by simpa using hg); omega)
          obtain ⟨v6, w6, hr6, ho6, hk6⟩ := run_appSl w5 w.heap.size _ (Blk.outs xs s k) (Blk.sh (Blk.pc xs s k)) HOB5.out bp rl cp HML.out HSL5.out HNL.out (by rw [ho]; omega) hk25.size
          have HF : Hid (OwnB w6 w.heap.size v6 (Blk.outs xs s (k + 1)) ∧ OwnK w6 w.heap.size v5 (Blk.blks xs s (k + 1)) ∧ Kept [] w w6) := ⟨ho6, OwnK.kept ho5 hk6 (fun g hg hm => own_types2 HOB5.out ho5 (by decide) g hg (by simpa using hm)), hk25.trans hk6 (fun g hg hlt => by have h9 := HG7.out g (by simpa using hg); omega)⟩
          clear ho5 ho6 hk5 hk6 hk25 HOB5 HSL5 HOB2 HOK2 HOB HOK HSL2 HAP HNL HG8 HG7 HBK HB2 HPS HML HSH
          go_upto_region 18 with (first | (go_at_call 28; refine HSM.out.mono ?_; rintro e w' ⟨rfl, hww⟩; obtain rfl := hww.symm; clear HSM) | refine wpList_app_run rfl (.tmp 51) (.tmp 61) 30 rfl (.slice a8 k c8) (.slice (some ⟨w2.heap.size, 0, none⟩) 1 1) rfl rfl v5 w5 hr5 ?_)
          go_wp2_with (refine wpList_app_run rfl (.tmp 63) (.tmp 64) 23 rfl (.slice a7 o c7) (.slice bp rl cp) rfl rfl v6 w6 hr6 ?_)
          go_roundw
          case rel => exact ⟨k + 1, by omega, by rw [← hf]; push_cast; congr 1; rw [Int.add_mul, Int.one_mul], HF.out.1, HF.out.2.1, HF.out.2.2⟩
          case measure => exact HMS.out
        · as_aux_lemma =>
          have hq1 := HQ1.out
          have tq : (n : Int) < (f : Int) + (s : Int) := by omega
          have tqn : decide (n < f + s) = true := by simp; omega
          have hto : (n : Int) = (f : Int) + (q : Int) := by omega
          have hcut' : ∀ W, (Instr.slice 23 (.slice (some ⟨b, off, none⟩) n cap) (some (.int .i64 f)) (some (.int .i64 (n : Int))) none).run Try.prog W = .ok (.slice (some ⟨b, off + f, none⟩) q (cap - f)) W := fun W => by rw [hto]; exact hcut W
          have HPK2 := HPK
          generalize hRR : Prs.pack (Blk.pc xs s k) = R at HPK2 hst
          have HSH : Hid (Blk.sh (Blk.pc xs s k) = Blk.pc xs s k) := by show _ = _; unfold Blk.sh; rw [hRR, if_neg (by rw [HQ.out]; omega)]
          have sq : (q : Int) ≤ (R.length : Int) := by omega
          have hqle : q ≤ n := by omega
          clear hto hcut hst HPK hRR hq1 HQ1 hlo
          go_upto_region 17 with (go_at_call 27; refine HPK2.out.mono ?_; rintro e w2 ⟨bp, cp, rfl, ho2, hb2⟩; have HO2 := hide ho2; have HB2 := hide hb2; clear ho2 hb2 HPK2)
          clear hcut' tq tqn sq
          have hsl2 := own_slc HO2.out
          have HSL2 : Hid (Sl w2 (some ⟨b, off + f, none⟩) (Blk.sh (Blk.pc xs s k))) := by show Sl _ _ _; rw [HSH.out]; exact HPS.out.kept (Kept.of_below HB2.out) (by simp)
          have HML : Hid ((Blk.sh (Blk.pc xs s k)).length = q) := by show _ = _; rw [HSH.out]; exact HQ.out
          have HNL : Hid ((some ⟨b, off + f, none⟩ : Option Addr) = none → Blk.sh (Blk.pc xs s k) = [] ∧ cap - f = 0) := fun h => by cases h
          have HAP : Hid (∀ ad, (some ⟨b, off + f, none⟩ : Option Addr) = some ad → ad.block < w.heap.size ∨ wr.heap.size ≤ ad.block) := fun ad h => by cases h; exact .inl HBLT.out
          have hml : q ≤ n := by have h1 := HML.out; have h2 := Blk.sh_len (Blk.pc xs s k); have h3 := HQ.out; omega
          have HSM := hide (refsum_n (some ⟨b, off + f, none⟩) q (cap - f) _ w2 HML.out (by omega) HSL2.out)
          have HOB2 := hide (HOB.out.kept (Kept.of_below HB2.out) (by simp))
          have HOK2 := hide (HOK.out.kept (Kept.of_below HB2.out) (by simp))
          have HK2 := hide (HK.out.trans (Kept.of_below HB2.out) (by simp))
          have HG8 : Hid (∀ g, u8.ownBlock = some g → w.heap.size ≤ g ∧ g < wr.heap.size) := fun g hg => World.ownsRow.lt HOK.out g hg
          have HG7 : Hid (∀ g, u7.ownBlock = some g → w.heap.size ≤ g ∧ g < wr.heap.size) := fun g hg => World.ownsRow.lt HOB.out g hg
          obtain ⟨u, hu⟩ : ∃ u, Pure.sum (Blk.sh (Blk.pc xs s k)) = u := ⟨_, rfl⟩
          rw [hu] at HSM
          obtain ⟨o, ho⟩ : ∃ o, (Blk.outs xs s k).length = o := ⟨_, rfl⟩
          have HBK : Hid ((Blk.bk xs s k).cells = [.int .i64 (o : Nat), .int .i64 (q : Nat), .int .i64 (q : Nat), .int .i64 (u : Nat)]) := by show _ = _; unfold Blk.bk; rw [HML.out, HQ.out, hu, ho]; rfl
          have hon : o ≤ n := by have h1 := Blk.outs_len xs s k; have h2 := HX.out; omega
          obtain ⟨a7, c7, h7, _, _, _⟩ := HOB2.out.shape
          obtain ⟨a8, c8, h8, _, _, _⟩ := HOK2.out.shape
          rw [Blk.blks_len] at h8
          rw [ho] at h7
          subst h7 h8
          obtain ⟨v5, w5, hr5, ho5, hk5⟩ := run_appK1 w2 w.heap.size _ (Blk.blks xs s k) HOK2.out (Blk.bk xs s k) (by rw [Blk.blks_len]; omega) HK2.out.size
          rw [HBK.out] at hr5
          rw [← Blk.blks_succ] at ho5
          have HOB5 : Hid (OwnB w5 w.heap.size (.slice a7 o c7) (Blk.outs xs s k)) := HOB2.out.kept hk5 (fun g hg hm => own_types2 HOK2.out HOB2.out (by decide) g hg (by simpa using hm))
          have HSL5 := hide (HSL2.out.kept hk5 (fun hne ad ha hm => by
            have h9 := HG8.out _ (by simpa using hm)
            have h8 := HAP.out ad ha
            omega))
          have hk25 : Kept [] w w5 := HK2.out.trans hk5 (fun g hg hlt => by have h9 := HG8.out g (by simpa using hg); omega)
          obtain ⟨v6, w6, hr6, ho6, hk6⟩ := run_appSl w5 w.heap.size _ (Blk.outs xs s k) (Blk.sh (Blk.pc xs s k)) HOB5.out (some ⟨b, off + f, none⟩) q (cap - f) HML.out HSL5.out HNL.out (by rw [ho]; omega) hk25.size
          have HF : Hid (OwnB w6 w.heap.size v6 (Blk.outs xs s (k + 1)) ∧ OwnK w6 w.heap.size v5 (Blk.blks xs s (k + 1)) ∧ Kept [] w w6) := ⟨ho6, OwnK.kept ho5 hk6 (fun g hg hm => own_types2 HOB5.out ho5 (by decide) g hg (by simpa using hm)), hk25.trans hk6 (fun g hg hlt => by have h9 := HG7.out g (by simpa using hg); omega)⟩
          clear ho5 ho6 hk5 hk6 hk25 HOB5 HSL5 HOB2 HOK2 HOB HOK HSL2 HAP HNL HG8 HG7 HBK HB2 HPS HML HSH
          go_upto_region 18 with (first | (go_at_call 28; refine HSM.out.mono ?_; rintro e w' ⟨rfl, hww⟩; obtain rfl := hww.symm; clear HSM) | refine wpList_app_run rfl (.tmp 51) (.tmp 61) 30 rfl (.slice a8 k c8) (.slice (some ⟨w2.heap.size, 0, none⟩) 1 1) rfl rfl v5 w5 hr5 ?_)
          go_wp2_with (refine wpList_app_run rfl (.tmp 63) (.tmp 64) 23 rfl (.slice a7 o c7) (.slice (some ⟨b, off + f, none⟩) q (cap - f)) rfl rfl v6 w6 hr6 ?_)
          go_roundw
          case rel => exact ⟨k + 1, by omega, by rw [← hf]; push_cast; congr 1; rw [Int.add_mul, Int.one_mul], HF.out.1, HF.out.2.1, HF.out.2.2⟩
          case measure => exact HMS.out
      · by_cases hst : (Prs.pack (Blk.pc xs s k)).length < q
        · as_aux_lemma =>
          have hq1 := HQ1.out
          have tq : ¬ (n : Int) < (f : Int) + (s : Int) := by omega
          have tqn : decide (n < f + s) = false := by simp; omega
          have hto : (f : Int) + (s : Int) = (f : Int) + (q : Int) := by omega
          have hcut' : ∀ W, (Instr.slice 23 (.slice (some ⟨b, off, none⟩) n cap) (some (.int .i64 f)) (some (.int .i64 ((f : Int) + (s : Int)))) none).run Try.prog W = .ok (.slice (some ⟨b, off + f, none⟩) q (cap - f)) W := fun W => by rw [hto]; exact hcut W
          have HPK2 := HPK
          generalize hRR : Prs.pack (Blk.pc xs s k) = R at HPK2 hst
          have HSH : Hid (Blk.sh (Blk.pc xs s k) = R) := by show _ = _; unfold Blk.sh; rw [hRR, if_pos (by rw [HQ.out]; omega)]
          have sq : ¬ (q : Int) ≤ (R.length : Int) := by omega
          have hqle : q ≤ n := by omega
          clear hto hcut hst HPK hRR hq1 HQ1 hlo
          go_upto_region 17 with (go_at_call 27; refine HPK2.out.mono ?_; rintro e w2 ⟨bp, cp, rfl, ho2, hb2⟩; have HO2 := hide ho2; have HB2 := hide hb2; clear ho2 hb2 HPK2)
          clear hcut' tq tqn sq
          have hsl2 := own_slc HO2.out
          have HSL2 : Hid (Sl w2 bp (Blk.sh (Blk.pc xs s k))) := by show Sl _ _ _; rw [HSH.out]; exact hsl2.1
          have HNL : Hid (bp = none → Blk.sh (Blk.pc xs s k) = [] ∧ cp = 0) := by show _ → _; rw [HSH.out]; exact hsl2.2.2.1
          have HAP : Hid (∀ ad, bp = some ad → ad.block < w.heap.size ∨ wr.heap.size ≤ ad.block) := fun ad h => .inr (hsl2.2.2.2 ad h).1
          have HML : Hid ((Blk.sh (Blk.pc xs s k)).length = R.length) := by show _ = _; rw [HSH.out]
          clear hsl2 HO2
          generalize R.length = rl at HML ⊢
          have hml : rl ≤ n := by have h1 := HML.out; have h2 := Blk.sh_len (Blk.pc xs s k); have h3 := HQ.out; omega
          have HSM := hide (refsum_n bp rl cp _ w2 HML.out (by omega) HSL2.out)
          have HOB2 := hide (HOB.out.kept (Kept.of_below HB2.out) (by simp))
          have HOK2 := hide (HOK.out.kept (Kept.of_below HB2.out) (by simp))
          have HK2 := hide (HK.out.trans (Kept.of_below HB2.out) (by simp))
          have HG8 : Hid (∀ g, u8.ownBlock = some g → w.heap.size ≤ g ∧ g < wr.heap.size) := fun g hg => World.ownsRow.lt HOK.out g hg
          have HG7 : Hid (∀ g, u7.ownBlock = some g → w.heap.size ≤ g ∧ g < wr.heap.size) := fun g hg => World.ownsRow.lt HOB.out g hg
          obtain ⟨u, hu⟩ : ∃ u, Pure.sum (Blk.sh (Blk.pc xs s k)) = u := ⟨_, rfl⟩
          rw [hu] at HSM
          obtain ⟨o, ho⟩ : ∃ o, (Blk.outs xs s k).length = o := ⟨_, rfl⟩
          have HBK : Hid ((Blk.bk xs s k).cells = [.int .i64 (o : Nat), .int .i64 (rl : Nat), .int .i64 (q : Nat), .int .i64 (u : Nat)]) := by show _ = _; unfold Blk.bk; rw [HML.out, HQ.out, hu, ho]; rfl
          have hon : o ≤ n := by have h1 := Blk.outs_len xs s k; have h2 := HX.out; omega
          obtain ⟨a7, c7, h7, _, _, _⟩ := HOB2.out.shape
          obtain ⟨a8, c8, h8, _, _, _⟩ := HOK2.out.shape
          rw [Blk.blks_len] at h8
          rw [ho] at h7
          subst h7 h8
          obtain ⟨v5, w5, hr5, ho5, hk5⟩ := run_appK1 w2 w.heap.size _ (Blk.blks xs s k) HOK2.out (Blk.bk xs s k) (by rw [Blk.blks_len]; omega) HK2.out.size
          rw [HBK.out] at hr5
          rw [← Blk.blks_succ] at ho5
          have HOB5 : Hid (OwnB w5 w.heap.size (.slice a7 o c7) (Blk.outs xs s k)) := HOB2.out.kept hk5 (fun g hg hm => own_types2 HOK2.out HOB2.out (by decide) g hg (by simpa using hm))
          have HSL5 := hide (HSL2.out.kept hk5 (fun hne ad ha hm => by
            have h9 := HG8.out _ (by simpa using hm)
            have h8 := HAP.out ad ha
            omega))
          have hk25 : Kept [] w w5 := HK2.out.trans hk5 (fun g hg hlt => by have h9 := HG8.out g (by simpa using hg); omega)
          obtain ⟨v6, w6, hr6, ho6, hk6⟩ := run_appSl w5 w.heap.size _ (Blk.outs xs s k) (Blk.sh (Blk.pc xs s k)) HOB5.out bp rl cp HML.out HSL5.out HNL.out (by rw [ho]; omega) hk25.size
          have HF : Hid (OwnB w6 w.heap.size v6 (Blk.outs xs s (k + 1)) ∧ OwnK w6 w.heap.size v5 (Blk.blks xs s (k + 1)) ∧ Kept [] w w6) := ⟨ho6, OwnK.kept ho5 hk6 (fun g hg hm => own_types2 HOB5.out ho5 (by decide) g hg (by simpa using hm)), hk25.trans hk6 (fun g hg hlt => by have h9 := HG7.out g (by simpa using hg); omega)⟩
          clear ho5 ho6 hk5 hk6 hk25 HOB5 HSL5 HOB2 HOK2 HOB HOK HSL2 HAP HNL HG8 HG7 HBK HB2 HPS HML HSH
          go_upto_region 18 with (first | (go_at_call 28; refine HSM.out.mono ?_; rintro e w' ⟨rfl, hww⟩; obtain rfl := hww.symm; clear HSM) | refine wpList_app_run rfl (.tmp 51) (.tmp 61) 30 rfl (.slice a8 k c8) (.slice (some ⟨w2.heap.size, 0, none⟩) 1 1) rfl rfl v5 w5 hr5 ?_)
          go_wp2_with (refine wpList_app_run rfl (.tmp 63) (.tmp 64) 23 rfl (.slice a7 o c7) (.slice bp rl cp) rfl rfl v6 w6 hr6 ?_)
          go_roundw
          case rel => exact ⟨k + 1, by omega, by rw [← hf]; push_cast; congr 1; rw [Int.add_mul, Int.one_mul], HF.out.1, HF.out.2.1, HF.out.2.2⟩
          case measure => exact HMS.out
        · as_aux_lemma =>
          have hq1 := HQ1.out
          have tq : ¬ (n : Int) < (f : Int) + (s : Int) := by omega
          have tqn : decide (n < f + s) = false := by simp; omega
          have hto : (f : Int) + (s : Int) = (f : Int) + (q : Int) := by omega
          have hcut' : ∀ W, (Instr.slice 23 (.slice (some ⟨b, off, none⟩) n cap) (some (.int .i64 f)) (some (.int .i64 ((f : Int) + (s : Int)))) none).run Try.prog W = .ok (.slice (some ⟨b, off + f, none⟩) q (cap - f)) W := fun W => by rw [hto]; exact hcut W
          have HPK2 := HPK
          generalize hRR : Prs.pack (Blk.pc xs s k) = R at HPK2 hst
          have HSH : Hid (Blk.sh (Blk.pc xs s k) = Blk.pc xs s k) := by show _ = _; unfold Blk.sh; rw [hRR, if_neg (by rw [HQ.out]; omega)]
          have sq : (q : Int) ≤ (R.length : Int) := by omega
          have hqle : q ≤ n := by omega
          clear hto hcut hst HPK hRR hq1 HQ1 hlo
          go_upto_region 17 with (go_at_call 27; refine HPK2.out.mono ?_; rintro e w2 ⟨bp, cp, rfl, ho2, hb2⟩; have HO2 := hide ho2; have HB2 := hide hb2; clear ho2 hb2 HPK2)
          clear hcut' tq tqn sq
          have hsl2 := own_slc HO2.out
          have HSL2 : Hid (Sl w2 (some ⟨b, off + f, none⟩) (Blk.sh (Blk.pc xs s k))) := by show Sl _ _ _; rw [HSH.out]; exact HPS.out.kept (Kept.of_below HB2.out) (by simp)
          have HML : Hid ((Blk.sh (Blk.pc xs s k)).length = q) := by show _ = _; rw [HSH.out]; exact HQ.out
          have HNL : Hid ((some ⟨b, off + f, none⟩ : Option Addr) = none → Blk.sh (Blk.pc xs s k) = [] ∧ cap - f = 0) := fun h => by cases h
          have HAP : Hid (∀ ad, (some ⟨b, off + f, none⟩ : Option Addr) = some ad → ad.block < w.heap.size ∨ wr.heap.size ≤ ad.block) := fun ad h => by cases h; exact .inl HBLT.out
          have hml : q ≤ n := by have h1 := HML.out; have h2 := Blk.sh_len (Blk.pc xs s k); have h3 := HQ.out; omega
          have HSM := hide (refsum_n (some ⟨b, off + f, none⟩) q (cap - f) _ w2 HML.out (by omega) HSL2.out)
          have HOB2 := hide (HOB.out.kept (Kept.of_below HB2.out) (by simp))
          have HOK2 := hide (HOK.out.kept (Kept.of_below HB2.out) (by simp))
          have HK2 := hide (HK.out.trans (Kept.of_below HB2.out) (by simp))
          have HG8 : Hid (∀ g, u8.ownBlock = some g → w.heap.size ≤ g ∧ g < wr.heap.size) := fun g hg => World.ownsRow.lt HOK.out g hg
          have HG7 : Hid (∀ g, u7.ownBlock = some g → w.heap.size ≤ g ∧ g < wr.heap.size) := fun g hg => World.ownsRow.lt HOB.out g hg
          obtain ⟨u, hu⟩ : ∃ u, Pure.sum (Blk.sh (Blk.pc xs s k)) = u := ⟨_, rfl⟩
          rw [hu] at HSM
          obtain ⟨o, ho⟩ : ∃ o, (Blk.outs xs s k).length = o := ⟨_, rfl⟩
          have HBK : Hid ((Blk.bk xs s k).cells = [.int .i64 (o : Nat), .int .i64 (q : Nat), .int .i64 (q : Nat), .int .i64 (u : Nat)]) := by show _ = _; unfold Blk.bk; rw [HML.out, HQ.out, hu, ho]; rfl
          have hon : o ≤ n := by have h1 := Blk.outs_len xs s k; have h2 := HX.out; omega
          obtain ⟨a7, c7, h7, _, _, _⟩ := HOB2.out.shape
          obtain ⟨a8, c8, h8, _, _, _⟩ := HOK2.out.shape
          rw [Blk.blks_len] at h8
          rw [ho] at h7
          subst h7 h8
          obtain ⟨v5, w5, hr5, ho5, hk5⟩ := run_appK1 w2 w.heap.size _ (Blk.blks xs s k) HOK2.out (Blk.bk xs s k) (by rw [Blk.blks_len]; omega) HK2.out.size
          rw [HBK.out] at hr5
          rw [← Blk.blks_succ] at ho5
          have HOB5 : Hid (OwnB w5 w.heap.size (.slice a7 o c7) (Blk.outs xs s k)) := HOB2.out.kept hk5 (fun g hg hm => own_types2 HOK2.out HOB2.out (by decide) g hg (by simpa using hm))
          have HSL5 := hide (HSL2.out.kept hk5 (fun hne ad ha hm => by
            have h9 := HG8.out _ (by simpa using hm)
            have h8 := HAP.out ad ha
            omega))
          have hk25 : Kept [] w w5 := HK2.out.trans hk5 (fun g hg hlt => by have h9 := HG8.out g (by simpa using hg); omega)
          obtain ⟨v6, w6, hr6, ho6, hk6⟩ := run_appSl w5 w.heap.size _ (Blk.outs xs s k) (Blk.sh (Blk.pc xs s k)) HOB5.out (some ⟨b, off + f, none⟩) q (cap - f) HML.out HSL5.out HNL.out (by rw [ho]; omega) hk25.size
          have HF : Hid (OwnB w6 w.heap.size v6 (Blk.outs xs s (k + 1)) ∧ OwnK w6 w.heap.size v5 (Blk.blks xs s (k + 1)) ∧ Kept [] w w6) := ⟨ho6, OwnK.kept ho5 hk6 (fun g hg hm => own_types2 HOB5.out ho5 (by decide) g hg (by simpa using hm)), hk25.trans hk6 (fun g hg hlt => by have h9 := HG7.out g (by simpa using hg); omega)⟩
          clear ho5 ho6 hk5 hk6 hk25 HOB5 HSL5 HOB2 HOK2 HOB HOK HSL2 HAP HNL HG8 HG7 HBK HB2 HPS HML HSH
          go_upto_region 18 with (first | (go_at_call 28; refine HSM.out.mono ?_; rintro e w' ⟨rfl, hww⟩; obtain rfl := hww.symm; clear HSM) | refine wpList_app_run rfl (.tmp 51) (.tmp 61) 30 rfl (.slice a8 k c8) (.slice (some ⟨w2.heap.size, 0, none⟩) 1 1) rfl rfl v5 w5 hr5 ?_)
          go_wp2_with (refine wpList_app_run rfl (.tmp 63) (.tmp 64) 23 rfl (.slice a7 o c7) (.slice (some ⟨b, off + f, none⟩) q (cap - f)) rfl rfl v6 w6 hr6 ?_)
          go_roundw
          case rel => exact ⟨k + 1, by omega, by rw [← hf]; push_cast; congr 1; rw [Int.add_mul, Int.one_mul], HF.out.1, HF.out.2.1, HF.out.2.2⟩
          case measure => exact HMS.out
    · obtain rfl : k = c := by omega
      have h9 : ¬ k * s < n := fun h => absurd ((HCL.out k).2 h) (by omega)
      rw [hf] at h9
      have h9i : ¬ (f : Int) < (n : Int) := by omega
      obtain ⟨a7, c7, h7, _, _, _⟩ := HOB.out.shape
      obtain ⟨a8, c8, h8, _, _, _⟩ := HOK.out.shape
      subst h7 h8
      clear HCL HS
      go_wp2
      go_ret3
      exact ⟨a7, c7, a8, c8, rfl, HOB.out, HOK.out, HK.out.below (Nat.le_refl _) (by simp)⟩

end Go.Proofs.Ytdnbpklnkmgmkaa
