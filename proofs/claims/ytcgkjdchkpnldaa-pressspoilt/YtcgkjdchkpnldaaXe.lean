/-
  The walk: freightlaw4.PressPacks. (Written by tools/xe.py.)
-/
import Derived.Test.YtcgkjdchkpnldaaXc
namespace Go.Proofs.Ytcgkjdchkpnldaa
open Go.RowKit
set_option linter.unusedVariables false
set_option linter.unusedSimpArgs false

theorem Sl.low {c : Nat} {W W' : World} {ao : Option Addr} {xs : List UInt8} (h : Sl W ao xs) (hb : Below c W W') (hl : ∀ a, ao = some a → a.block < c) : Sl W' ao xs := Sl.below h hb hl
theorem Rw.low {W W' : World} {bo : Option Addr} {r : List UInt8} {lo hi c : Nat} (h : Rw W bo r lo hi) (hb : Below c W W') (hc : hi ≤ c) : Rw W' bo r lo hi :=
  ⟨Sl.low h.sl hb (fun a ha => by have := h.at_ a ha; omega), h.le, Nat.le_trans h.size hb.size, h.at_⟩
/-- What lies behind them turns. -/
theorem Pu.low {w W W' : World} {g : Nat} {ds : List UInt8} {bo2 bo3 : Option Addr} {r : List UInt8} {a b c : Nat} (h : Pu w W g ds bo2 bo3 r a b c) (hb : Below c W W') : Pu w W' g ds bo2 bo3 r a b c := by
  have h1 := h.r2.le
  have h2 := h.r3.le
  have h3 := h.lt
  have h4 := h.ge
  exact ⟨h.room.below hb (by omega), h.ge, h.lt, h.r2.low hb h2, h.r3.low hb (Nat.le_refl _), h.below.trans (Below.less hb (by omega))⟩

def tw (xs : List UInt8) : List UInt8 := xs.mapIdx (fun i x => x ^^^ UInt8.ofNat (i % 3))
theorem tw_len (xs : List UInt8) : (tw xs).length = xs.length := by simp [tw]
theorem tw_at (xs : List UInt8) (i : Nat) (h : i < xs.length) : (tw xs).getD i 0 = xs.getD i 0 ^^^ UInt8.ofNat (i % 3) := by
  simp [tw, List.getElem?_mapIdx, List.getElem?_eq_getElem h]
theorem mix_step (T xs : List UInt8) (i : Nat) (hT : T.length = xs.length) (h : i < xs.length) : (T.take i ++ xs.drop i).set i (T.getD i 0) = T.take (i + 1) ++ xs.drop (i + 1) := by
  rw [List.set_append_right _ _ (by simp; omega), take_snoc' T 0 i (by omega), List.drop_eq_getElem_cons h]
  rw [show i - (T.take i).length = 0 by simp; omega, List.set_cons_zero]
  simp
theorem xor_small (x : UInt8) (j : Nat) (hj : j < 3) : bits .xor .u8 (x.toNat : Int) (j : Int) = ((x ^^^ UInt8.ofNat j).toNat : Int) := by
  rw [u8_xor_nat _ _ (UInt8.toNat_lt x) (by omega), UInt8.toNat_xor, UInt8.toNat_ofNat', Nat.mod_eq_of_lt (by omega)]
/-- append to a row of their own behind them. -/
theorem pk_app {w W W' : World} {g : Nat} {ds : List UInt8} {bo2 bo3 : Option Addr} {r : List UInt8} {a b c : Nat} {to : Option Addr} {tc j : Nat} {t : List UInt8} {o : Obj} (h : Pu w W g ds bo2 bo3 r a b c) (ho : W.ownsRow c 5 1 (.slice to j tc) j (bys t)) (hg : (W.alloc o).grownBy W' (Value.slice to t.length tc).ownBlock) (hl : t.length = j) : Below c W W' := by
  rw [hl] at hg
  exact (((Kept.refl [] W).alloc o).below h.r3.size (by simp)).grown hg (by have := h.r3.size; simp; omega) (fun k hk => (ho.lt k hk).1)
theorem pk_put {w W : World} {g tb tc j : Nat} {ds ds' t t' : List UInt8} {bo2 bo3 : Option Addr} {r : List UInt8} {a b c : Nat} {y : UInt8} (h : Pu w W g ds bo2 bo3 r a b c) (ho : W.ownsRow c 5 1 (.slice (some ⟨tb, 0, none⟩) (j + 1) tc) (j + 1) (bys t)) (hl : j < ds.length) (hd : ds.set j y = ds') (ht : t' = t) :
    Pu w (W.setCell ⟨g, j, none⟩ (.int .u8 y.toNat)) g ds' bo2 bo3 r a b c ∧ (W.setCell ⟨g, j, none⟩ (.int .u8 y.toNat)).ownsRow c 5 1 (.slice (some ⟨tb, 0, none⟩) (j + 1) tc) (j + 1) (bys t') := by
  have h1 := h.put j hl y
  rw [hd] at h1
  have htb := (ho.lt tb rfl).1
  have h2 := h.r2.le
  have h3 := h.r3.le
  have h4 := h.lt
  have hk : Kept [g] W (W.setCell ⟨g, j, none⟩ (.int .u8 y.toNat)) := (Kept.refl [g] _).setCell (by simp) _
  exact ⟨h1, by rw [ht]; exact ho.kept (row := some g) ⟨hk.os, hk.tape, hk.output, hk.size, fun i hi hne => hk.block i hi (by simpa using fun e => hne (by rw [e]))⟩ (.inr (by simp [Value.ownBlock]; omega))⟩
theorem Prs.packed_len (xs : List UInt8) : (Prs.packed xs).1.length ≤ 8192 := by
  unfold Prs.packed
  split
  · simp
  · have := Prs.pack_len xs; simp only; omega

set_option maxHeartbeats 2000000 in
set_option maxRecDepth 100000 in
theorem packs_walk (ao : Option Addr) (n cap : Nat) (xs : List UInt8) (w : World) (hi : InB w ao n cap xs) :
    Calls Try.prog 3 #[.slice ao n cap] w fun e w' => e = .returned (.bool true) ∧ Below w.heap.size w w' := by
  obtain ⟨r, k, hr⟩ : ∃ r k, Prs.packed xs = (r, k) := ⟨_, _, rfl⟩
  have HR := hide hr
  have hnm : n ≤ 140737488351232 := by have := hi.le; have := hi.max; omega
  have HX : Hid (Sl w ao xs ∧ xs.length = n) := ⟨hi.sl, hi.len⟩
  have hrl : r.length ≤ 8192 := by have := Prs.packed_len xs; rw [hr] at this; exact this
  obtain ⟨T, hT⟩ : ∃ T, tw xs = T := ⟨_, rfl⟩
  obtain ⟨r2, k2, hr2⟩ : ∃ r k, Prs.packed T = (r, k) := ⟨_, _, rfl⟩
  have HR2 := hide hr2
  have hrl2 : r2.length ≤ 8192 := by have := Prs.packed_len T; rw [hr2] at this; exact this
  have HT : Hid (T.length = n ∧ ∀ i, i < n → T.getD i 0 = xs.getD i 0 ^^^ UInt8.ofNat (i % 3)) := ⟨by rw [← hT, tw_len, hi.len], fun i hi' => by rw [← hT]; exact tw_at xs i (by rw [hi.len]; exact hi')⟩
  clear hi hr hr2 hT
  go_enter Try.func3, Try.ntmps3
  go_wp2_with (first
    | (go_at_call 9; refine (roomy_ok ao cap n xs w HX.out.1 HX.out.2 (by omega)).mono ?_; rintro e w1 ⟨g, rfl, hg, hR, hk⟩; have H1 : Hid (Room w1 g xs ∧ w.heap.size ≤ g ∧ Below w.heap.size w w1) := ⟨hR, hg, hk.below (Nat.le_refl _) (by simp)⟩; clear hg hR hk)
    | (go_at_call 10; refine (pack_at HX.out.2 H1.out.1.sl w1 (Below.refl _ _) r k HR.out).mono ?_; rintro e w2 ⟨bo2, bc2, rfl, ho2, hb2⟩; have H2 : Hid (Room w2 g xs ∧ w.heap.size ≤ g ∧ g < w1.heap.size ∧ Rw w2 bo2 r w1.heap.size w2.heap.size ∧ Below w.heap.size w w2) := ⟨H1.out.1.below hb2 H1.out.1.lt, H1.out.2.1, H1.out.1.lt, Rw.of ho2 hb2, H1.out.2.2.trans (Below.less hb2 H1.out.2.2.size)⟩; clear ho2 hb2 H1)
    | (go_at_call 11; refine (refpack_at HX.out.2 HX.out.1 w2 H2.out.2.2.2.2 r k HR.out).mono ?_; rintro e w3 ⟨bo3, bc3, rfl, ho3, hb3⟩; have H3 : Hid (Pu w w3 g xs bo2 bo3 r w1.heap.size w2.heap.size w3.heap.size) := ⟨H2.out.1.below hb3 H2.out.1.lt, H2.out.2.1, H2.out.2.2.1, H2.out.2.2.2.1.on hb3, Rw.of ho3 hb3, H2.out.2.2.2.2.trans (Below.less hb3 H2.out.2.2.2.2.size)⟩; clear ho3 hb3 H2; generalize w3.heap.size = c3 at H3 ⊢; generalize w2.heap.size = c2 at H3 ⊢; generalize w1.heap.size = c1 at H3 ⊢)
    | (go_at_call 12; refine (same_yes bo2 bo3 r.length bc2 bc3 r w3 rfl (by omega) H3.out.r2.sl H3.out.r3.sl).mono ?_; rintro e w4' ⟨rfl, j4, rfl⟩; have H4 := hide (H3.out.drewN j4); clear H3; generalize w3.drewN j4 = w4 at H4 ⊢)
    | (go_at_call 13; refine (kept_ok g n ao cap xs w4 H4.out.room (HX.out.1.later H4.out.below) HX.out.2 (by omega)).mono ?_; rintro e w5' ⟨rfl, j5, rfl⟩; have H5 := hide (H4.out.drewN j5); clear H4; generalize w4.drewN j5 = w5 at H5 ⊢)
    | go_in)
  go_loopw [9, 10] (fun v i wr => ∃ (j : Nat) (to : Option Addr) (tc : Nat), j ≤ n ∧ i = .int .i64 j ∧ v = .slice to j tc ∧ Hid (Pu w wr g (T.take j ++ xs.drop j) bo2 bo3 r c1 c2 c3 ∧ wr.ownsRow c3 5 1 (.slice to j tc) j (bys (T.take j)))) (fun _ i _ => n - (intOf i).toNat)
  case atStart => exact ⟨0, none, 0, Nat.zero_le _, rfl, rfl, by simpa using H5.out, World.ownsRow_nil _ _ _ _⟩
  case round =>
    clear H5
    obtain ⟨j, to, tc, hj, rfl, rfl, HJ⟩ := hrel
    by_cases hjn : j < n
    · have hq1 : (j : Int) < (n : Int) := by omega
      obtain ⟨pb, po, hao, hpb, hcell⟩ := HX.out.1.open (by rintro rfl; have := HX.out.2; simp at this; omega)
      subst hao
      have cx : wr.cell? ⟨pb, po + j, none⟩ = some (.int .u8 (xs.getD j 0).toNat) := (HJ.out.1.below.cell (by exact hpb)).trans (hcell j (by have := HX.out.2; omega))
      obtain ⟨x, hx⟩ : ∃ x, xs.getD j 0 = x := ⟨_, rfl⟩
      obtain ⟨y, hy⟩ : ∃ y, T.getD j 0 = y := ⟨_, rfl⟩
      obtain ⟨q, hq⟩ : ∃ q, q = j % 3 := ⟨_, rfl⟩
      have hq3 : q < 3 := by omega
      have e3 : Int.tmod (j : Int) 3 = (q : Int) := by rw [Int.tmod_eq_emod_of_nonneg (by omega)]; omega
      have hxy : bits .xor .u8 (x.toNat : Int) (q : Int) = (y.toNat : Int) := by rw [xor_small x q hq3, ← hy, HT.out.2 j hjn, hx, hq]
      rw [hx] at cx
      have hTl := HT.out.1
      have hXl := HX.out.2
      have hmix := mix_step T xs j (by omega) (by omega)
      rw [hy] at hmix
      have htk := take_snoc' T 0 j (by omega)
      rw [hy] at htk
      have HM : Hid ((T.take j ++ xs.drop j).set j y = T.take (j + 1) ++ xs.drop (j + 1) ∧ T.take (j + 1) = T.take j ++ [y] ∧ (T.take j).length = j ∧ j < (T.take j ++ xs.drop j).length) := ⟨hmix, htk, by simp; omega, by simp; omega⟩
      have hjb : j ≤ 140737488351232 := by omega
      clear hmix htk hx hy hq hcell hTl hXl
      go_wp2_with (first
        | (at_builtin; refine wpList_appS (wr.alloc (.cells #[.int .u8 y.toNat] 5)) c3 rfl _ _ rfl rfl to tc (T.take j) [y] wr.heap.size 1 (by rw [HM.out.2.2.1]; rfl) rfl (by have := (HJ.out.2.alloc (.cells #[.int .u8 y.toNat] 5)); rwa [HM.out.2.2.1]) (sl_new1 wr y) rfl (by decide) (by rw [HM.out.2.2.1]; omega) (by have := HJ.out.1.r3.size; simp; omega) ?_; intro tb tc2 w6 hO6 hG6; rw [show (T.take j ++ [y]).length = j + 1 by rw [List.length_append, HM.out.2.2.1]; rfl] at hO6 ⊢; have hB6 : Below c3 wr w6 := pk_app HJ.out.1 HJ.out.2 hG6 HM.out.2.2.1; have H6 : Hid (Pu w w6 g (T.take j ++ xs.drop j) bo2 bo3 r c1 c2 c3 ∧ w6.ownsRow c3 5 1 (.slice (some ⟨tb, 0, none⟩) (j + 1) tc2) (j + 1) (bys (T.take j ++ [y]))) := ⟨HJ.out.1.low hB6, hO6⟩; clear hB6 hO6 hG6; have t0 : w6.cell? ⟨tb, j, none⟩ = some (.int .u8 y.toNat) := (by rw [H6.out.2.cellAt j (by omega), bys_at (by rw [List.length_append, HM.out.2.2.1]; simp)]; rw [List.getD_eq_getElem?_getD, List.getElem?_append_right (by rw [HM.out.2.2.1]; omega), HM.out.2.2.1]; simp); have gc := (H6.out.1.cell j HM.out.2.2.2).1; have gf := (H6.out.1.cell j HM.out.2.2.2).2; generalize ((T.take j ++ xs.drop j).getD j 0).toNat = old at gc; have hFin : Hid (Pu w (w6.setCell ⟨g, j, none⟩ (.int .u8 y.toNat)) g (T.take (j + 1) ++ xs.drop (j + 1)) bo2 bo3 r c1 c2 c3 ∧ (w6.setCell ⟨g, j, none⟩ (.int .u8 y.toNat)).ownsRow c3 5 1 (.slice (some ⟨tb, 0, none⟩) (j + 1) tc2) (j + 1) (bys (T.take (j + 1)))) := pk_put H6.out.1 H6.out.2 HM.out.2.2.2 HM.out.1 HM.out.2.1; clear H6)
        | go_in)
      go_roundw
      case rel => exact ⟨j + 1, some ⟨tb, 0, none⟩, tc2, by omega, by go_num, rfl, hFin.out⟩
      case measure => simp [intOf]; omega
    · have hjn2 : j = n := by omega
      subst hjn2
      have hq1 : ¬ ((j : Int) < (j : Int)) := by omega
      have HF : Hid (Pu w wr g T bo2 bo3 r c1 c2 c3 ∧ Sl wr to T) := ⟨by have := HJ.out.1; rw [List.take_of_length_le (by rw [HT.out.1]; exact Nat.le_refl _), List.drop_of_length_le (by rw [HX.out.2]; exact Nat.le_refl _), List.append_nil] at this; exact this, by have h1 := HJ.out.2; rw [List.take_of_length_le (by rw [HT.out.1]; exact Nat.le_refl _)] at h1; rw [← HT.out.1] at h1; exact (own_slc h1).1⟩
      clear HJ hjn
      go_wp2_with (first
        | (go_at_call 10; refine (pack_at HT.out.1 HF.out.1.room.sl wr (Below.refl _ _) r2 k2 HR2.out).mono ?_; rintro e w9 ⟨bo4, bc4, rfl, ho4, hb4⟩; have H9 : Hid (Pu w w9 g T bo2 bo3 r c1 c2 c3 ∧ Sl w9 to T ∧ Rw w9 bo4 r2 wr.heap.size w9.heap.size) := ⟨HF.out.1.on hb4, HF.out.2.later hb4, Rw.of ho4 hb4⟩; clear ho4 hb4 HF)
        | (go_at_call 11; refine (refpack_at HT.out.1 H9.out.2.1 w9 (Below.refl _ _) r2 k2 HR2.out).mono ?_; rintro e wa ⟨bo5, bc5, rfl, ho5, hb5⟩; have HA : Hid (Pu w wa g T bo2 bo3 r c1 c2 c3 ∧ Sl wa to T ∧ Sl wa bo4 r2 ∧ Sl wa bo5 r2) := ⟨H9.out.1.on hb5, H9.out.2.1.later hb5, H9.out.2.2.sl.later hb5, (Rw.of ho5 hb5).sl⟩; clear ho5 hb5 H9)
        | (go_at_call 12; refine (same_yes bo4 bo5 r2.length bc4 bc5 r2 wa rfl (by omega) HA.out.2.2.1 HA.out.2.2.2).mono ?_; rintro e wb' ⟨rfl, jb, rfl⟩; have HB : Hid (Pu w (wa.drewN jb) g T bo2 bo3 r c1 c2 c3 ∧ Sl (wa.drewN jb) to T) := ⟨HA.out.1.drewN jb, HA.out.2.1.drewN jb⟩; clear HA; generalize wa.drewN jb = wb at HB ⊢)
        | (go_at_call 12; refine (same_yes bo2 bo3 r.length bc2 bc3 r wb rfl (by omega) HB.out.1.r2.sl HB.out.1.r3.sl).mono ?_; rintro e wc' ⟨rfl, jc, rfl⟩; have HC : Hid (Pu w (wb.drewN jc) g T bo2 bo3 r c1 c2 c3 ∧ Sl (wb.drewN jc) to T) := ⟨HB.out.1.drewN jc, HB.out.2.drewN jc⟩; clear HB; generalize wb.drewN jc = wc at HC ⊢)
        | (go_at_call 13; refine (kept_ok g j to tc T wc HC.out.1.room HC.out.2 HT.out.1 (by omega)).mono ?_; rintro e wd' ⟨rfl, jd, rfl⟩; have HD := hide (HC.out.1.drewN jd); clear HC; generalize wc.drewN jd = wd at HD ⊢)
        | (go_at_call 14; refine (awake_ok _).mono ?_; rintro e we ⟨rfl, hbe⟩; have HE := hide (HD.out.on hbe); clear hbe HD)
        | go_in)
      go_ret
      exact ⟨rfl, HE.out.below⟩

end Go.Proofs.Ytcgkjdchkpnldaa
