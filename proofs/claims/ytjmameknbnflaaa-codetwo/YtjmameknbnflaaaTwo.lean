/-
  The walk: freightlaw1.CodeTwo.
-/
import Derived.Test.YtjmameknbnflaaaPr
namespace Go.Proofs.Ytjmameknbnflaaa
open Go.RowKit
set_option linter.unusedVariables false
set_option linter.unusedSimpArgs false

/-- What holds at the head of CodeTwo's loop: two pairs and a desk, apart from one another. -/
structure TwwRel (w wr : World) (b x : Nat) (fp : List Nat) (v : Value) (o : Option (List UInt8)) (b2 x2 : Nat) (fp2 : List Nat) (v2 : Value) (o2 : Option (List UInt8)) (D : Nat) (bo : Option Nat) (R : List UInt8) (k : Nat) : Prop where
  p1 : Pair wr w.heap.size b x fp v o
  p2 : Pair wr w.heap.size b2 x2 fp2 v2 o2
  off1 : Off wr D bo R (pfp x fp v)
  off2 : Off wr D bo R (pfp x2 fp2 v2)
  sep : ∀ g, g ∈ pfp x fp v → g ∉ pfp x2 fp2 v2
  ge : w.heap.size ≤ D
  geg : ∀ g, bo = some g → w.heap.size ≤ g
  len1 : ∀ ys, o = some ys → ys.length ≤ k * 200005
  len2 : ∀ ys, o2 = some ys → ys.length ≤ k * 200005
  below : Below w.heap.size w wr

section
variable {w wr : World} {b x : Nat} {fp : List Nat} {v : Value} {o : Option (List UInt8)} {b2 x2 : Nat} {fp2 : List Nat} {v2 : Value} {o2 : Option (List UInt8)} {D : Nat} {bo : Option Nat} {R : List UInt8} {k : Nat}

theorem TwwRel.swap (h : TwwRel w wr b x fp v o b2 x2 fp2 v2 o2 D bo R k) : TwwRel w wr b2 x2 fp2 v2 o2 b x fp v o D bo R k :=
  ⟨h.p2, h.p1, h.off2, h.off1, fun g hg hm => h.sep g hm hg, h.ge, h.geg, h.len2, h.len1, h.below⟩

theorem TwwRel.kept {w' : World} (h : TwwRel w wr b x fp v o b2 x2 fp2 v2 o2 D bo R k) (hk : Kept [] wr w') : TwwRel w w' b x fp v o b2 x2 fp2 v2 o2 D bo R k :=
  ⟨h.p1.kept hk (by simp), h.p2.kept hk (by simp), h.off1.kept hk (by simp), h.off2.kept hk (by simp), h.sep, h.ge, h.geg, h.len1, h.len2, h.below.trans (hk.below h.below.size (by simp))⟩

theorem TwwRel.le1 (h : TwwRel w wr b x fp v o b2 x2 fp2 v2 o2 D bo R k) (hk : k ≤ 201) : ∀ ys, o = some ys → ys.length ≤ 90000000000 := fun ys hy => by
  have h1 := h.len1 ys hy
  have h2 : k * 200005 ≤ 201 * 200005 := Nat.mul_le_mul_right _ hk
  omega

theorem TwwRel.belowp {w1 : World} {o' : Option (List UInt8)} (h : TwwRel w wr b x fp v o b2 x2 fp2 v2 o2 D bo R k) (hp : LpEnd wr w1 x w.heap.size v o') : Below w.heap.size w w1 := by
  obtain ⟨v', hv, hk, hn⟩ := hp
  refine h.below.trans (hk.below h.below.size (fun i hi => ?_))
  refine (h.p1.lts i (mem_pfp.2 ?_)).1
  simp at hi
  exact .inr hi

theorem TwwRel.far (h : TwwRel w wr b x fp v o b2 x2 fp2 v2 o2 D bo R k) {i : Nat} (hi : i < w.heap.size) : i ∉ fp ++ dkfp D bo := by
  intro hm
  simp only [List.mem_append, mem_dkfp] at hm
  rcases hm with h1 | h1 | h1
  · have := h.p1.ge i h1; omega
  · have := h.ge; omega
  · have := h.geg i h1; omega

theorem TwwRel.step {w1 w2 : World} {kd vv wd : Int} {ds : List UInt8} (h : TwwRel w wr b x fp v o b2 x2 fp2 v2 o2 D bo R k) (hd : ds.length ≤ 200000) (hp : LpEnd wr w1 x w.heap.size v (stPut o kd vv wd ds)) (hw : LwEnd w1 w2 (some ⟨b, 0, none⟩) fp (stPut o kd vv wd ds) D bo) :
    ∃ fp' v' bo' R', TwwRel w w2 b x fp' v' (stPut o kd vv wd ds) b2 x2 fp2 v2 o2 D bo' R' (k + 1) := by
  have hsz := h.below.size
  obtain ⟨fp', v', bo', R', hpr, hoff, hk, hn, hb⟩ := pair_step h.p1 h.off1 hp hw hsz
  have hp2 : Pair w2 w.heap.size b2 x2 fp2 v2 o2 := h.p2.kept hk (fun g hg hm => by
    simp only [List.mem_append, mem_dkfp] at hm
    rcases hm with h1 | h1 | h1
    · exact h.sep g h1 hg
    · exact h.off2.d1 (h1 ▸ hg)
    · exact h.off2.d2 g h1 hg)
  refine ⟨fp', v', bo', R', hpr, hp2, hoff, ⟨hoff.dk, h.off2.d1, fun g hg hm => ?_⟩, fun g hg hm => ?_, h.ge, fun g hg => ?_, fun ys hy => ?_, fun ys hy => ?_, h.below.trans (hk.below hsz (fun i hi => ?_))⟩
  · rcases hb g hg with h1 | h1
    · exact h.off2.d2 g h1 hm
    · have := (h.p2.lts g hm).2; omega
  · rcases hn g hg with h1 | h1
    · exact h.sep g h1 hm
    · have := (h.p2.lts g hm).2; omega
  · rcases hb g hg with h1 | h1
    · exact h.geg g h1
    · omega
  · have := stPut_len hd h.len1 ys hy
    rw [Nat.succ_mul]
    exact this
  · exact Nat.le_trans (h.len2 ys hy) (Nat.mul_le_mul_right _ (Nat.le_succ k))
  · simp only [List.mem_append, mem_dkfp] at hi
    rcases hi with h1 | h1 | h1
    · exact (h.p1.lts i h1).1
    · rw [h1]; exact h.ge
    · exact h.geg i h1

end

theorem InB.far {w : World} {ao : Option Addr} {n cap : Nat} {xs : List UInt8} (h : InB w ao n cap xs) (hne : xs ≠ []) {a : Addr} (ha : ao = some a) : a.block < w.heap.size := by
  obtain ⟨b', off', e', hb', _⟩ := h.sl.open hne
  rw [e'] at ha
  cases ha
  exact hb'

set_option maxHeartbeats 1500000 in
set_option maxRecDepth 100000 in
theorem two_any (so : Option Addr) (sn scap : Nat) (L : List Cl) (w : World) (hL : L.length = sn) (hsm : sn ≤ 9223372036854775807) (hs : Scr w so L) :
    Calls Try.prog 5 #[.slice so sn scap] w fun e w' => e = .returned (.bool true) ∧ Below w.heap.size w w' := by
  have HSC : Hid (Scr w so L) := hs
  have HL : Hid (L.length = sn) := hL
  have hz1 := Try.zeroDesk0
  have hz2 := Try.zeroWriter
  have hz3 := Try.zeroLW
  clear hs hL
  go_enter Try.func5, Try.ntmps5
  go_wp2_with (fail)
  refine (long_any so sn scap L _ HL.out hsm HSC.out).mono ?_
  rintro e w' ⟨he, hw⟩
  obtain rfl := hw.symm
  rcases he with rfl | ⟨rfl, hsh⟩
  · go_wp2
    go_ret
    exact ⟨rfl, Below.refl _ _⟩
  have hsn : sn ≤ 200 := by have := hsh.1; rw [HL.out] at this; exact this
  have HV : Hid (∀ i, i < sn → (L.getD i cl0).ds.length ≤ 200000) := fun i hi => Nat.le_trans (vol_at (by rw [HL.out]; exact hi)) hsh.2
  clear hsh
  have HI : Hid (TwwRel w (((((w.alloc (.cells #[.slice none 0 0] 26)).alloc (.cells zeroW 42)).alloc (.cells zeroW 42)).alloc (.cells #[.slice none 0 0, .bool false] 45)).alloc (.cells #[.slice none 0 0, .bool false] 45)) (w.heap.size + 1) (w.heap.size + 1 + 1 + 1) [w.heap.size + 1] (.slice none 0 0) (some []) (w.heap.size + 1 + 1) (w.heap.size + 1 + 1 + 1 + 1) [w.heap.size + 1 + 1] (.slice none 0 0) (some []) w.heap.size none [] 0) := by
    have hdk := dk_zero w
    have hB1 : Below w.heap.size w (w.alloc (.cells #[.slice none 0 0] 26)) := (Below.refl _ _).alloc (Nat.le_refl _) _
    have hsz1 : (w.alloc (.cells #[.slice none 0 0] 26)).heap.size = w.heap.size + 1 := by simp
    generalize w.alloc _ = w1 at hB1 hdk hsz1 ⊢
    have hwr := wr_zero w1
    have hk2 : Kept [] w1 (w1.alloc (.cells zeroW 42)) := (Kept.refl [] w1).alloc _
    have hsz2 : (w1.alloc (.cells zeroW 42)).heap.size = w.heap.size + 1 + 1 := by simp [hsz1]
    rw [hsz1] at hwr
    generalize w1.alloc _ = w2 at hwr hk2 hsz2 ⊢
    have hwr2 := wr_zero w2
    have hk3 : Kept [] w2 (w2.alloc (.cells zeroW 42)) := (Kept.refl [] w2).alloc _
    have hsz3 : (w2.alloc (.cells zeroW 42)).heap.size = w.heap.size + 1 + 1 + 1 := by simp [hsz2]
    rw [hsz2] at hwr2
    generalize w2.alloc _ = w3 at hwr2 hk3 hsz3 ⊢
    have hws := wds_zero w3 (base := w.heap.size) (by omega)
    have hk4 : Kept [] w3 (w3.alloc (.cells #[.slice none 0 0, .bool false] 45)) := (Kept.refl [] w3).alloc _
    have hsz4 : (w3.alloc (.cells #[.slice none 0 0, .bool false] 45)).heap.size = w.heap.size + 1 + 1 + 1 + 1 := by simp [hsz3]
    rw [hsz3] at hws
    generalize w3.alloc _ = w4 at hws hk4 hsz4 ⊢
    have hws2 := wds_zero w4 (base := w.heap.size) (by omega)
    have hk5 : Kept [] w4 (w4.alloc (.cells #[.slice none 0 0, .bool false] 45)) := (Kept.refl [] w4).alloc _
    rw [hsz4] at hws2
    generalize w4.alloc _ = w5 at hws2 hk5 ⊢
    have hk35 : Kept [] w3 w5 := hk4.trans hk5 (by simp)
    have hk25 : Kept [] w2 w5 := hk3.trans hk35 (by simp)
    have hk15 : Kept [] w1 w5 := hk2.trans hk25 (by simp)
    have ho : (Value.slice none 0 0).ownBlock = none := rfl
    have hD := hdk.kept hk15 (by simp) (by simp)
    refine ⟨⟨.inl ⟨_, [], [], rfl, rfl, rfl, hwr.kept hk25 (by simp) (by simp)⟩, hws.kept hk5 (by simp) (by simp), by simp; omega, by simp [ho], by simp, by omega⟩, ⟨.inl ⟨_, [], [], rfl, rfl, rfl, hwr2.kept hk35 (by simp) (by simp)⟩, hws2, by simp; omega, by simp [ho], by simp [Nat.le_add_right, Nat.add_assoc], by omega⟩, ⟨hD, by simp [pfp, ho] <;> omega, by simp⟩, ⟨hD, by simp [pfp, ho] <;> omega, by simp⟩, by simp [pfp, ho] <;> omega, Nat.le_refl _, by simp, by simp, by simp, hB1.trans (hk15.below hB1.size (by simp))⟩
  go_wp2
  obtain ⟨D, hD⟩ : ∃ D, D = w.heap.size := ⟨_, rfl⟩
  obtain ⟨b, hb⟩ : ∃ b, b = D + 1 := ⟨_, rfl⟩
  obtain ⟨b2, hb2⟩ : ∃ b2, b2 = b + 1 := ⟨_, rfl⟩
  obtain ⟨x, hx⟩ : ∃ x, x = b2 + 1 := ⟨_, rfl⟩
  obtain ⟨x2, hx2⟩ : ∃ x2, x2 = x + 1 := ⟨_, rfl⟩
  rw [← hD, ← hb, ← hb2, ← hx, ← hx2] at HI
  rw [← hD]
  try rw [← hb]
  try rw [← hb2]
  try rw [← hx]
  try rw [← hx2]
  generalize ((((w.alloc _).alloc _).alloc _).alloc _).alloc _ = w3 at HI ⊢
  clear hD hb hb2 hx hx2 hz1 hz2 hz3
  go_loopw [8] (fun y wr => ∃ (k : Nat) (fp : List Nat) (v : Value) (o : Option (List UInt8)) (fp2 : List Nat) (v2 : Value) (o2 : Option (List UInt8)) (bo : Option Nat) (R : List UInt8), k ≤ sn ∧ y = .int .i64 k ∧ Hid (TwwRel w wr b x fp v o b2 x2 fp2 v2 o2 D bo R k)) (fun y wr => sn - (intOf y).toNat)
  case atStart => exact ⟨0, _, _, _, _, _, _, _, _, Nat.zero_le _, rfl, HI⟩
  case round =>
    clear HI
    obtain ⟨k, fp, v, o, fp2, v2, o2, bo, R, hk, rfl, HF0⟩ := hrel
    by_cases hlt : k < sn
    · obtain ⟨sb, soff, hso, hcl⟩ := HSC.out k (by rw [HL.out]; exact hlt)
      have hcl2 := hcl.kept HF0.out.below
      have e0 := hcl2.c0
      have e1 := hcl2.c1
      have e2 := hcl2.c2
      have e3 := hcl2.c3
      have hd2 := HV.out k hlt
      have HIN : Hid (InB w (L.getD k cl0).da (L.getD k cl0).dn (L.getD k cl0).dc (L.getD k cl0).ds) := hcl.inb
      generalize (L.getD k cl0).kind = kd at e0
      generalize (L.getD k cl0).v = vv at e1
      generalize (L.getD k cl0).width = wd at e2
      generalize (L.getD k cl0).da = da at e3 HIN
      generalize (L.getD k cl0).dn = dn at e3 HIN
      generalize (L.getD k cl0).dc = dc at e3 HIN
      generalize (L.getD k cl0).ds = ds at HIN hd2
      rw [Nat.mul_comm] at e0 e1 e2 e3
      subst hso
      clear hcl hcl2
      have HDN : Hid (dn ≤ 200000) := by have := HIN.out.len; show dn ≤ 200000; omega
      have HF : Hid (TwwRel w (wr.alloc (.cells #[.int .i64 kd, .int .i64 vv, .int .i64 wd, .slice da dn dc] 48)) b x fp v o b2 x2 fp2 v2 o2 D bo R k) := HF0.out.kept ((Kept.refl [] wr).alloc _)
      obtain ⟨cb, hcb⟩ : ∃ cb, cb = wr.heap.size := ⟨_, rfl⟩
      have HCB : Hid (cb ∉ pfp x fp v ∧ cb ∉ pfp x2 fp2 v2) := ⟨fun hm => by have := (HF0.out.p1.lts cb hm).2; omega, fun hm => by have := (HF0.out.p2.lts cb hm).2; omega⟩
      have c10 : (wr.alloc (.cells #[.int .i64 kd, .int .i64 vv, .int .i64 wd, .slice da dn dc] 48)).cell? ⟨cb, 0, none⟩ = some (.int .i64 kd) := by rw [hcb]; simp
      have c11 : (wr.alloc (.cells #[.int .i64 kd, .int .i64 vv, .int .i64 wd, .slice da dn dc] 48)).cell? ⟨cb, 1, none⟩ = some (.int .i64 vv) := by rw [hcb]; simp
      have c12 : (wr.alloc (.cells #[.int .i64 kd, .int .i64 vv, .int .i64 wd, .slice da dn dc] 48)).cell? ⟨cb, 2, none⟩ = some (.int .i64 wd) := by rw [hcb]; simp
      have c13 : (wr.alloc (.cells #[.int .i64 kd, .int .i64 vv, .int .i64 wd, .slice da dn dc] 48)).cell? ⟨cb, 3, none⟩ = some (.slice da dn dc) := by rw [hcb]; simp
      clear HF0
      by_cases hpar : k % 2 = 0
      · have p1 : ((k : Int) % 2 == 0) = true := by simp; omega
        clear hpar
        go_wp2_with (fail)
        rw [← hcb]
        generalize wr.alloc _ = w4 at HF c10 c11 c12 c13 ⊢
        clear hcb e0 e1 e2 e3
        refine (lput_any HF.out.p1.wd (HF.out.le1 (by omega)) kd vv wd da dn dc ds (HIN.out.kept (B := 0) HF.out.below) HDN.out).mono ?_
        rintro e w5 ⟨rfl, hp⟩
        have HP : Hid (LpEnd w4 w5 x w.heap.size v (stPut o kd vv wd ds)) := hp
        have HB5 : Hid (Below w.heap.size w w5) := HF.out.belowp hp
        obtain ⟨d10, d11, d12, d13⟩ : w5.cell? ⟨cb, 0, none⟩ = some (.int .i64 kd) ∧ w5.cell? ⟨cb, 1, none⟩ = some (.int .i64 vv) ∧ w5.cell? ⟨cb, 2, none⟩ = some (.int .i64 wd) ∧ w5.cell? ⟨cb, 3, none⟩ = some (.slice da dn dc) := by
          obtain ⟨_, _, hk, _⟩ := hp
          have hn : cb ∉ x :: (v).ownBlock.toList := fun hm => HCB.out.1 (mem_pfp.2 (.inr (by simpa using hm)))
          exact ⟨hk.cellOf c10 hn, hk.cellOf c11 hn, hk.cellOf c12 hn, hk.cellOf c13 hn⟩
        clear hp c10 c11 c12 c13
        go_wp2_with (fail)
        refine (lwrite_any (pair_put HF.out.p1 HF.out.off1 HP.out) (HF.out.le1 (by omega)) kd vv wd da dn dc ds HIN.out.len HDN.out (HIN.out.sl.kept (Kept.of_below HB5.out) (by simp)) (fun hne a ha => HF.out.far (HIN.out.far hne ha))).mono ?_
        rintro e w6 ⟨rfl, hend⟩
        obtain ⟨fp5, v5, bo5, R5, h5⟩ := HF.out.step hd2 HP.out hend
        generalize stPut o kd vv wd ds = o5 at h5
        have HF5 : Hid (TwwRel w w6 b x fp5 v5 o5 b2 x2 fp2 v2 o2 D bo5 R5 (k + 1)) := h5
        clear h5 hend HP HF HB5 d10 d11 d12 d13 HIN HDN HCB
        go_wp2_with (fail)
        refine (lwrote_any HF5.out.p1.wr HF5.out.p1.wd (HF5.out.le1 (by omega))).mono ?_
        rintro e w7 ⟨rfl, hk7⟩
        have HF7 := (show Hid _ from HF5.out.kept hk7)
        clear hk7 HF5
        go_wp2_with (fail)
        refine (lwrote_any HF7.out.p2.wr HF7.out.p2.wd (HF7.out.swap.le1 (by omega))).mono ?_
        rintro e w8 ⟨rfl, hk8⟩
        have HF8 := (show Hid _ from HF7.out.kept hk8)
        clear hk8 HF7
        go_wp2
        go_roundw
        case rel => exact ⟨k + 1, _, _, _, _, _, _, _, _, by omega, by go_num, HF8⟩
        case measure => simp [intOf]; omega
      · have p1 : ((k : Int) % 2 == 0) = false := by simp; omega
        clear hpar
        go_wp2_with (fail)
        rw [← hcb]
        generalize wr.alloc _ = w4 at HF c10 c11 c12 c13 ⊢
        clear hcb e0 e1 e2 e3
        refine (lput_any HF.out.swap.p1.wd (HF.out.swap.le1 (by omega)) kd vv wd da dn dc ds (HIN.out.kept (B := 0) HF.out.below) HDN.out).mono ?_
        rintro e w5 ⟨rfl, hp⟩
        have HP : Hid (LpEnd w4 w5 x2 w.heap.size v2 (stPut o2 kd vv wd ds)) := hp
        have HB5 : Hid (Below w.heap.size w w5) := HF.out.swap.belowp hp
        obtain ⟨d10, d11, d12, d13⟩ : w5.cell? ⟨cb, 0, none⟩ = some (.int .i64 kd) ∧ w5.cell? ⟨cb, 1, none⟩ = some (.int .i64 vv) ∧ w5.cell? ⟨cb, 2, none⟩ = some (.int .i64 wd) ∧ w5.cell? ⟨cb, 3, none⟩ = some (.slice da dn dc) := by
          obtain ⟨_, _, hk, _⟩ := hp
          have hn : cb ∉ x2 :: (v2).ownBlock.toList := fun hm => HCB.out.2 (mem_pfp.2 (.inr (by simpa using hm)))
          exact ⟨hk.cellOf c10 hn, hk.cellOf c11 hn, hk.cellOf c12 hn, hk.cellOf c13 hn⟩
        clear hp c10 c11 c12 c13
        go_wp2_with (fail)
        refine (lwrite_any (pair_put HF.out.swap.p1 HF.out.swap.off1 HP.out) (HF.out.swap.le1 (by omega)) kd vv wd da dn dc ds HIN.out.len HDN.out (HIN.out.sl.kept (Kept.of_below HB5.out) (by simp)) (fun hne a ha => HF.out.swap.far (HIN.out.far hne ha))).mono ?_
        rintro e w6 ⟨rfl, hend⟩
        obtain ⟨fp5, v5, bo5, R5, h5⟩ := HF.out.swap.step hd2 HP.out hend
        generalize stPut o2 kd vv wd ds = o5 at h5
        have HF5 : Hid (TwwRel w w6 b x fp v o b2 x2 fp5 v5 o5 D bo5 R5 (k + 1)) := h5.swap
        clear h5 hend HP HF HB5 d10 d11 d12 d13 HIN HDN HCB
        go_wp2_with (fail)
        refine (lwrote_any HF5.out.p1.wr HF5.out.p1.wd (HF5.out.le1 (by omega))).mono ?_
        rintro e w7 ⟨rfl, hk7⟩
        have HF7 := (show Hid _ from HF5.out.kept hk7)
        clear hk7 HF5
        go_wp2_with (fail)
        refine (lwrote_any HF7.out.p2.wr HF7.out.p2.wd (HF7.out.swap.le1 (by omega))).mono ?_
        rintro e w8 ⟨rfl, hk8⟩
        have HF8 := (show Hid _ from HF7.out.kept hk8)
        clear hk8 HF7
        go_wp2
        go_roundw
        case rel => exact ⟨k + 1, _, _, _, _, _, _, _, _, by omega, by go_num, HF8⟩
        case measure => simp [intOf]; omega
    · have HB : Hid (Below w.heap.size w wr) := HF0.out.below
      clear HF0
      go_wp2_with (go_at_call 14; refine (known_any _).mono ?_; rintro e wk ⟨rfl, hkk⟩)
      go_ret
      exact ⟨rfl, HB.out.trans (hkk.below HB.out.size (by simp))⟩

end Go.Proofs.Ytjmameknbnflaaa
