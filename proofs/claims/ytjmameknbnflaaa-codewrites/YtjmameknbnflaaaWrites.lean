/-
  The walk: freightlaw1.CodeWrites.
-/
import Derived.Test.YtjmameknbnflaaaPr
namespace Go.Proofs.Ytjmameknbnflaaa
open Go.RowKit
set_option linter.unusedVariables false
set_option linter.unusedSimpArgs false

/-- What holds at the head of CodeWrites' loop. -/
structure WriRel (w wr : World) (b x D : Nat) (fp : List Nat) (v : Value) (o : Option (List UInt8)) (bo : Option Nat) (R : List UInt8) (k : Nat) : Prop where
  pr : Pair wr w.heap.size b x fp v o
  off : Off wr D bo R (pfp x fp v)
  ge : w.heap.size ≤ D
  geg : ∀ g, bo = some g → w.heap.size ≤ g
  len : ∀ ys, o = some ys → ys.length ≤ k * 200005
  below : Below w.heap.size w wr

theorem WriRel.kept {w wr w' : World} {b x D : Nat} {fp : List Nat} {v : Value} {o : Option (List UInt8)} {bo : Option Nat} {R : List UInt8} {k : Nat} (h : WriRel w wr b x D fp v o bo R k) (hk : Kept [] wr w') : WriRel w w' b x D fp v o bo R k :=
  ⟨h.pr.kept hk (by simp), h.off.kept hk (by simp), h.ge, h.geg, h.len, h.below.trans (hk.below h.below.size (by simp))⟩

theorem WriRel.le {w wr : World} {b x D : Nat} {fp : List Nat} {v : Value} {o : Option (List UInt8)} {bo : Option Nat} {R : List UInt8} {k : Nat} (h : WriRel w wr b x D fp v o bo R k) (hk : k ≤ 201) : ∀ ys, o = some ys → ys.length ≤ 90000000000 := fun ys hy => by
  have h1 := h.len ys hy
  have h2 : k * 200005 ≤ 201 * 200005 := Nat.mul_le_mul_right _ hk
  omega

theorem WriRel.step {w wr w1 w2 : World} {b x D : Nat} {fp : List Nat} {v : Value} {o : Option (List UInt8)} {bo : Option Nat} {R : List UInt8} {k : Nat} {kd vv wd : Int} {ds : List UInt8} (h : WriRel w wr b x D fp v o bo R k) (hd : ds.length ≤ 200000) (hp : LpEnd wr w1 x w.heap.size v (stPut o kd vv wd ds)) (hw : LwEnd w1 w2 (some ⟨b, 0, none⟩) fp (stPut o kd vv wd ds) D bo) :
    ∃ fp' v' bo' R', WriRel w w2 b x D fp' v' (stPut o kd vv wd ds) bo' R' (k + 1) := by
  have hsz := h.below.size
  obtain ⟨fp', v', bo', R', hpr, hoff, hk, hn, hb⟩ := pair_step h.pr h.off hp hw hsz
  refine ⟨fp', v', bo', R', hpr, hoff, h.ge, fun g hg => ?_, fun ys hy => ?_, h.below.trans (hk.below hsz (fun i hi => ?_))⟩
  · rcases hb g hg with h1 | h1
    · exact h.geg g h1
    · omega
  · have := stPut_len hd h.len ys hy
    rw [Nat.succ_mul]
    exact this
  · simp only [List.mem_append, mem_dkfp] at hi
    rcases hi with h1 | h1 | h1
    · exact (h.pr.lts i h1).1
    · rw [h1]; exact h.ge
    · exact h.geg i h1

theorem WriRel.belowp {w wr w1 : World} {b x D : Nat} {fp : List Nat} {v : Value} {o o' : Option (List UInt8)} {bo : Option Nat} {R : List UInt8} {k : Nat} (h : WriRel w wr b x D fp v o bo R k) (hp : LpEnd wr w1 x w.heap.size v o') : Below w.heap.size w w1 := by
  obtain ⟨v', hv, hk, hn⟩ := hp
  refine h.below.trans (hk.below h.below.size (fun i hi => ?_))
  refine (h.pr.lts i (mem_pfp.2 ?_)).1
  simp at hi
  exact .inr hi

theorem InB.far {w : World} {ao : Option Addr} {n cap : Nat} {xs : List UInt8} (h : InB w ao n cap xs) (hne : xs ≠ []) {a : Addr} (ha : ao = some a) : a.block < w.heap.size := by
  obtain ⟨b', off', e', hb', _⟩ := h.sl.open hne
  rw [e'] at ha
  cases ha
  exact hb'

theorem WriRel.far {w wr : World} {b x D : Nat} {fp : List Nat} {v : Value} {o : Option (List UInt8)} {bo : Option Nat} {R : List UInt8} {k : Nat} (h : WriRel w wr b x D fp v o bo R k) {i : Nat} (hi : i < w.heap.size) : i ∉ fp ++ dkfp D bo := by
  intro hm
  simp only [List.mem_append, mem_dkfp] at hm
  rcases hm with h1 | h1 | h1
  · have := h.pr.ge i h1; omega
  · have := h.ge; omega
  · have := h.geg i h1; omega

set_option maxHeartbeats 1500000 in
set_option maxRecDepth 100000 in
theorem writes_any (so : Option Addr) (sn scap : Nat) (L : List Cl) (w : World) (hL : L.length = sn) (hsm : sn ≤ 9223372036854775807) (hs : Scr w so L) :
    Calls Try.prog 4 #[.slice so sn scap] w fun e w' => e = .returned (.bool true) ∧ Below w.heap.size w w' := by
  have HSC : Hid (Scr w so L) := hs
  have HL : Hid (L.length = sn) := hL
  have hz1 := Try.zeroDesk0
  have hz2 := Try.zeroWriter
  have hz3 := Try.zeroLW
  clear hs hL
  go_enter Try.func4, Try.ntmps4
  go_wp2_with (fail)
  refine (long_any so sn scap L _ HL.out hsm HSC.out).mono ?_
  rintro e w' ⟨he, hw⟩
  obtain rfl := hw.symm
  rcases he with rfl | ⟨rfl, hsh⟩
  · go_wp2
    go_ret
    exact ⟨rfl, Below.refl _ _⟩
  have hsn : sn ≤ 200 := by have := hsh.1; rw [HL.out] at this; exact this
  have HV : Hid (∀ i, i < sn → (L.getD i cl0).ds.length ≤ 200000) := fun i hi => Nat.le_trans (vol_at (by rw [HL.out]; exact hi)) hsh.2
  clear hsh
  have HI : Hid (WriRel w (((w.alloc (.cells #[.slice none 0 0] 26)).alloc (.cells zeroW 42)).alloc (.cells #[.slice none 0 0, .bool false] 45)) (w.heap.size + 1) (w.heap.size + 1 + 1) w.heap.size [w.heap.size + 1] (.slice none 0 0) (some []) none [] 0) := by
    have hdk := dk_zero w
    have hB1 : Below w.heap.size w (w.alloc (.cells #[.slice none 0 0] 26)) := (Below.refl _ _).alloc (Nat.le_refl _) _
    have hsz1 : (w.alloc (.cells #[.slice none 0 0] 26)).heap.size = w.heap.size + 1 := by simp
    generalize w.alloc _ = w1 at hB1 hdk hsz1 ⊢
    have hwr := wr_zero w1
    have hk2 : Kept [] w1 (w1.alloc (.cells zeroW 42)) := (Kept.refl [] w1).alloc _
    have hsz2 : (w1.alloc (.cells zeroW 42)).heap.size = w.heap.size + 1 + 1 := by simp [hsz1]
    rw [hsz1] at hwr
    generalize w1.alloc _ = w2 at hwr hk2 hsz2 ⊢
    have hws := wds_zero w2 (base := w.heap.size) (by omega)
    have hk3 : Kept [] w2 (w2.alloc (.cells #[.slice none 0 0, .bool false] 45)) := (Kept.refl [] w2).alloc _
    rw [hsz2] at hws
    generalize w2.alloc _ = w3 at hws hk3 ⊢
    refine ⟨⟨.inl ⟨_, [], [], rfl, rfl, rfl, hwr.kept hk3 (by simp) (by simp)⟩, hws, by simp, by simp [Value.ownBlock], by simp, by omega⟩, ⟨(hdk.kept hk2 (by simp) (by simp)).kept hk3 (by simp) (by simp), by simp [pfp, Value.ownBlock]; omega, by simp⟩, Nat.le_refl _, by simp, by simp, (hB1.trans (hk2.below hB1.size (by simp))).trans (hk3.below (by omega) (by simp))⟩
  go_wp2
  obtain ⟨D, hD⟩ : ∃ D, D = w.heap.size := ⟨_, rfl⟩
  obtain ⟨b, hb⟩ : ∃ b, b = D + 1 := ⟨_, rfl⟩
  obtain ⟨x, hx⟩ : ∃ x, x = b + 1 := ⟨_, rfl⟩
  rw [← hD, ← hb, ← hx] at HI
  rw [← hD]
  try rw [← hb]
  try rw [← hx]
  generalize ((w.alloc _).alloc _).alloc _ = w3 at HI ⊢
  clear hD hb hx hz1 hz2 hz3
  go_loopw [6] (fun y wr => ∃ (k : Nat) (fp : List Nat) (v : Value) (o : Option (List UInt8)) (bo : Option Nat) (R : List UInt8), k ≤ sn ∧ y = .int .i64 k ∧ Hid (WriRel w wr b x D fp v o bo R k)) (fun y wr => sn - (intOf y).toNat)
  case atStart => exact ⟨0, _, _, _, _, _, Nat.zero_le _, rfl, HI⟩
  case round =>
    clear HI
    obtain ⟨k, fp, v, o, bo, R, hk, rfl, HF⟩ := hrel
    by_cases hlt : k < sn
    · obtain ⟨sb, soff, hso, hcl⟩ := HSC.out k (by rw [HL.out]; exact hlt)
      have HCL := (show Hid _ from hcl)
      have hcl2 := hcl.kept HF.out.below
      have e0 := hcl2.c0
      have e1 := hcl2.c1
      have e2 := hcl2.c2
      have e3 := hcl2.c3
      have hd2 := HV.out k hlt
      have HIN : Hid (InB w (L.getD k cl0).da (L.getD k cl0).dn (L.getD k cl0).dc (L.getD k cl0).ds) := hcl.inb
      rw [Nat.mul_comm] at e0 e1 e2 e3
      have HC0 : Hid (∀ w', Below w.heap.size w w' → w'.cell? ⟨sb, soff + k * 4, none⟩ = some (.int .i64 (L.getD k cl0).kind) ∧ w'.cell? ⟨sb, soff + k * 4 + 1, none⟩ = some (.int .i64 (L.getD k cl0).v) ∧ w'.cell? ⟨sb, soff + k * 4 + 2, none⟩ = some (.int .i64 (L.getD k cl0).width) ∧ w'.cell? ⟨sb, soff + k * 4 + 3, none⟩ = some (.slice (L.getD k cl0).da (L.getD k cl0).dn (L.getD k cl0).dc)) := fun w' hb => by
        have h := HCL.out.kept hb
        have e0 := h.c0
        have e1 := h.c1
        have e2 := h.c2
        have e3 := h.c3
        rw [Nat.mul_comm] at e0 e1 e2 e3
        exact ⟨e0, e1, e2, e3⟩
      generalize (L.getD k cl0).kind = kd at e0 HC0
      generalize (L.getD k cl0).v = vv at e1 HC0
      generalize (L.getD k cl0).width = wd at e2 HC0
      generalize (L.getD k cl0).da = da at e3 HIN HC0
      generalize (L.getD k cl0).dn = dn at e3 HIN HC0
      generalize (L.getD k cl0).dc = dc at e3 HIN HC0
      generalize (L.getD k cl0).ds = ds at HIN hd2
      subst hso
      clear hcl hcl2 HCL
      go_wp2_with (fail)
      have HDN : Hid (dn ≤ 200000) := by have := HIN.out.len; show dn ≤ 200000; omega
      refine (lput_any HF.out.pr.wd (HF.out.le (by omega)) kd vv wd da dn dc ds (HIN.out.kept (B := 0) HF.out.below) HDN.out).mono ?_
      rintro e w4 ⟨rfl, hp⟩
      have HP : Hid (LpEnd wr w4 x w.heap.size v (stPut o kd vv wd ds)) := hp
      have HB4 : Hid (Below w.heap.size w w4) := HF.out.belowp hp
      clear hp e0 e1 e2 e3
      obtain ⟨e0, e1, e2, e3⟩ := HC0.out w4 HB4.out
      go_wp2_with (fail)
      refine (lwrite_any (pair_put HF.out.pr HF.out.off HP.out) (HF.out.le (by omega)) kd vv wd da dn dc ds HIN.out.len HDN.out (HIN.out.sl.kept (Kept.of_below HB4.out) (by simp)) (fun hne a ha => HF.out.far (HIN.out.far hne ha))).mono ?_
      rintro e w5 ⟨rfl, hend⟩
      obtain ⟨fp5, v5, bo5, R5, h5⟩ := HF.out.step hd2 HP.out hend
      generalize stPut o kd vv wd ds = o5 at h5
      have HF5 : Hid (WriRel w w5 b x D fp5 v5 o5 bo5 R5 (k + 1)) := h5
      clear h5 hend HP HF HB4 e0 e1 e2 e3
      obtain ⟨e0, e1, e2, e3⟩ := HC0.out w5 HF5.out.below
      clear HC0 HIN HDN
      by_cases hkd : kd = 5
      · subst hkd
        go_wp2_with (fail)
        refine (lwrote_any HF5.out.pr.wr HF5.out.pr.wd (HF5.out.le (by omega))).mono ?_
        rintro e w6 ⟨rfl, hk6⟩
        have HF6 : Hid (WriRel w w6 b x D fp5 v5 o5 bo5 R5 (k + 1)) := HF5.out.kept hk6
        clear hk6 HF5 e0 e1 e2 e3
        go_wp2
        go_roundw
        case rel => exact ⟨k + 1, _, _, _, _, _, by omega, by go_num, HF6⟩
        case measure => simp [intOf]; omega
      · have hkd' : (kd == 5) = false := by simpa using hkd
        clear hkd
        go_wp2
        go_roundw
        case rel => exact ⟨k + 1, _, _, _, _, _, by omega, by go_num, HF5⟩
        case measure => simp [intOf]; omega
    · go_wp2_with (fail)
      refine (lwrote_any HF.out.pr.wr HF.out.pr.wd (HF.out.le (by omega))).mono ?_
      rintro e w5 ⟨rfl, hk5⟩
      have HF5 : Hid (WriRel w w5 b x D fp v o bo R k) := HF.out.kept hk5
      clear HF hk5
      go_wp2_with (fail)
      refine (lwrote_any HF5.out.pr.wr HF5.out.pr.wd (HF5.out.le (by omega))).mono ?_
      rintro e w6 ⟨rfl, hk6⟩
      have HB : Hid (Below w.heap.size w w6) := (HF5.out.kept hk6).below
      clear HF5 hk6
      go_wp2_with (go_at_call 14; refine (known_any _).mono ?_; rintro e wk ⟨rfl, hkk⟩)
      go_ret
      exact ⟨rfl, HB.out.trans (hkk.below HB.out.size (by simp))⟩

end Go.Proofs.Ytjmameknbnflaaa
