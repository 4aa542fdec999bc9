/-
  The walk: freightlaw1.CodeNothing.
-/
import Derived.Test.YtjmameknbnflaaaLw
namespace Go.Proofs.Ytjmameknbnflaaa
open Go.RowKit
set_option linter.unusedVariables false
set_option linter.unusedSimpArgs false

theorem Try.zeroReader (W : World) : (zeroValue 60).run Try.prog W = .ok (.agg #[.int .i64 0, .int .i64 0, .slice none 0 0, .int .i64 0]) W := by kernel_rfl
theorem Try.zeroRef (W : World) : (zeroValue 55).run Try.prog W = .ok (.agg #[.slice none 0 0, .int .i64 0, .int .i64 0, .int .i64 0]) W := by kernel_rfl

/-- What holds at the head of CodeNothing's loop. -/
structure NothRel (w wr : World) (z x D : Nat) (bo : Option Nat) (R : List UInt8) : Prop where
  two : ∃ s, Two wr z x none none 0 0 [] s
  wd : WD wr none [] none D bo R
  ge : w.heap.size ≤ z ∧ w.heap.size ≤ x ∧ w.heap.size ≤ D
  geg : ∀ g, bo = some g → w.heap.size ≤ g ∧ g ≠ z ∧ g ≠ x
  ne : D ≠ z ∧ D ≠ x
  below : Below w.heap.size w wr

theorem NothRel.kept {w wr w' : World} {z x D : Nat} {bo : Option Nat} {R : List UInt8} (h : NothRel w wr z x D bo R) (hk : Kept [] wr w') : NothRel w w' z x D bo R := by
  obtain ⟨s, hs⟩ := h.two
  exact ⟨⟨s, hs.kept hk (by simp) (by simp) (by simp) (by simp)⟩, h.wd.kept hk (by simp) (by simp) (by simp), h.ge, h.geg, h.ne, h.below.trans (hk.below h.below.size (by simp))⟩

theorem NothRel.wrote {w wr w' : World} {z x D : Nat} {bo : Option Nat} {R : List UInt8} (h : NothRel w wr z x D bo R) (hw : LwEnd wr w' none [] none D bo) : ∃ bo' R', NothRel w w' z x D bo' R' := by
  obtain ⟨fp', bo', R', hwd, hk, hs, hb⟩ := hw
  obtain rfl := hwd.nofp rfl
  obtain ⟨s, ht⟩ := h.two
  have hge := h.ge
  have hne := h.ne
  have hz := ht.rd.lt
  have hx := ht.rf.lt
  have hsz := h.below.size
  refine ⟨bo', R', ⟨s, ht.kept hk ?_ ?_ (by simp) (by simp)⟩, hwd, h.ge, fun g hg => ?_, h.ne, h.below.trans (hk.below h.below.size (fun i hi => ?_))⟩
  · simp only [List.nil_append, mem_dkfp]
    rintro (h1 | h1)
    · omega
    · have := h.geg _ h1; omega
  · simp only [List.nil_append, mem_dkfp]
    rintro (h1 | h1)
    · omega
    · have := h.geg _ h1; omega
  · rcases hb g hg with h1 | h1
    · exact h.geg g h1
    · omega
  · simp only [List.nil_append, mem_dkfp] at hi
    rcases hi with h1 | h1
    · omega
    · have := h.geg _ h1; omega

theorem NothRel.read {w wr w' : World} {z x D : Nat} {bo : Option Nat} {R : List UInt8} (h : NothRel w wr z x D bo R) (hk : Kept [z, x] wr w') (ht : ∃ s, Two w' z x none none 0 0 [] s) : NothRel w w' z x D bo R := by
  have hge := h.ge
  have hne := h.ne
  refine ⟨ht, h.wd.kept hk (by simp) (by simp; omega) (fun g hg => by have := h.geg g hg; simp; omega), h.ge, h.geg, h.ne, h.below.trans (hk.below h.below.size (fun i hi => ?_))⟩
  simp at hi
  omega

theorem InB.block' {w : World} {ao : Option Addr} {n cap : Nat} {xs : List UInt8} (h : InB w ao n cap xs) (hne : xs ≠ []) {a : Addr} (ha : ao = some a) : a.block < w.heap.size := by
  obtain ⟨b', off', e', hb', _⟩ := h.sl.open hne
  rw [e'] at ha
  cases ha
  exact hb'

set_option maxHeartbeats 1500000 in
set_option maxRecDepth 100000 in
theorem nothing_any (so : Option Addr) (sn scap : Nat) (L : List Cl) (w : World) (hL : L.length = sn) (hsm : sn ≤ 9223372036854775807) (hs : Scr w so L) :
    Calls Try.prog 8 #[.slice so sn scap] w fun e w' => e = .returned (.bool true) ∧ Below w.heap.size w w' := by
  have HSC : Hid (Scr w so L) := hs
  have HL : Hid (L.length = sn) := hL
  have hz1 := Try.zeroDesk0
  have hz2 := Try.zeroReader
  have hz3 := Try.zeroRef
  clear hs hL
  go_enter Try.func8, Try.ntmps8
  go_wp2_with (fail)
  refine (long_any so sn scap L _ HL.out hsm HSC.out).mono ?_
  rintro e w' ⟨he, hw⟩
  obtain rfl := hw.symm
  rcases he with rfl | ⟨rfl, hsh⟩
  · go_wp2
    go_ret
    exact ⟨rfl, Below.refl _ _⟩
  have hsn : sn ≤ 200 := by have := hsh.1; rw [HL.out] at this; exact this
  have HV : Hid (∀ i, i < sn → (L.getD i cl0).ds.length ≤ 200000) := fun i hi => Nat.le_trans (vol_at (by rw [HL.out]; exact hi)) hsh.2
  clear hsh
  have HI : Hid (NothRel w (((w.alloc (.cells #[.int .i64 0, .int .i64 0, .slice none 0 0, .int .i64 0] 60)).alloc (.cells #[.slice none 0 0, .int .i64 0, .int .i64 0, .int .i64 0] 55)).alloc (.cells #[.slice none 0 0] 26)) w.heap.size (w.heap.size + 1) (w.heap.size + 1 + 1) none []) := by
    have hB1 : Below w.heap.size w (w.alloc (.cells #[.int .i64 0, .int .i64 0, .slice none 0 0, .int .i64 0] 60)) := (Below.refl _ _).alloc (Nat.le_refl _) _
    have hrd : Rd (w.alloc (.cells #[.int .i64 0, .int .i64 0, .slice none 0 0, .int .i64 0] 60)) w.heap.size 0 0 none 0 [] 0 := ⟨by simp, by simp, by simp, by simp, by simp, by simp, by simp, by simp, by simp, by simp, Sl.nil _ _, fun _ => ⟨rfl, rfl⟩, by simp, by simp⟩
    have hsz1 : (w.alloc (.cells #[.int .i64 0, .int .i64 0, .slice none 0 0, .int .i64 0] 60)).heap.size = w.heap.size + 1 := by simp
    generalize w.alloc _ = w1 at hB1 hrd hsz1 ⊢
    have hB2 : Below w.heap.size w (w1.alloc (.cells #[.slice none 0 0, .int .i64 0, .int .i64 0, .int .i64 0] 55)) := hB1.alloc hB1.size _
    have hrf : RfS (w1.alloc (.cells #[.slice none 0 0, .int .i64 0, .int .i64 0, .int .i64 0] 55)) w1.heap.size none 0 [] ⟨0, 0, 0⟩ := ⟨by simp, by simp, by simp, by simp, by simp, by simp, by simp, by simp, by simp, by simp, Sl.nil _ _, by simp⟩
    have hrd2 := hrd.kept ((Kept.refl [] w1).alloc (.cells #[.slice none 0 0, .int .i64 0, .int .i64 0, .int .i64 0] 55)) (by simp) (by simp)
    have hsz2 : (w1.alloc (.cells #[.slice none 0 0, .int .i64 0, .int .i64 0, .int .i64 0] 55)).heap.size = w.heap.size + 1 + 1 := by simp [hsz1]
    rw [hsz1] at hrf
    generalize w1.alloc _ = w2 at hB2 hrf hrd2 hsz2 ⊢
    have hdk := dk_zero w2
    have hk3 : Kept [] w2 (w2.alloc (.cells #[.slice none 0 0] 26)) := (Kept.refl [] w2).alloc _
    have hB3 : Below w.heap.size w (w2.alloc (.cells #[.slice none 0 0] 26)) := hB2.alloc hB2.size _
    rw [hsz2] at hdk
    generalize w2.alloc _ = w3 at hdk hk3 hB3 ⊢
    refine ⟨⟨⟨0, 0, 0⟩, ⟨⟨0, fun _ => rfl, hrd2.kept hk3 (by simp) (by simp)⟩, hrf.kept hk3 (by simp) (by simp), by omega, by simp, by simp⟩⟩, ⟨.inr ⟨rfl, .inl rfl, by simp⟩, hdk, by simp, by simp, fun _ => rfl⟩, by omega, by simp, by omega, hB3⟩
  go_wp2
  obtain ⟨z, hz⟩ : ∃ z, z = w.heap.size := ⟨_, rfl⟩
  obtain ⟨x, hx⟩ : ∃ x, x = z + 1 := ⟨_, rfl⟩
  obtain ⟨D, hD⟩ : ∃ D, D = x + 1 := ⟨_, rfl⟩
  rw [← hz, ← hx, ← hD] at HI
  rw [← hz]
  try rw [← hx]
  try rw [← hD]
  generalize ((w.alloc _).alloc _).alloc _ = w3 at HI ⊢
  clear hz hx hD hz1 hz2 hz3
  go_loopw [8] (fun y wr => ∃ (k : Nat) (bo : Option Nat) (R : List UInt8), k ≤ sn ∧ y = .int .i64 k ∧ Hid (NothRel w wr z x D bo R)) (fun y wr => sn - (intOf y).toNat)
  case atStart => exact ⟨0, none, [], Nat.zero_le _, rfl, HI⟩
  case round =>
    clear HI
    obtain ⟨k, bo, R, hk, rfl, HF⟩ := hrel
    by_cases hlt : k < sn
    · obtain ⟨sb, soff, hso, hcl⟩ := HSC.out k (by rw [HL.out]; exact hlt)
      have hcl2 := hcl.kept HF.out.below
      have e0 := hcl2.c0
      have e1 := hcl2.c1
      have e2 := hcl2.c2
      have e3 := hcl2.c3
      have hd2 := HV.out k hlt
      have HIN : Hid (InB w (L.getD k cl0).da (L.getD k cl0).dn (L.getD k cl0).dc (L.getD k cl0).ds) := hcl.inb
      generalize (L.getD k cl0).kind = kd at e0
      generalize (L.getD k cl0).v = vv at e1
      generalize (L.getD k cl0).width = wd at e2
      generalize (L.getD k cl0).da = da at e3 HIN
      generalize (L.getD k cl0).dn = dn at e3 HIN
      generalize (L.getD k cl0).dc = dc at e3 HIN
      generalize (L.getD k cl0).ds = ds at HIN hd2
      rw [Nat.mul_comm] at e0 e1 e2 e3
      subst hso
      clear hcl hcl2
      have HF4 : Hid (NothRel w (wr.alloc (.cells #[.int .i64 kd, .int .i64 vv, .int .i64 wd, .slice da dn dc] 48)) z x D bo R) := HF.out.kept ((Kept.refl [] wr).alloc _)
      obtain ⟨cb, hcb⟩ : ∃ cb, cb = wr.heap.size := ⟨_, rfl⟩
      have HCB : Hid (cb ≠ z ∧ cb ≠ x ∧ cb ∉ dkfp D bo) := by
        obtain ⟨s, ht⟩ := HF.out.two
        have h1 := ht.rd.lt
        have h2 := ht.rf.lt
        have h3 := HF.out.wd.dk.lt
        refine ⟨by omega, by omega, fun hm => ?_⟩
        rcases mem_dkfp.1 hm with h | h
        · omega
        · have := HF.out.wd.dk.ltg _ h; omega
      have c10 : (wr.alloc (.cells #[.int .i64 kd, .int .i64 vv, .int .i64 wd, .slice da dn dc] 48)).cell? ⟨cb, 0, none⟩ = some (.int .i64 kd) := by rw [hcb]; simp
      have c11 : (wr.alloc (.cells #[.int .i64 kd, .int .i64 vv, .int .i64 wd, .slice da dn dc] 48)).cell? ⟨cb, 1, none⟩ = some (.int .i64 vv) := by rw [hcb]; simp
      have c12 : (wr.alloc (.cells #[.int .i64 kd, .int .i64 vv, .int .i64 wd, .slice da dn dc] 48)).cell? ⟨cb, 2, none⟩ = some (.int .i64 wd) := by rw [hcb]; simp
      have c13 : (wr.alloc (.cells #[.int .i64 kd, .int .i64 vv, .int .i64 wd, .slice da dn dc] 48)).cell? ⟨cb, 3, none⟩ = some (.slice da dn dc) := by rw [hcb]; simp
      clear HF
      go_wp2_with (fail)
      rw [← hcb]
      generalize wr.alloc _ = w4 at HF4 c10 c11 c12 c13 ⊢
      clear hcb e0 e1 e2 e3
      refine (lwrite_any HF4.out.wd (by simp) kd vv wd da dn dc ds HIN.out.len (by have := HIN.out.len; omega) (HIN.out.sl.kept (Kept.of_below HF4.out.below) (by simp)) (fun hne a ha hm => by
        have h1 := HIN.out.block' hne ha
        have h2 := HF4.out.ge
        simp only [List.nil_append, mem_dkfp] at hm
        rcases hm with h | h
        · omega
        · have := HF4.out.geg _ h; omega)).mono ?_
      rintro e w5 ⟨rfl, hend⟩
      have hst : stPut none kd vv wd ds = none := by unfold stPut; simp [stWNumber, stWFixed, stWRaw, stWText]
      rw [hst] at hend
      obtain ⟨bo5, R5, h5⟩ := HF4.out.wrote hend
      have HF5 : Hid (NothRel w w5 z x D bo5 R5) := h5
      have hk5 : Kept (dkfp D bo) w4 w5 := by
        obtain ⟨_, _, _, _, hk, _⟩ := hend
        exact hk
      have d10 : w5.cell? ⟨cb, 0, none⟩ = some (.int .i64 kd) := hk5.cellOf c10 HCB.out.2.2
      have d11 : w5.cell? ⟨cb, 1, none⟩ = some (.int .i64 vv) := hk5.cellOf c11 HCB.out.2.2
      have d12 : w5.cell? ⟨cb, 2, none⟩ = some (.int .i64 wd) := hk5.cellOf c12 HCB.out.2.2
      have d13 : w5.cell? ⟨cb, 3, none⟩ = some (.slice da dn dc) := hk5.cellOf c13 HCB.out.2.2
      clear hend h5 hk5 c10 c11 c12 c13 HF4 hst
      go_wp2_with (fail)
      refine (wdata_shut (.inl rfl)).mono ?_
      rintro e w' ⟨rfl, hw⟩
      obtain rfl := hw.symm
      go_wp2_with (fail)
      refine (num_any _ _).mono ?_
      rintro e w' ⟨rfl, hw⟩
      obtain rfl := hw.symm
      go_wp2_with (fail)
      refine (err_nil _).mono ?_
      rintro e w' ⟨rfl, hw⟩
      obtain rfl := hw.symm
      go_wp2_with (fail)
      refine (rnumber_nil _).mono ?_
      rintro e w' ⟨rfl, hw⟩
      obtain rfl := hw.symm
      go_wp2_with (fail)
      refine (rfixed_nil _ _).mono ?_
      rintro e w' ⟨rfl, hw⟩
      obtain rfl := hw.symm
      go_wp2_with (fail)
      refine (raw_nil _ _).mono ?_
      rintro e w' ⟨rfl, hw⟩
      obtain rfl := hw.symm
      go_wp2_with (fail)
      refine (text_nil _ _).mono ?_
      rintro e w' ⟨rfl, hw⟩
      obtain rfl := hw.symm
      go_wp2_with (fail)
      refine (left_nil _).mono ?_
      rintro e w' ⟨rfl, hw⟩
      obtain rfl := hw.symm
      go_wp2_with (fail)
      refine (num_any _ _).mono ?_
      rintro e w' ⟨rfl, hw⟩
      obtain rfl := hw.symm
      obtain ⟨s, htw⟩ := HF5.out.two
      have HTW : Hid (Two w5 z x none none 0 0 [] s) := htw
      clear htw
      go_wp2_with (fail)
      refine (lread_any HTW.out kd vv wd da dn dc).mono ?_
      rintro e w6 ⟨rfl, hk6, ht6⟩
      have HF6 : Hid (NothRel w w6 z x D bo5 R5) := HF5.out.read hk6 ht6
      clear hk6 ht6 HF5 HTW d10 d11 d12 d13
      go_wp2
      go_roundw
      case rel => exact ⟨k + 1, bo5, R5, by omega, by go_num, HF6⟩
      case measure => simp [intOf]; omega
    · have hB := HF.out.below
      clear HF
      go_wp2_with (go_at_call 14; refine (known_any _).mono ?_; rintro e wk ⟨rfl, hkk⟩)
      go_ret
      exact ⟨rfl, hB.trans (hkk.below hB.size (by simp))⟩

end Go.Proofs.Ytjmameknbnflaaa
