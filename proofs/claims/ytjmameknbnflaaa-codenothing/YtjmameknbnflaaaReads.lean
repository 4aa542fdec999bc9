/-
  The walk: freightlaw1.CodeReads.
-/
import Derived.Test.YtjmameknbnflaaaKn2
import Derived.Test.YtjmameknbnflaaaLr
import Derived.Test.YtjmameknbnflaaaDk1
namespace Go.Proofs.Ytjmameknbnflaaa
open Go.RowKit
set_option linter.unusedVariables false
set_option linter.unusedSimpArgs false

theorem Try.zeroDesk0 (W : World) : (zeroValue 26).run Try.prog W = .ok (.agg #[.slice none 0 0]) W := by kernel_rfl

/-- A new Desk. -/
theorem dk_zero (w : World) : Dk (w.alloc (.cells #[.slice none 0 0] 26)) w.heap.size none [] := ⟨by simp, by simp, fun _ => rfl, by simp, by simp⟩

/-- What lies on a Desk is the row that was laid. -/
theorem dk_laidSl {w : World} {D g m : Nat} {ds : List UInt8} (h : Dk w D (some g) (laid ds m)) : Sl w (some ⟨g, 0, none⟩) ds := Sl.of fun i hi => by
  rw [Nat.zero_add, cell_of_row _ _ _ _ _ _ (h.row g rfl).2, List.getElem?_toArray, bys_at (by simp [laid]; omega)]
  simp [laid, List.getElem?_append_left hi]

/-- The document's reader at the beginning of bytes that came in. -/
theorem rf_new {w w1 : World} {ao : Option Addr} {n cap : Nat} {xs : List UInt8} (h : InB w ao n cap xs) (hb : Below w.heap.size w w1) :
    RfS (w1.alloc (.cells #[.slice ao n cap, .int .i64 0, .int .i64 0, .int .i64 0] 55)) w1.heap.size ao cap xs ⟨0, 0, 0⟩ := by
  have hl := h.len
  have hs := h.sl
  have hm := h.max
  have hc := h.le
  subst hl
  exact ⟨by simp, by simp, by simp, by simp, by simp, by simp, by simp, Nat.zero_le _, hc, by omega, (hs.kept (Kept.of_below hb) (by simp)).kept ((Kept.refl [] w1).alloc _) (by simp), fun hne a ha => by
    obtain ⟨b', off', e', hb', _⟩ := hs.open hne
    rw [e'] at ha
    cases ha
    have := hb.size
    show b' ≠ w1.heap.size
    omega⟩

/-- What holds at the head of CodeReads' loop. -/
structure ReadsRel (w wr : World) (b x : Nat) (ao a2 : Option Addr) (cap c2 : Nat) (xs : List UInt8) : Prop where
  two : ∃ s, Two wr b x ao a2 cap c2 xs s
  geb : w.heap.size ≤ b
  gex : w.heap.size ≤ x
  below : Below w.heap.size w wr

theorem ReadsRel.next {w wr w' : World} {b x : Nat} {ao a2 : Option Addr} {cap c2 : Nat} {xs : List UInt8} (h : ReadsRel w wr b x ao a2 cap c2 xs) (hk : Kept [b, x] wr w') (ht : ∃ s, Two w' b x ao a2 cap c2 xs s) : ReadsRel w w' b x ao a2 cap c2 xs :=
  ⟨ht, h.geb, h.gex, h.below.trans (hk.below h.below.size (fun i hi => by
    simp only [List.mem_cons, List.not_mem_nil, or_false] at hi
    rcases hi with rfl | rfl
    · exact h.geb
    · exact h.gex))⟩

set_option maxHeartbeats 1500000 in
set_option maxRecDepth 100000 in
theorem reads_big (ao0 : Option Addr) (n0 cap0 : Nat) (so : Option Addr) (sn scap : Nat) (L : List Cl) (w : World) (hn0 : 200000 < n0) (hm0 : n0 ≤ 9223372036854775807) (hL : L.length = sn) (hsm : sn ≤ 9223372036854775807) (hs : Scr w so L) :
    Calls Try.prog 6 #[.slice ao0 n0 cap0, .slice so sn scap] w fun e w' => e = .returned (.bool true) ∧ Below w.heap.size w w' := by
  have d1 : decide (200000 < (n0 : Int)) = true := by simp; omega
  have HSC : Hid (Scr w so L) := hs
  have HL : Hid (L.length = sn) := hL
  clear hs hL
  go_enter Try.func6, Try.ntmps6
  go_wp2_with (fail)
  refine (long_any so sn scap L _ HL.out hsm HSC.out).mono ?_
  rintro e w' ⟨he, hw⟩
  obtain rfl := hw.symm
  rcases he with rfl | ⟨rfl, hsh⟩
  · go_wp2
    go_ret
    exact ⟨rfl, Below.refl _ _⟩
  · clear hsh
    go_wp2
    go_ret
    exact ⟨rfl, Below.refl _ _⟩

set_option maxHeartbeats 3000000 in
set_option maxRecDepth 100000 in
theorem reads_main (ao0 : Option Addr) (n0 cap0 : Nat) (so : Option Addr) (sn scap : Nat) (xs : List UInt8) (L : List Cl) (w : World) (hin : InB w ao0 n0 cap0 xs) (hn0 : n0 ≤ 200000) (hL : L.length = sn) (hsm : sn ≤ 9223372036854775807) (hs : Scr w so L) :
    Calls Try.prog 6 #[.slice ao0 n0 cap0, .slice so sn scap] w fun e w' => e = .returned (.bool true) ∧ Below w.heap.size w w' := by
  have d1 : decide (200000 < (n0 : Int)) = false := by simp; omega
  have HIN : Hid (InB w ao0 n0 cap0 xs) := hin
  have HSC : Hid (Scr w so L) := hs
  have HL : Hid (L.length = sn) := hL
  have hzv := Try.zeroDesk0
  have hn0c : (n0 : Int) ≤ 200000 := by omega
  clear hin hs hL
  go_enter Try.func6, Try.ntmps6
  go_wp2_with (fail)
  refine (long_any so sn scap L _ HL.out hsm HSC.out).mono ?_
  rintro e w' ⟨he, hw⟩
  obtain rfl := hw.symm
  rcases he with rfl | ⟨rfl, hsh⟩
  · go_wp2
    go_ret
    exact ⟨rfl, Below.refl _ _⟩
  have hsn : sn ≤ 200 := by have := hsh.1; rw [HL.out] at this; exact this
  clear hsh
  go_wp2_with (fail)
  have HD0 : Hid (Dk (w.alloc (.cells #[.slice none 0 0] 26)) w.heap.size none []) := dk_zero w
  have HB0 : Hid (Below w.heap.size w (w.alloc (.cells #[.slice none 0 0] 26))) := (Below.refl _ _).alloc (Nat.le_refl _) _
  have HGD : Hid (w.heap.size ≤ w.heap.size) := Nat.le_refl _
  obtain ⟨D, hD⟩ : ∃ D, D = w.heap.size := ⟨_, rfl⟩
  have HGD : Hid (w.heap.size ≤ D) := by show _ ≤ _; omega
  rw [← hD] at HD0 ⊢
  generalize w.alloc _ = w0 at HD0 HB0 ⊢
  clear hD
  refine (lay_any D none ao0 n0 cap0 xs [] _ HD0.out HIN.out.len (HIN.out.sl.kept (Kept.of_below HB0.out) (by simp)) (fun hne a ha => by
    obtain ⟨b', off', e', hb', _⟩ := HIN.out.sl.open hne
    rw [e'] at ha
    cases ha
    have h1 := HGD.out
    simp [dkfp]
    omega) hn0).mono ?_
  rintro e w1 ⟨g, m, rfl, hdk1, hm5, hk1, hg1⟩
  have HD1 : Hid (Dk w1 D (some g) (laid xs m)) := hdk1
  have HB1 : Hid (Below w.heap.size w w1) := HB0.out.trans (hk1.below HB0.out.size (by simpa [dkfp] using HGD.out))
  have HGG : Hid (w.heap.size ≤ g) := by
    rcases hg1 with h | h
    · cases h
    · exact Nat.le_trans HB0.out.size h
  clear hdk1 hk1 hg1 HD0 HB0
  go_wp2_with (fail)
  refine (read_any (some ⟨g, 0, none⟩) n0 m xs _ HIN.out.len (by rw [HIN.out.len]; omega) (dk_laidSl HD1.out) (by simp)).mono ?_
  rintro e w2 ⟨rb, ao, cap, rfl, hrb, hao, hda, hrd, hk2⟩
  have HD2 : Hid (Dk w2 D (some g) (laid xs m)) := HD1.out.kept hk2 (by simp) (by simp)
  have HB2 : Hid (Below w.heap.size w w2) := HB1.out.trans (hk2.below HB1.out.size (by simp))
  have HR2 : Hid (Rd w2 rb 0 0 ao cap xs 0) := hrd
  have HRB : Hid (w1.heap.size ≤ rb) := hrb
  have HGR : Hid (w.heap.size ≤ rb) := Nat.le_trans HB1.out.size hrb
  have HAO : Hid (∀ a, ao = some a → w1.heap.size ≤ a.block ∧ a.block < rb) := fun a ha => ⟨hao a ha, hda a ha⟩
  have HDL : Hid (D < w1.heap.size ∧ g < w1.heap.size) := ⟨HD1.out.lt, HD1.out.ltg g rfl⟩
  clear hrb hao hda hrd hk2 HD1 HB1
  go_wp2_with (fail)
  refine (lies_ok D g ao0 n0 cap0 m xs _ HD2.out HIN.out.len (HIN.out.sl.kept (Kept.of_below HB2.out) (by simp)) hm5).mono ?_
  rintro e w' ⟨rfl, n3, rfl⟩
  have HD3 : Hid (Dk (w2.drewN n3) D (some g) (laid xs m)) := HD2.out.kept ((Kept.refl [] w2).drewN n3) (by simp) (by simp)
  have HB3 : Hid (Below w.heap.size w (w2.drewN n3)) := ⟨HB2.out.os, HB2.out.tape, HB2.out.output, HB2.out.size, HB2.out.block⟩
  have HR3 : Hid (Rd (w2.drewN n3) rb 0 0 ao cap xs 0) := HR2.out.drewN n3
  clear HD2 HB2 HR2
  generalize w2.drewN n3 = w3 at HD3 HB3 HR3 ⊢
  go_wp2_with (fail)
  refine (lay_any D (some g) none 0 0 [] _ _ HD3.out rfl (Sl.nil _ _) (by simp) (by omega)).mono ?_
  rintro e w4 ⟨g4, m4, rfl, hdk4, hm45, hk4, hg4⟩
  have HB4 : Hid (Below w.heap.size w w4) := HB3.out.trans (hk4.below HB3.out.size (fun i hi => by
    simp only [dkfp, List.mem_cons, Option.mem_toList, Option.some.injEq] at hi
    rcases hi with rfl | rfl
    · exact HGD.out
    · exact HGG.out))
  have HR4 : Hid (Rd w4 rb 0 0 ao cap xs 0) := HR3.out.kept hk4 (by
      have h1 := HDL.out
      have h2 := HRB.out
      simp [dkfp]
      omega) (fun _ a ha => by
      have h1 := HDL.out
      have h2 := HAO.out a ha
      simp [dkfp]
      omega)
  have HI : Hid (ReadsRel w (w4.alloc (.cells #[.slice ao0 n0 cap0, .int .i64 0, .int .i64 0, .int .i64 0] 55)) rb w4.heap.size ao ao0 cap cap0 xs) := by
    have hl4 := HR4.out.lt
    refine ⟨⟨⟨0, 0, 0⟩, ⟨⟨0, fun _ => rfl, HR4.out.kept ((Kept.refl [] w4).alloc _) (by simp) (by simp)⟩, rf_new HIN.out HB4.out, by omega, fun _ a ha => by have := (HAO.out a ha).2; omega, fun hne a ha => ?_⟩⟩, HGR.out, HB4.out.size, HB4.out.alloc HB4.out.size _⟩
    obtain ⟨b', off', e', hb', _⟩ := HIN.out.sl.open hne
    rw [e'] at ha
    cases ha
    have := HGR.out
    show b' ≠ rb
    omega
  clear hdk4 hk4 hg4 hm45 HB4 HR4 HD3 HB3 HR3 HDL HAO HRB HGG HGD hm5
  go_wp2
  obtain ⟨x, hx⟩ : ∃ x, x = w4.heap.size := ⟨_, rfl⟩
  rw [← hx] at HI ⊢
  clear hx hzv
  go_loopw [8] (fun y wr => ∃ k : Nat, k ≤ sn ∧ y = .int .i64 k ∧ Hid (ReadsRel w wr rb x ao ao0 cap cap0 xs)) (fun y wr => sn - (intOf y).toNat)
  case atStart => exact ⟨0, Nat.zero_le _, rfl, HI⟩
  case round =>
    clear HI
    obtain ⟨k, hk, rfl, HF⟩ := hrel
    by_cases hlt : k < sn
    · obtain ⟨sb, soff, hso, hcl⟩ := HSC.out k (by rw [HL.out]; exact hlt)
      have hcl2 := hcl.kept HF.out.below
      have e0 := hcl2.c0
      have e1 := hcl2.c1
      have e2 := hcl2.c2
      have e3 := hcl2.c3
      generalize (L.getD k cl0).kind = kd at e0
      generalize (L.getD k cl0).v = vv at e1
      generalize (L.getD k cl0).width = wd at e2
      generalize (L.getD k cl0).da = da at e3
      generalize (L.getD k cl0).dn = dn at e3
      generalize (L.getD k cl0).dc = dc at e3
      rw [Nat.mul_comm] at e0 e1 e2 e3
      subst hso
      obtain ⟨s, htw⟩ := HF.out.two
      have HTW : Hid (Two wr rb x ao ao0 cap cap0 xs s) := htw
      clear hcl hcl2 htw
      go_wp2_with (fail)
      refine (lread_any HTW.out kd vv wd da dn dc).mono ?_
      rintro e w5 ⟨rfl, hk5, ht5⟩
      have HF5 : Hid (ReadsRel w w5 rb x ao ao0 cap cap0 xs) := HF.out.next hk5 ht5
      clear hk5 ht5 HF HTW e0 e1 e2 e3
      go_wp2
      go_roundw
      case rel => exact ⟨k + 1, by omega, by go_num, HF5⟩
      case measure => simp [intOf]; omega
    · have hB := HF.out.below
      clear HF
      go_wp2_with (go_at_call 14; refine (known_any _).mono ?_; rintro e wk ⟨rfl, hkk⟩)
      go_ret
      exact ⟨rfl, hB.trans (hkk.below hB.size (by simp))⟩

/-- CodeReads: whatever the input: true; nothing that was there turns. -/
theorem reads_any (ao0 : Option Addr) (n0 cap0 : Nat) (so : Option Addr) (sn scap : Nat) (xs : List UInt8) (L : List Cl) (w : World) (hin : InB w ao0 n0 cap0 xs) (hL : L.length = sn) (hsm : sn ≤ 9223372036854775807) (hs : Scr w so L) :
    Calls Try.prog 6 #[.slice ao0 n0 cap0, .slice so sn scap] w fun e w' => e = .returned (.bool true) ∧ Below w.heap.size w w' := by
  by_cases h : n0 ≤ 200000
  · exact reads_main ao0 n0 cap0 so sn scap xs L w hin h hL hsm hs
  · exact reads_big ao0 n0 cap0 so sn scap L w (by omega) (by have := hin.max; have := hin.le; omega) hL hsm hs

end Go.Proofs.Ytjmameknbnflaaa
