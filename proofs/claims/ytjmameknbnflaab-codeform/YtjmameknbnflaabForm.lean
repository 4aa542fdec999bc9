/-
  The walk: freightlaw1.CodeForm.
-/
import Derived.Test.YtjmameknbnflaabKn2
import Derived.Test.YtjmameknbnflaabPure4
import Derived.Test.YtjmameknbnflaabLong
namespace Go.Proofs.Ytjmameknbnflaab
open Go.RowKit
set_option linter.unusedVariables false
set_option linter.unusedSimpArgs false

/-- What holds at the head of CodeForm's loop. -/
structure FormRel (w wr : World) (rb wb : Nat) (ao : Option Addr) (cap : Nat) (bs : List Nat) (xs : List UInt8) (p : Nat) : Prop where
  rd : Rd wr rb 0 0 ao cap xs p
  wri : Wr wr wb bs (xs.take p)
  ne : rb ≠ wb
  nb : ∀ g, g ∈ bs → g ≠ rb
  da : ∀ a, ao = some a → a.block ≠ wb ∧ a.block ∉ bs ∧ a.block < wr.heap.size
  ger : w.heap.size ≤ rb
  gew : w.heap.size ≤ wb
  below : Below w.heap.size w wr

theorem FormRel.alloc {w wr : World} {rb wb : Nat} {ao : Option Addr} {cap : Nat} {bs : List Nat} {xs : List UInt8} {p : Nat} (h : FormRel w wr rb wb ao cap bs xs p) (o : Obj) : FormRel w (wr.alloc o) rb wb ao cap bs xs p :=
  ⟨h.rd.kept ((Kept.refl [] wr).alloc o) (by simp) (by simp), h.wri.alloc o, h.ne, h.nb, fun a ha => ⟨(h.da a ha).1, (h.da a ha).2.1, by have := (h.da a ha).2.2; simp; omega⟩, h.ger, h.gew, h.below.alloc h.below.size o⟩

set_option maxHeartbeats 20000000 in
set_option maxRecDepth 100000 in
theorem form_main (ao0 : Option Addr) (n0 cap0 : Nat) (so : Option Addr) (sn scap : Nat) (xs : List UInt8) (L : List Cl) (w : World) (hin : InB w ao0 n0 cap0 xs) (hn0 : n0 ≤ 200000) (hL : L.length = sn) (hsm : sn ≤ 9223372036854775807) (hs : Scr w so L) :
    Calls Try.prog 4 #[.slice ao0 n0 cap0, .slice so sn scap] w fun e w' => e = .returned (.bool true) ∧ Below w.heap.size w w' := by
  have d1 : decide (200000 < (n0 : Int)) = false := by simp; omega
  have HIN := (show Hid (InB w ao0 n0 cap0 xs) from hin)
  have HSC : Hid (Scr w so L) := hs
  have HL : Hid (L.length = sn) := hL
  have hzv := Try.zeroWriter
  clear hin hs hL
  go_enter Try.func4, Try.ntmps4
  go_wp2_with (fail)
  refine (long_any so sn scap L _ HL.out hsm HSC.out).mono ?_
  rintro e w' ⟨he, hw⟩
  obtain rfl := hw.symm
  rcases he with rfl | ⟨rfl, hsh⟩
  · go_wp2
    go_ret
    exact ⟨rfl, Below.refl _ _⟩
  have hsn : sn ≤ 200 := by have := hsh.1; rw [HL.out] at this; exact this
  clear hsh
  go_wp2_with (fail)
  refine (read_any ao0 n0 cap0 xs _ HIN.out.len (by rw [HIN.out.len]; omega) HIN.out.sl HIN.out.nil).mono ?_
  rintro e w1 ⟨rb, ao, cap, rfl, hrb, hao, hda1, hrd, hk1⟩
  have hrdA := hrd.kept ((Kept.refl [] w1).alloc (.cells zeroW 31)) (by simp) (by simp)
  have hrl := hrd.lt
  have HI : Hid (FormRel w (w1.alloc (.cells zeroW 31)) rb w1.heap.size ao cap [] xs 0) :=
    ⟨hrdA, by simpa using wr_zero w1, by omega, by simp, fun a ha => ⟨by have := hda1 a ha; omega, by simp, by have := hda1 a ha; simp; omega⟩, hrb, hk1.size, (hk1.below (Nat.le_refl _) (by simp)).alloc hk1.size _⟩
  have HGE : Hid (w.heap.size ≤ rb ∧ w.heap.size ≤ w1.heap.size) := ⟨hrb, hk1.size⟩
  clear hrd hrdA hrb hao hk1 hda1
  go_wp2
  obtain ⟨wb, hwb⟩ : ∃ wb, wb = w1.heap.size := ⟨_, rfl⟩
  rw [← hwb] at HI ⊢
  clear hwb hzv
  go_loopw [7] (fun x wr => ∃ (k p : Nat) (bs : List Nat), k ≤ sn ∧ p ≤ n0 ∧ x = .int .i64 k ∧ Hid (FormRel w wr rb wb ao cap bs xs p)) (fun x wr => sn - (intOf x).toNat)
  case atStart => exact ⟨0, 0, [], Nat.zero_le _, Nat.zero_le _, rfl, HI⟩
  case round =>
    clear HI
    obtain ⟨k, p, bs, hk, hp, rfl, HF⟩ := hrel
    by_cases hlt : k < sn
    · obtain ⟨sb, soff, hso, hcl⟩ := HSC.out k (by rw [HL.out]; exact hlt)
      have hcl2 := hcl.kept HF.out.below
      obtain ⟨kd, hkd⟩ : ∃ kd, kd = (L.getD k cl0).kind := ⟨_, rfl⟩
      obtain ⟨vv, hvv⟩ : ∃ vv, vv = (L.getD k cl0).v := ⟨_, rfl⟩
      obtain ⟨wd, hwd⟩ : ∃ wd, wd = (L.getD k cl0).width := ⟨_, rfl⟩
      obtain ⟨da, hda⟩ : ∃ da, da = (L.getD k cl0).da := ⟨_, rfl⟩
      obtain ⟨dn, hdn⟩ : ∃ dn, dn = (L.getD k cl0).dn := ⟨_, rfl⟩
      obtain ⟨dc, hdc⟩ : ∃ dc, dc = (L.getD k cl0).dc := ⟨_, rfl⟩
      have e0 := hcl2.c0
      have e1 := hcl2.c1
      have e2 := hcl2.c2
      have e3 := hcl2.c3
      rw [← hkd] at e0
      rw [← hvv] at e1
      rw [← hwd] at e2
      rw [← hda, ← hdn, ← hdc] at e3
      rw [Nat.mul_comm] at e0 e1 e2 e3
      have HXN : Hid (xs.length = n0) := HIN.out.len
      have hxl : xs.length ≤ 200000 := by rw [HIN.out.len]; exact hn0
      have HF1 : Hid (FormRel w (wr.alloc (.cells #[.int .i64 kd, .int .i64 vv, .int .i64 wd, .slice da dn dc] 34)) rb wb ao cap bs xs p) := HF.out.alloc _
      have hcb : ∃ cb, cb = wr.heap.size := ⟨_, rfl⟩
      obtain ⟨cb, hcb⟩ := hcb
      have hcr : cb ≠ rb := by have := HF.out.rd.lt; omega
      have hcw : cb ≠ wb := by have := HF.out.wri.lt; omega
      have c10 : (wr.alloc (.cells #[.int .i64 kd, .int .i64 vv, .int .i64 wd, .slice da dn dc] 34)).cell? ⟨cb, 0, none⟩ = some (.int .i64 kd) := by rw [hcb]; simp
      have c11 : (wr.alloc (.cells #[.int .i64 kd, .int .i64 vv, .int .i64 wd, .slice da dn dc] 34)).cell? ⟨cb, 1, none⟩ = some (.int .i64 vv) := by rw [hcb]; simp
      have c12 : (wr.alloc (.cells #[.int .i64 kd, .int .i64 vv, .int .i64 wd, .slice da dn dc] 34)).cell? ⟨cb, 2, none⟩ = some (.int .i64 wd) := by rw [hcb]; simp
      have hsx : (sb : Nat) = sb := rfl
      subst hso
      clear hcl hcl2 hkd hvv hwd hda hdn hdc HF hsx
      by_cases k1 : kd = 1
      · have b1 : (kd == 1) = true := by simpa using k1
        clear k1
        go_wp2_with (fail)
        rw [← hcb]
        generalize wr.alloc _ = w1' at HF1 c10 c11 c12 ⊢
        clear hcb

        rcases hr : Pure.num (xs.drop p) with ⟨v, m, c⟩
        have HR0 : Hid (Pure.num (xs.drop p) = (v, m, c)) := hr
        clear hr
        by_cases hc : c = 0
        · subst hc
          have hne := Pure.num_enc HR0.out
          have hmv : m ≤ xs.length - p := by simpa using hne.2.1
          have hv31 := hne.2.2
          have HEN : Hid (Pure.enc v = (xs.drop p).take m) := hne.1
          clear hne
          refine (rnumber_as HF1.out.rd HR0.out).mono ?_
          rintro e w2 ⟨rfl, hk2, hrd2⟩

          have hwr2 : Wr w2 wb bs (xs.take p) := HF1.out.wri.kept hk2 (by simpa using Ne.symm HF1.out.ne) (fun g hg => by simpa using HF1.out.nb g hg)
          have hB2 : Below w.heap.size w w2 := HF1.out.below.trans (hk2.below HF1.out.below.size (by simpa using HF1.out.ger))
          have c20 : w2.cell? ⟨cb, 0, none⟩ = some (.int .i64 kd) := hk2.cellOf c10 (by simpa using hcr)
          have c21 : w2.cell? ⟨cb, 1, none⟩ = some (.int .i64 vv) := hk2.cellOf c11 (by simpa using hcr)
          have c22 : w2.cell? ⟨cb, 2, none⟩ = some (.int .i64 wd) := hk2.cellOf c12 (by simpa using hcr)
          have hda2 : ∀ a, ao = some a → a.block ≠ wb ∧ a.block ∉ bs ∧ a.block < w2.heap.size := fun a ha => ⟨(HF1.out.da a ha).1, (HF1.out.da a ha).2.1, Nat.lt_of_lt_of_le (HF1.out.da a ha).2.2 hk2.size⟩

          have HDA : Hid (∀ a, ao = some a → a.block ≠ wb ∧ a.block ∉ bs ∧ a.block < w2.heap.size) := hda2
          have HNB : Hid (∀ g, g ∈ bs → g ≠ rb) := HF1.out.nb
          have HNE : Hid (rb ≠ wb) := HF1.out.ne
          have HGR : Hid (w.heap.size ≤ rb) := HF1.out.ger
          have HGW : Hid (w.heap.size ≤ wb) := HF1.out.gew
          obtain ⟨p2, hp2⟩ : ∃ p2, p2 = p + m := ⟨_, rfl⟩
          have hp2n : p2 ≤ n0 := by have := HXN.out; omega
          rw [← hp2] at hrd2
          have HP2 : Hid (p2 = p + m) := hp2
          clear hp2

          clear c10 c11 c12 HF1 hk2 hda2

          go_wp2_with (fail)
          refine (err_any hrd2).mono ?_
          rintro e w' ⟨rfl, n3, rfl⟩
          have hrd3 := hrd2.drewN n3
          have hwr3 := hwr2.drewN n3
          have hk3 := (Kept.refl [] w2).drewN n3
          have hB3 : Below w.heap.size w (w2.drewN n3) := ⟨hB2.os, hB2.tape, hB2.output, hB2.size, hB2.block⟩
          have c30 := hk3.cellOf c20 (by simp)
          have c31 := hk3.cellOf c21 (by simp)
          have c32 := hk3.cellOf c22 (by simp)

          have hsz3 : w2.heap.size ≤ (w2.drewN n3).heap.size := hk3.size
          clear hrd2 hB2 hwr2 c20 c21 c22 hk3
          generalize w2.drewN n3 = w3 at hrd3 hwr3 hB3 c30 c31 c32 hsz3  ⊢

          go_wp2_with (fail)
          refine (wnumber_ok hwr3 v hv31 (by simp; omega)).mono ?_
          rintro e w4 ⟨rfl, bs4, hw4, hk4, hs4⟩
          have HE : Hid (xs.take p ++ Pure.enc v = xs.take p2) := by
            show _ = _
            rw [HEN.out, HP2.out, List.take_add]
          clear hwr3 c30 c31 c32

          have hrd4 := hrd3.kept hk4 (by simpa using HNE.out) (fun _ a ha => by simpa using (HDA.out a ha).1)
          have hB4 : Below w.heap.size w w4 := hB3.trans (hk4.below hB3.size (by simpa using HGW.out))
          have hnb4 : ∀ g, g ∈ bs4 → g ≠ rb := fun g hg => by
            rcases hs4 g hg with h | h
            · exact HNB.out g h
            · have := hrd3.lt; omega
          have hda4 : ∀ a, ao = some a → a.block ≠ wb ∧ a.block ∉ bs4 ∧ a.block < w4.heap.size := fun a ha => by
            have h3 := HDA.out a ha
            refine ⟨h3.1, fun hm => ?_, Nat.lt_of_lt_of_le (Nat.lt_of_lt_of_le h3.2.2 hsz3) hk4.size⟩
            rcases hs4 _ hm with h | h
            · exact h3.2.1 h
            · have h5 := h3.2.2; omega
          rw [HE.out] at hw4
          clear hrd3 hB3 hk4 hs4 HDA HNB
          have HF4 : Hid (FormRel w w4 rb wb ao cap bs4 xs p2) := ⟨hrd4, hw4, HNE.out, hnb4, hda4, HGR.out, HGW.out, hB4⟩
          clear hnb4 hda4 hB4 HGR HGW HNE
          go_wp2_with (fail)
          refine (wdata_ok HF4.out.wri (by rw [List.length_take]; omega)).mono ?_
          rintro e w5 ⟨ao5, cap5, rfl, hfr5, hnn5, hk5⟩
          have HF5 : Hid (FormRel w w5 rb wb ao cap bs4 xs p2) := by
            have h := HF4.out
            exact ⟨h.rd.kept hk5 (by simp) (by simp), h.wri.kept hk5 (by simp) (by simp), h.ne, h.nb, fun a ha => ⟨(h.da a ha).1, (h.da a ha).2.1, Nat.lt_of_lt_of_le (h.da a ha).2.2 hk5.size⟩, h.ger, h.gew, h.below.trans (hk5.below h.below.size (by simp))⟩
          have HS5 : Hid (Sl w5 ao5 (xs.take p2)) := hfr5.1
          have hlp : (xs.take p2).length = p2 := by rw [List.length_take, HXN.out]; omega
          rw [hlp]
          clear HF4 hfr5 hnn5 hk5 hrd4 hw4
          go_wp2_with (fail)
          refine (left_ok HF5.out.rd).mono ?_
          rintro e w' ⟨rfl, n6, rfl⟩
          have hlx : ((xs.length - p2 : Nat) : Int) = (n0 : Int) - (p2 : Int) := by rw [HXN.out]; omega
          rw [hlx]
          clear hlx
          have HF6 : Hid (FormRel w (w5.drewN n6) rb wb ao cap bs4 xs p2) := by
            have h := HF5.out
            exact ⟨h.rd.drewN n6, h.wri.drewN n6, h.ne, h.nb, h.da, h.ger, h.gew, ⟨h.below.os, h.below.tape, h.below.output, h.below.size, h.below.block⟩⟩
          have HS6 : Hid (Sl (w5.drewN n6) ao5 (xs.take p2)) := Sl.drewN HS5.out n6
          clear HF5 HS5
          generalize w5.drewN n6 = w6 at HF6 HS6 ⊢
          have hcut0 := fun W => Try.cutTo W ao0 n0 cap0 p2 (by have := HIN.out.le; omega)
          have hpc : p2 ≤ cap0 := by have := HIN.out.le; omega
          have hsum6 : ((p2 : Int) + ((n0 : Int) - (p2 : Int)) != (n0 : Int)) = false := by simp; omega
          go_wp2_with (fail)
          refine (bytes_any ao5 ao0 p2 cap5 p2 cap0 (xs.take p2) (xs.take p2) _ hlp hlp (by omega) HS6.out (Sl.take (HIN.out.sl.kept (Kept.of_below HF6.out.below) (by simp)) p2)).mono ?_
          rintro e w' ⟨rfl, n7, rfl⟩
          have HF7 : Hid (FormRel w (w6.drewN n7) rb wb ao cap bs4 xs p2) := by
            have h := HF6.out
            exact ⟨h.rd.drewN n7, h.wri.drewN n7, h.ne, h.nb, h.da, h.ger, h.gew, ⟨h.below.os, h.below.tape, h.below.output, h.below.size, h.below.block⟩⟩
          clear HF6 HS6 hlp
          go_wp2
          go_roundw
          case rel => exact ⟨k + 1, p2, bs4, by omega, by omega, by go_num, HF7⟩
          case measure => simp [intOf]; omega
        · have hc0 : (c : Int) ≠ 0 := by omega
          refine (rnumber_no HF1.out.rd HR0.out hc).mono ?_
          rintro e w2 ⟨rfl, hk2, hrd2⟩

          have hwr2 : Wr w2 wb bs (xs.take p) := HF1.out.wri.kept hk2 (by simpa using Ne.symm HF1.out.ne) (fun g hg => by simpa using HF1.out.nb g hg)
          have hB2 : Below w.heap.size w w2 := HF1.out.below.trans (hk2.below HF1.out.below.size (by simpa using HF1.out.ger))
          have c20 : w2.cell? ⟨cb, 0, none⟩ = some (.int .i64 kd) := hk2.cellOf c10 (by simpa using hcr)
          have c21 : w2.cell? ⟨cb, 1, none⟩ = some (.int .i64 vv) := hk2.cellOf c11 (by simpa using hcr)
          have c22 : w2.cell? ⟨cb, 2, none⟩ = some (.int .i64 wd) := hk2.cellOf c12 (by simpa using hcr)
          have hda2 : ∀ a, ao = some a → a.block ≠ wb ∧ a.block ∉ bs ∧ a.block < w2.heap.size := fun a ha => ⟨(HF1.out.da a ha).1, (HF1.out.da a ha).2.1, Nat.lt_of_lt_of_le (HF1.out.da a ha).2.2 hk2.size⟩
          clear c10 c11 c12 HF1 hk2 hda2

          go_wp2_with (fail)
          refine (err_any hrd2).mono ?_
          rintro e w' ⟨rfl, n3, rfl⟩
          have hrd3 := hrd2.drewN n3
          have hB3 : Below w.heap.size w (w2.drewN n3) := ⟨hB2.os, hB2.tape, hB2.output, hB2.size, hB2.block⟩
          clear hrd2 hB2 hwr2 c20 c21 c22
          generalize w2.drewN n3 = w3 at hrd3 hB3 ⊢
          go_wp2_with (fail)
          refine (left_bad hrd3 (by omega)).mono ?_
          rintro e w' ⟨rfl, hw⟩
          obtain rfl := hw.symm
          go_wp2_with (go_at_call 12; refine (known_any _).mono ?_; rintro e wk ⟨rfl, hkk⟩)
          go_ret
          exact ⟨rfl, hB3.trans (hkk.below hB3.size (by simp))⟩
      have b1 : (kd == 1) = false := by simpa using k1
      by_cases k2 : kd = 2
      · have b2 : (kd == 2) = true := by simpa using k2
        clear k2
        go_wp2_with (fail)
        rw [← hcb]
        generalize wr.alloc _ = w1' at HF1 c10 c11 c12 ⊢
        clear hcb

        by_cases hw1 : wd < 1
        · skip
          refine (rfixed_low HF1.out.rd wd hw1).mono ?_
          rintro e w2 ⟨rfl, hk2, hrd2⟩

          have hwr2 : Wr w2 wb bs (xs.take p) := HF1.out.wri.kept hk2 (by simpa using Ne.symm HF1.out.ne) (fun g hg => by simpa using HF1.out.nb g hg)
          have hB2 : Below w.heap.size w w2 := HF1.out.below.trans (hk2.below HF1.out.below.size (by simpa using HF1.out.ger))
          have c20 : w2.cell? ⟨cb, 0, none⟩ = some (.int .i64 kd) := hk2.cellOf c10 (by simpa using hcr)
          have c21 : w2.cell? ⟨cb, 1, none⟩ = some (.int .i64 vv) := hk2.cellOf c11 (by simpa using hcr)
          have c22 : w2.cell? ⟨cb, 2, none⟩ = some (.int .i64 wd) := hk2.cellOf c12 (by simpa using hcr)
          have hda2 : ∀ a, ao = some a → a.block ≠ wb ∧ a.block ∉ bs ∧ a.block < w2.heap.size := fun a ha => ⟨(HF1.out.da a ha).1, (HF1.out.da a ha).2.1, Nat.lt_of_lt_of_le (HF1.out.da a ha).2.2 hk2.size⟩
          clear c10 c11 c12 HF1 hk2 hda2

          go_wp2_with (fail)
          refine (err_any hrd2).mono ?_
          rintro e w' ⟨rfl, n3, rfl⟩
          have hrd3 := hrd2.drewN n3
          have hB3 : Below w.heap.size w (w2.drewN n3) := ⟨hB2.os, hB2.tape, hB2.output, hB2.size, hB2.block⟩
          clear hrd2 hB2 hwr2 c20 c21 c22
          generalize w2.drewN n3 = w3 at hrd3 hB3 ⊢
          go_wp2_with (fail)
          refine (left_bad hrd3 (by omega)).mono ?_
          rintro e w' ⟨rfl, hw⟩
          obtain rfl := hw.symm
          go_wp2_with (go_at_call 12; refine (known_any _).mono ?_; rintro e wk ⟨rfl, hkk⟩)
          go_ret
          exact ⟨rfl, hB3.trans (hkk.below hB3.size (by simp))⟩
        by_cases hw4' : 4 < wd
        · skip
          refine (rfixed_high HF1.out.rd wd hw4').mono ?_
          rintro e w2 ⟨rfl, hk2, hrd2⟩

          have hwr2 : Wr w2 wb bs (xs.take p) := HF1.out.wri.kept hk2 (by simpa using Ne.symm HF1.out.ne) (fun g hg => by simpa using HF1.out.nb g hg)
          have hB2 : Below w.heap.size w w2 := HF1.out.below.trans (hk2.below HF1.out.below.size (by simpa using HF1.out.ger))
          have c20 : w2.cell? ⟨cb, 0, none⟩ = some (.int .i64 kd) := hk2.cellOf c10 (by simpa using hcr)
          have c21 : w2.cell? ⟨cb, 1, none⟩ = some (.int .i64 vv) := hk2.cellOf c11 (by simpa using hcr)
          have c22 : w2.cell? ⟨cb, 2, none⟩ = some (.int .i64 wd) := hk2.cellOf c12 (by simpa using hcr)
          have hda2 : ∀ a, ao = some a → a.block ≠ wb ∧ a.block ∉ bs ∧ a.block < w2.heap.size := fun a ha => ⟨(HF1.out.da a ha).1, (HF1.out.da a ha).2.1, Nat.lt_of_lt_of_le (HF1.out.da a ha).2.2 hk2.size⟩
          clear c10 c11 c12 HF1 hk2 hda2

          go_wp2_with (fail)
          refine (err_any hrd2).mono ?_
          rintro e w' ⟨rfl, n3, rfl⟩
          have hrd3 := hrd2.drewN n3
          have hB3 : Below w.heap.size w (w2.drewN n3) := ⟨hB2.os, hB2.tape, hB2.output, hB2.size, hB2.block⟩
          clear hrd2 hB2 hwr2 c20 c21 c22
          generalize w2.drewN n3 = w3 at hrd3 hB3 ⊢
          go_wp2_with (fail)
          refine (left_bad hrd3 (by omega)).mono ?_
          rintro e w' ⟨rfl, hw⟩
          obtain rfl := hw.symm
          go_wp2_with (go_at_call 12; refine (known_any _).mono ?_; rintro e wk ⟨rfl, hkk⟩)
          go_ret
          exact ⟨rfl, hB3.trans (hkk.below hB3.size (by simp))⟩
        obtain ⟨nw, rfl⟩ := Int.eq_ofNat_of_zero_le (show 0 ≤ wd by omega)
        have hnw1 : 1 ≤ nw := by omega
        have hnw4 : nw ≤ 4 := by omega
        by_cases hsw : xs.length - p < nw
        · skip
          refine (rfixed_short HF1.out.rd (nw : Int) (by omega) (by omega) (by omega)).mono ?_
          rintro e w2 ⟨rfl, hk2, hrd2⟩

          have hwr2 : Wr w2 wb bs (xs.take p) := HF1.out.wri.kept hk2 (by simpa using Ne.symm HF1.out.ne) (fun g hg => by simpa using HF1.out.nb g hg)
          have hB2 : Below w.heap.size w w2 := HF1.out.below.trans (hk2.below HF1.out.below.size (by simpa using HF1.out.ger))
          have c20 : w2.cell? ⟨cb, 0, none⟩ = some (.int .i64 kd) := hk2.cellOf c10 (by simpa using hcr)
          have c21 : w2.cell? ⟨cb, 1, none⟩ = some (.int .i64 vv) := hk2.cellOf c11 (by simpa using hcr)
          have c22 : w2.cell? ⟨cb, 2, none⟩ = some (.int .i64 (nw : Int)) := hk2.cellOf c12 (by simpa using hcr)
          have hda2 : ∀ a, ao = some a → a.block ≠ wb ∧ a.block ∉ bs ∧ a.block < w2.heap.size := fun a ha => ⟨(HF1.out.da a ha).1, (HF1.out.da a ha).2.1, Nat.lt_of_lt_of_le (HF1.out.da a ha).2.2 hk2.size⟩
          clear c10 c11 c12 HF1 hk2 hda2

          go_wp2_with (fail)
          refine (err_any hrd2).mono ?_
          rintro e w' ⟨rfl, n3, rfl⟩
          have hrd3 := hrd2.drewN n3
          have hB3 : Below w.heap.size w (w2.drewN n3) := ⟨hB2.os, hB2.tape, hB2.output, hB2.size, hB2.block⟩
          clear hrd2 hB2 hwr2 c20 c21 c22
          generalize w2.drewN n3 = w3 at hrd3 hB3 ⊢
          go_wp2_with (fail)
          refine (left_bad hrd3 (by omega)).mono ?_
          rintro e w' ⟨rfl, hw⟩
          obtain rfl := hw.symm
          go_wp2_with (go_at_call 12; refine (known_any _).mono ?_; rintro e wk ⟨rfl, hkk⟩)
          go_ret
          exact ⟨rfl, hB3.trans (hkk.below hB3.size (by simp))⟩
        have hnl : nw ≤ xs.length - p := by omega
        have hyl : ((xs.drop p).take nw).length = nw := by simp; omega
        obtain ⟨ys, hys⟩ : ∃ ys, ys = (xs.drop p).take nw := ⟨_, rfl⟩
        rw [← hys] at hyl
        have hbe := Pure.be_lt ys
        rw [hyl] at hbe
        have HFX : Hid (Pure.fix (Pure.be ys) nw = ys) := by have := Pure.fix_be ys; rwa [hyl] at this
        have HYS : Hid (ys = (xs.drop p).take nw) := hys
        refine (rfixed_ok HF1.out.rd nw hnw1 hnw4 hnl).mono ?_
        rintro e w2 ⟨rfl, hk2, hrd2⟩

        have hwr2 : Wr w2 wb bs (xs.take p) := HF1.out.wri.kept hk2 (by simpa using Ne.symm HF1.out.ne) (fun g hg => by simpa using HF1.out.nb g hg)
        have hB2 : Below w.heap.size w w2 := HF1.out.below.trans (hk2.below HF1.out.below.size (by simpa using HF1.out.ger))
        have c20 : w2.cell? ⟨cb, 0, none⟩ = some (.int .i64 kd) := hk2.cellOf c10 (by simpa using hcr)
        have c21 : w2.cell? ⟨cb, 1, none⟩ = some (.int .i64 vv) := hk2.cellOf c11 (by simpa using hcr)
        have c22 : w2.cell? ⟨cb, 2, none⟩ = some (.int .i64 (nw : Int)) := hk2.cellOf c12 (by simpa using hcr)
        have hda2 : ∀ a, ao = some a → a.block ≠ wb ∧ a.block ∉ bs ∧ a.block < w2.heap.size := fun a ha => ⟨(HF1.out.da a ha).1, (HF1.out.da a ha).2.1, Nat.lt_of_lt_of_le (HF1.out.da a ha).2.2 hk2.size⟩

        have HDA : Hid (∀ a, ao = some a → a.block ≠ wb ∧ a.block ∉ bs ∧ a.block < w2.heap.size) := hda2
        have HNB : Hid (∀ g, g ∈ bs → g ≠ rb) := HF1.out.nb
        have HNE : Hid (rb ≠ wb) := HF1.out.ne
        have HGR : Hid (w.heap.size ≤ rb) := HF1.out.ger
        have HGW : Hid (w.heap.size ≤ wb) := HF1.out.gew
        obtain ⟨p2, hp2⟩ : ∃ p2, p2 = p + nw := ⟨_, rfl⟩
        have hp2n : p2 ≤ n0 := by have := HXN.out; omega
        rw [← hp2] at hrd2
        have HP2 : Hid (p2 = p + nw) := hp2
        clear hp2
        rw [← hys]
        clear hys
        clear c10 c11 c12 HF1 hk2 hda2

        go_wp2_with (fail)
        refine (err_any hrd2).mono ?_
        rintro e w' ⟨rfl, n3, rfl⟩
        have hrd3 := hrd2.drewN n3
        have hwr3 := hwr2.drewN n3
        have hk3 := (Kept.refl [] w2).drewN n3
        have hB3 : Below w.heap.size w (w2.drewN n3) := ⟨hB2.os, hB2.tape, hB2.output, hB2.size, hB2.block⟩
        have c30 := hk3.cellOf c20 (by simp)
        have c31 := hk3.cellOf c21 (by simp)
        have c32 := hk3.cellOf c22 (by simp)

        have hsz3 : w2.heap.size ≤ (w2.drewN n3).heap.size := hk3.size
        clear hrd2 hB2 hwr2 c20 c21 c22 hk3
        generalize w2.drewN n3 = w3 at hrd3 hwr3 hB3 c30 c31 c32 hsz3  ⊢

        go_wp2_with (fail)
        refine (wfixed_ok hwr3 (Pure.be ys) nw hnw1 hnw4 hbe (by simp; omega)).mono ?_
        rintro e w4 ⟨rfl, bs4, hw4, hk4, hs4⟩
        have HE : Hid (xs.take p ++ Pure.fix (Pure.be ys) nw = xs.take p2) := by
          show _ = _
          rw [HFX.out, HYS.out, HP2.out, List.take_add]
        clear hwr3 c30 c31 c32

        have hrd4 := hrd3.kept hk4 (by simpa using HNE.out) (fun _ a ha => by simpa using (HDA.out a ha).1)
        have hB4 : Below w.heap.size w w4 := hB3.trans (hk4.below hB3.size (by simpa using HGW.out))
        have hnb4 : ∀ g, g ∈ bs4 → g ≠ rb := fun g hg => by
          rcases hs4 g hg with h | h
          · exact HNB.out g h
          · have := hrd3.lt; omega
        have hda4 : ∀ a, ao = some a → a.block ≠ wb ∧ a.block ∉ bs4 ∧ a.block < w4.heap.size := fun a ha => by
          have h3 := HDA.out a ha
          refine ⟨h3.1, fun hm => ?_, Nat.lt_of_lt_of_le (Nat.lt_of_lt_of_le h3.2.2 hsz3) hk4.size⟩
          rcases hs4 _ hm with h | h
          · exact h3.2.1 h
          · have h5 := h3.2.2; omega
        rw [HE.out] at hw4
        clear hrd3 hB3 hk4 hs4 HDA HNB
        have HF4 : Hid (FormRel w w4 rb wb ao cap bs4 xs p2) := ⟨hrd4, hw4, HNE.out, hnb4, hda4, HGR.out, HGW.out, hB4⟩
        clear hnb4 hda4 hB4 HGR HGW HNE
        go_wp2_with (fail)
        refine (wdata_ok HF4.out.wri (by rw [List.length_take]; omega)).mono ?_
        rintro e w5 ⟨ao5, cap5, rfl, hfr5, hnn5, hk5⟩
        have HF5 : Hid (FormRel w w5 rb wb ao cap bs4 xs p2) := by
          have h := HF4.out
          exact ⟨h.rd.kept hk5 (by simp) (by simp), h.wri.kept hk5 (by simp) (by simp), h.ne, h.nb, fun a ha => ⟨(h.da a ha).1, (h.da a ha).2.1, Nat.lt_of_lt_of_le (h.da a ha).2.2 hk5.size⟩, h.ger, h.gew, h.below.trans (hk5.below h.below.size (by simp))⟩
        have HS5 : Hid (Sl w5 ao5 (xs.take p2)) := hfr5.1
        have hlp : (xs.take p2).length = p2 := by rw [List.length_take, HXN.out]; omega
        rw [hlp]
        clear HF4 hfr5 hnn5 hk5 hrd4 hw4
        go_wp2_with (fail)
        refine (left_ok HF5.out.rd).mono ?_
        rintro e w' ⟨rfl, n6, rfl⟩
        have hlx : ((xs.length - p2 : Nat) : Int) = (n0 : Int) - (p2 : Int) := by rw [HXN.out]; omega
        rw [hlx]
        clear hlx
        have HF6 : Hid (FormRel w (w5.drewN n6) rb wb ao cap bs4 xs p2) := by
          have h := HF5.out
          exact ⟨h.rd.drewN n6, h.wri.drewN n6, h.ne, h.nb, h.da, h.ger, h.gew, ⟨h.below.os, h.below.tape, h.below.output, h.below.size, h.below.block⟩⟩
        have HS6 : Hid (Sl (w5.drewN n6) ao5 (xs.take p2)) := Sl.drewN HS5.out n6
        clear HF5 HS5
        generalize w5.drewN n6 = w6 at HF6 HS6 ⊢
        have hcut0 := fun W => Try.cutTo W ao0 n0 cap0 p2 (by have := HIN.out.le; omega)
        have hpc : p2 ≤ cap0 := by have := HIN.out.le; omega
        have hsum6 : ((p2 : Int) + ((n0 : Int) - (p2 : Int)) != (n0 : Int)) = false := by simp; omega
        go_wp2_with (fail)
        refine (bytes_any ao5 ao0 p2 cap5 p2 cap0 (xs.take p2) (xs.take p2) _ hlp hlp (by omega) HS6.out (Sl.take (HIN.out.sl.kept (Kept.of_below HF6.out.below) (by simp)) p2)).mono ?_
        rintro e w' ⟨rfl, n7, rfl⟩
        have HF7 : Hid (FormRel w (w6.drewN n7) rb wb ao cap bs4 xs p2) := by
          have h := HF6.out
          exact ⟨h.rd.drewN n7, h.wri.drewN n7, h.ne, h.nb, h.da, h.ger, h.gew, ⟨h.below.os, h.below.tape, h.below.output, h.below.size, h.below.block⟩⟩
        clear HF6 HS6 hlp
        go_wp2
        go_roundw
        case rel => exact ⟨k + 1, p2, bs4, by omega, by omega, by go_num, HF7⟩
        case measure => simp [intOf]; omega
      have b2 : (kd == 2) = false := by simpa using k2
      by_cases k3 : kd = 3
      · have b3 : (kd == 3) = true := by simpa using k3
        clear k3
        go_wp2_with (fail)
        rw [← hcb]
        generalize wr.alloc _ = w1' at HF1 c10 c11 c12 ⊢
        clear hcb

        by_cases hv0 : vv < 0
        · skip
          refine (raw_neg HF1.out.rd vv hv0).mono ?_
          rintro e w2 ⟨rfl, hk2, hrd2⟩

          have hwr2 : Wr w2 wb bs (xs.take p) := HF1.out.wri.kept hk2 (by simpa using Ne.symm HF1.out.ne) (fun g hg => by simpa using HF1.out.nb g hg)
          have hB2 : Below w.heap.size w w2 := HF1.out.below.trans (hk2.below HF1.out.below.size (by simpa using HF1.out.ger))
          have c20 : w2.cell? ⟨cb, 0, none⟩ = some (.int .i64 kd) := hk2.cellOf c10 (by simpa using hcr)
          have c21 : w2.cell? ⟨cb, 1, none⟩ = some (.int .i64 vv) := hk2.cellOf c11 (by simpa using hcr)
          have c22 : w2.cell? ⟨cb, 2, none⟩ = some (.int .i64 wd) := hk2.cellOf c12 (by simpa using hcr)
          have hda2 : ∀ a, ao = some a → a.block ≠ wb ∧ a.block ∉ bs ∧ a.block < w2.heap.size := fun a ha => ⟨(HF1.out.da a ha).1, (HF1.out.da a ha).2.1, Nat.lt_of_lt_of_le (HF1.out.da a ha).2.2 hk2.size⟩
          clear c10 c11 c12 HF1 hk2 hda2

          go_wp2_with (fail)
          refine (err_any hrd2).mono ?_
          rintro e w' ⟨rfl, n3, rfl⟩
          have hrd3 := hrd2.drewN n3
          have hB3 : Below w.heap.size w (w2.drewN n3) := ⟨hB2.os, hB2.tape, hB2.output, hB2.size, hB2.block⟩
          clear hrd2 hB2 hwr2 c20 c21 c22
          generalize w2.drewN n3 = w3 at hrd3 hB3 ⊢
          go_wp2_with (fail)
          refine (left_bad hrd3 (by omega)).mono ?_
          rintro e w' ⟨rfl, hw⟩
          obtain rfl := hw.symm
          go_wp2_with (go_at_call 12; refine (known_any _).mono ?_; rintro e wk ⟨rfl, hkk⟩)
          go_ret
          exact ⟨rfl, hB3.trans (hkk.below hB3.size (by simp))⟩
        obtain ⟨nv, rfl⟩ := Int.eq_ofNat_of_zero_le (show 0 ≤ vv by omega)
        by_cases hsw : xs.length - p < nv
        · skip
          refine (raw_short HF1.out.rd (nv : Int) (by omega) (by omega)).mono ?_
          rintro e w2 ⟨rfl, hk2, hrd2⟩

          have hwr2 : Wr w2 wb bs (xs.take p) := HF1.out.wri.kept hk2 (by simpa using Ne.symm HF1.out.ne) (fun g hg => by simpa using HF1.out.nb g hg)
          have hB2 : Below w.heap.size w w2 := HF1.out.below.trans (hk2.below HF1.out.below.size (by simpa using HF1.out.ger))
          have c20 : w2.cell? ⟨cb, 0, none⟩ = some (.int .i64 kd) := hk2.cellOf c10 (by simpa using hcr)
          have c21 : w2.cell? ⟨cb, 1, none⟩ = some (.int .i64 (nv : Int)) := hk2.cellOf c11 (by simpa using hcr)
          have c22 : w2.cell? ⟨cb, 2, none⟩ = some (.int .i64 wd) := hk2.cellOf c12 (by simpa using hcr)
          have hda2 : ∀ a, ao = some a → a.block ≠ wb ∧ a.block ∉ bs ∧ a.block < w2.heap.size := fun a ha => ⟨(HF1.out.da a ha).1, (HF1.out.da a ha).2.1, Nat.lt_of_lt_of_le (HF1.out.da a ha).2.2 hk2.size⟩
          clear c10 c11 c12 HF1 hk2 hda2

          go_wp2_with (fail)
          refine (err_any hrd2).mono ?_
          rintro e w' ⟨rfl, n3, rfl⟩
          have hrd3 := hrd2.drewN n3
          have hB3 : Below w.heap.size w (w2.drewN n3) := ⟨hB2.os, hB2.tape, hB2.output, hB2.size, hB2.block⟩
          clear hrd2 hB2 hwr2 c20 c21 c22
          generalize w2.drewN n3 = w3 at hrd3 hB3 ⊢
          go_wp2_with (fail)
          refine (left_bad hrd3 (by omega)).mono ?_
          rintro e w' ⟨rfl, hw⟩
          obtain rfl := hw.symm
          go_wp2_with (go_at_call 12; refine (known_any _).mono ?_; rintro e wk ⟨rfl, hkk⟩)
          go_ret
          exact ⟨rfl, hB3.trans (hkk.below hB3.size (by simp))⟩
        have hnl : nv ≤ xs.length - p := by omega
        have hyl : ((xs.drop p).take nv).length = nv := by simp; omega
        obtain ⟨ys, hys⟩ : ∃ ys, ys = (xs.drop p).take nv := ⟨_, rfl⟩
        rw [← hys] at hyl
        have HYS : Hid (ys = (xs.drop p).take nv) := hys
        refine (raw_ok HF1.out.rd nv hnl).mono ?_
        rintro e w2 ⟨ao9, cap9, rfl, hfr9, hk2, hrd2⟩

        have hwr2 : Wr w2 wb bs (xs.take p) := HF1.out.wri.kept hk2 (by simpa using Ne.symm HF1.out.ne) (fun g hg => by simpa using HF1.out.nb g hg)
        have hB2 : Below w.heap.size w w2 := HF1.out.below.trans (hk2.below HF1.out.below.size (by simpa using HF1.out.ger))
        have c20 : w2.cell? ⟨cb, 0, none⟩ = some (.int .i64 kd) := hk2.cellOf c10 (by simpa using hcr)
        have c21 : w2.cell? ⟨cb, 1, none⟩ = some (.int .i64 (nv : Int)) := hk2.cellOf c11 (by simpa using hcr)
        have c22 : w2.cell? ⟨cb, 2, none⟩ = some (.int .i64 wd) := hk2.cellOf c12 (by simpa using hcr)
        have hda2 : ∀ a, ao = some a → a.block ≠ wb ∧ a.block ∉ bs ∧ a.block < w2.heap.size := fun a ha => ⟨(HF1.out.da a ha).1, (HF1.out.da a ha).2.1, Nat.lt_of_lt_of_le (HF1.out.da a ha).2.2 hk2.size⟩

        have HDA : Hid (∀ a, ao = some a → a.block ≠ wb ∧ a.block ∉ bs ∧ a.block < w2.heap.size) := hda2
        have HNB : Hid (∀ g, g ∈ bs → g ≠ rb) := HF1.out.nb
        have HNE : Hid (rb ≠ wb) := HF1.out.ne
        have HGR : Hid (w.heap.size ≤ rb) := HF1.out.ger
        have HGW : Hid (w.heap.size ≤ wb) := HF1.out.gew
        obtain ⟨p2, hp2⟩ : ∃ p2, p2 = p + nv := ⟨_, rfl⟩
        have hp2n : p2 ≤ n0 := by have := HXN.out; omega
        rw [← hp2] at hrd2
        have HP2 : Hid (p2 = p + nv) := hp2
        clear hp2
        rw [← hys] at hfr9
        have HFR : Hid (Sl w2 ao9 ys) := hfr9.1
        have hcp9 : nv ≤ cap9 := by have := hfr9.2.1; omega
        have HFA : Hid (∀ a, ao9 = some a → a.block ≠ wb) := fun a ha => by have := (hfr9.2.2.2 a ha).1; have := HF1.out.wri.lt; omega
        clear hys hfr9
        clear c10 c11 c12 HF1 hk2 hda2

        go_wp2_with (fail)
        refine (err_any hrd2).mono ?_
        rintro e w' ⟨rfl, n3, rfl⟩
        have hrd3 := hrd2.drewN n3
        have hwr3 := hwr2.drewN n3
        have hk3 := (Kept.refl [] w2).drewN n3
        have hB3 : Below w.heap.size w (w2.drewN n3) := ⟨hB2.os, hB2.tape, hB2.output, hB2.size, hB2.block⟩
        have c30 := hk3.cellOf c20 (by simp)
        have c31 := hk3.cellOf c21 (by simp)
        have c32 := hk3.cellOf c22 (by simp)
        have HFR3 : Hid (Sl (w2.drewN n3) ao9 ys) := Sl.drewN HFR.out n3
        have hsz3 : w2.heap.size ≤ (w2.drewN n3).heap.size := hk3.size
        clear hrd2 hB2 hwr2 c20 c21 c22 hk3
        generalize w2.drewN n3 = w3 at hrd3 hwr3 hB3 c30 c31 c32 hsz3 HFR3 ⊢

        go_wp2_with (fail)
        refine (wraw_ok hwr3 ao9 nv cap9 ys hyl HFR3.out HFA.out (by omega) (by simp; omega)).mono ?_
        rintro e w4 ⟨rfl, bs4, hw4, hk4, hs4⟩
        have HE : Hid (xs.take p ++ ys = xs.take p2) := by
          show _ = _
          rw [HYS.out, HP2.out, List.take_add]
        clear hwr3 c30 c31 c32

        have hrd4 := hrd3.kept hk4 (by simpa using HNE.out) (fun _ a ha => by simpa using (HDA.out a ha).1)
        have hB4 : Below w.heap.size w w4 := hB3.trans (hk4.below hB3.size (by simpa using HGW.out))
        have hnb4 : ∀ g, g ∈ bs4 → g ≠ rb := fun g hg => by
          rcases hs4 g hg with h | h
          · exact HNB.out g h
          · have := hrd3.lt; omega
        have hda4 : ∀ a, ao = some a → a.block ≠ wb ∧ a.block ∉ bs4 ∧ a.block < w4.heap.size := fun a ha => by
          have h3 := HDA.out a ha
          refine ⟨h3.1, fun hm => ?_, Nat.lt_of_lt_of_le (Nat.lt_of_lt_of_le h3.2.2 hsz3) hk4.size⟩
          rcases hs4 _ hm with h | h
          · exact h3.2.1 h
          · have h5 := h3.2.2; omega
        rw [HE.out] at hw4
        clear hrd3 hB3 hk4 hs4 HDA HNB
        have HF4 : Hid (FormRel w w4 rb wb ao cap bs4 xs p2) := ⟨hrd4, hw4, HNE.out, hnb4, hda4, HGR.out, HGW.out, hB4⟩
        clear hnb4 hda4 hB4 HGR HGW HNE
        go_wp2_with (fail)
        refine (wdata_ok HF4.out.wri (by rw [List.length_take]; omega)).mono ?_
        rintro e w5 ⟨ao5, cap5, rfl, hfr5, hnn5, hk5⟩
        have HF5 : Hid (FormRel w w5 rb wb ao cap bs4 xs p2) := by
          have h := HF4.out
          exact ⟨h.rd.kept hk5 (by simp) (by simp), h.wri.kept hk5 (by simp) (by simp), h.ne, h.nb, fun a ha => ⟨(h.da a ha).1, (h.da a ha).2.1, Nat.lt_of_lt_of_le (h.da a ha).2.2 hk5.size⟩, h.ger, h.gew, h.below.trans (hk5.below h.below.size (by simp))⟩
        have HS5 : Hid (Sl w5 ao5 (xs.take p2)) := hfr5.1
        have hlp : (xs.take p2).length = p2 := by rw [List.length_take, HXN.out]; omega
        rw [hlp]
        clear HF4 hfr5 hnn5 hk5 hrd4 hw4
        go_wp2_with (fail)
        refine (left_ok HF5.out.rd).mono ?_
        rintro e w' ⟨rfl, n6, rfl⟩
        have hlx : ((xs.length - p2 : Nat) : Int) = (n0 : Int) - (p2 : Int) := by rw [HXN.out]; omega
        rw [hlx]
        clear hlx
        have HF6 : Hid (FormRel w (w5.drewN n6) rb wb ao cap bs4 xs p2) := by
          have h := HF5.out
          exact ⟨h.rd.drewN n6, h.wri.drewN n6, h.ne, h.nb, h.da, h.ger, h.gew, ⟨h.below.os, h.below.tape, h.below.output, h.below.size, h.below.block⟩⟩
        have HS6 : Hid (Sl (w5.drewN n6) ao5 (xs.take p2)) := Sl.drewN HS5.out n6
        clear HF5 HS5
        generalize w5.drewN n6 = w6 at HF6 HS6 ⊢
        have hcut0 := fun W => Try.cutTo W ao0 n0 cap0 p2 (by have := HIN.out.le; omega)
        have hpc : p2 ≤ cap0 := by have := HIN.out.le; omega
        have hsum6 : ((p2 : Int) + ((n0 : Int) - (p2 : Int)) != (n0 : Int)) = false := by simp; omega
        go_wp2_with (fail)
        refine (bytes_any ao5 ao0 p2 cap5 p2 cap0 (xs.take p2) (xs.take p2) _ hlp hlp (by omega) HS6.out (Sl.take (HIN.out.sl.kept (Kept.of_below HF6.out.below) (by simp)) p2)).mono ?_
        rintro e w' ⟨rfl, n7, rfl⟩
        have HF7 : Hid (FormRel w (w6.drewN n7) rb wb ao cap bs4 xs p2) := by
          have h := HF6.out
          exact ⟨h.rd.drewN n7, h.wri.drewN n7, h.ne, h.nb, h.da, h.ger, h.gew, ⟨h.below.os, h.below.tape, h.below.output, h.below.size, h.below.block⟩⟩
        clear HF6 HS6 hlp
        go_wp2
        go_roundw
        case rel => exact ⟨k + 1, p2, bs4, by omega, by omega, by go_num, HF7⟩
        case measure => simp [intOf]; omega
      have b3 : (kd == 3) = false := by simpa using k3
      by_cases k4 : kd = 4
      · have b4 : (kd == 4) = true := by simpa using k4
        clear k4
        go_wp2_with (fail)
        rw [← hcb]
        generalize wr.alloc _ = w1' at HF1 c10 c11 c12 ⊢
        clear hcb

        by_cases hv0 : vv < 0
        · skip
          refine (text_neg HF1.out.rd vv hv0).mono ?_
          rintro e w2 ⟨rfl, hk2, hrd2⟩

          have hwr2 : Wr w2 wb bs (xs.take p) := HF1.out.wri.kept hk2 (by simpa using Ne.symm HF1.out.ne) (fun g hg => by simpa using HF1.out.nb g hg)
          have hB2 : Below w.heap.size w w2 := HF1.out.below.trans (hk2.below HF1.out.below.size (by simpa using HF1.out.ger))
          have c20 : w2.cell? ⟨cb, 0, none⟩ = some (.int .i64 kd) := hk2.cellOf c10 (by simpa using hcr)
          have c21 : w2.cell? ⟨cb, 1, none⟩ = some (.int .i64 vv) := hk2.cellOf c11 (by simpa using hcr)
          have c22 : w2.cell? ⟨cb, 2, none⟩ = some (.int .i64 wd) := hk2.cellOf c12 (by simpa using hcr)
          have hda2 : ∀ a, ao = some a → a.block ≠ wb ∧ a.block ∉ bs ∧ a.block < w2.heap.size := fun a ha => ⟨(HF1.out.da a ha).1, (HF1.out.da a ha).2.1, Nat.lt_of_lt_of_le (HF1.out.da a ha).2.2 hk2.size⟩
          clear c10 c11 c12 HF1 hk2 hda2

          go_wp2_with (fail)
          refine (err_any hrd2).mono ?_
          rintro e w' ⟨rfl, n3, rfl⟩
          have hrd3 := hrd2.drewN n3
          have hB3 : Below w.heap.size w (w2.drewN n3) := ⟨hB2.os, hB2.tape, hB2.output, hB2.size, hB2.block⟩
          clear hrd2 hB2 hwr2 c20 c21 c22
          generalize w2.drewN n3 = w3 at hrd3 hB3 ⊢
          go_wp2_with (fail)
          refine (left_bad hrd3 (by omega)).mono ?_
          rintro e w' ⟨rfl, hw⟩
          obtain rfl := hw.symm
          go_wp2_with (go_at_call 12; refine (known_any _).mono ?_; rintro e wk ⟨rfl, hkk⟩)
          go_ret
          exact ⟨rfl, hB3.trans (hkk.below hB3.size (by simp))⟩
        rcases hr : Pure.num (xs.drop p) with ⟨v, m, c⟩
        have HR0 : Hid (Pure.num (xs.drop p) = (v, m, c)) := hr
        clear hr
        by_cases hc : c = 0
        · subst hc
          have hne := Pure.num_enc HR0.out
          have hmv : m ≤ xs.length - p := by simpa using hne.2.1
          have hv31 := hne.2.2
          have HEN : Hid (Pure.enc v = (xs.drop p).take m) := hne.1
          clear hne
          by_cases hlg : vv < v
          · skip
            refine (text_long HF1.out.rd vv (by omega) HR0.out (by omega)).mono ?_
            rintro e w2 ⟨rfl, hk2, hrd2⟩

            have hwr2 : Wr w2 wb bs (xs.take p) := HF1.out.wri.kept hk2 (by simpa using Ne.symm HF1.out.ne) (fun g hg => by simpa using HF1.out.nb g hg)
            have hB2 : Below w.heap.size w w2 := HF1.out.below.trans (hk2.below HF1.out.below.size (by simpa using HF1.out.ger))
            have c20 : w2.cell? ⟨cb, 0, none⟩ = some (.int .i64 kd) := hk2.cellOf c10 (by simpa using hcr)
            have c21 : w2.cell? ⟨cb, 1, none⟩ = some (.int .i64 vv) := hk2.cellOf c11 (by simpa using hcr)
            have c22 : w2.cell? ⟨cb, 2, none⟩ = some (.int .i64 wd) := hk2.cellOf c12 (by simpa using hcr)
            have hda2 : ∀ a, ao = some a → a.block ≠ wb ∧ a.block ∉ bs ∧ a.block < w2.heap.size := fun a ha => ⟨(HF1.out.da a ha).1, (HF1.out.da a ha).2.1, Nat.lt_of_lt_of_le (HF1.out.da a ha).2.2 hk2.size⟩
            clear c10 c11 c12 HF1 hk2 hda2

            go_wp2_with (fail)
            refine (err_any hrd2).mono ?_
            rintro e w' ⟨rfl, n3, rfl⟩
            have hrd3 := hrd2.drewN n3
            have hB3 : Below w.heap.size w (w2.drewN n3) := ⟨hB2.os, hB2.tape, hB2.output, hB2.size, hB2.block⟩
            clear hrd2 hB2 hwr2 c20 c21 c22
            generalize w2.drewN n3 = w3 at hrd3 hB3 ⊢
            go_wp2_with (fail)
            refine (left_bad hrd3 (by omega)).mono ?_
            rintro e w' ⟨rfl, hw⟩
            obtain rfl := hw.symm
            go_wp2_with (go_at_call 12; refine (known_any _).mono ?_; rintro e wk ⟨rfl, hkk⟩)
            go_ret
            exact ⟨rfl, hB3.trans (hkk.below hB3.size (by simp))⟩
          by_cases hsw : xs.length - (p + m) < v
          · skip
            refine (text_short HF1.out.rd vv (by omega) HR0.out (by omega) hsw).mono ?_
            rintro e w2 ⟨rfl, hk2, hrd2⟩

            have hwr2 : Wr w2 wb bs (xs.take p) := HF1.out.wri.kept hk2 (by simpa using Ne.symm HF1.out.ne) (fun g hg => by simpa using HF1.out.nb g hg)
            have hB2 : Below w.heap.size w w2 := HF1.out.below.trans (hk2.below HF1.out.below.size (by simpa using HF1.out.ger))
            have c20 : w2.cell? ⟨cb, 0, none⟩ = some (.int .i64 kd) := hk2.cellOf c10 (by simpa using hcr)
            have c21 : w2.cell? ⟨cb, 1, none⟩ = some (.int .i64 vv) := hk2.cellOf c11 (by simpa using hcr)
            have c22 : w2.cell? ⟨cb, 2, none⟩ = some (.int .i64 wd) := hk2.cellOf c12 (by simpa using hcr)
            have hda2 : ∀ a, ao = some a → a.block ≠ wb ∧ a.block ∉ bs ∧ a.block < w2.heap.size := fun a ha => ⟨(HF1.out.da a ha).1, (HF1.out.da a ha).2.1, Nat.lt_of_lt_of_le (HF1.out.da a ha).2.2 hk2.size⟩
            clear c10 c11 c12 HF1 hk2 hda2

            go_wp2_with (fail)
            refine (err_any hrd2).mono ?_
            rintro e w' ⟨rfl, n3, rfl⟩
            have hrd3 := hrd2.drewN n3
            have hB3 : Below w.heap.size w (w2.drewN n3) := ⟨hB2.os, hB2.tape, hB2.output, hB2.size, hB2.block⟩
            clear hrd2 hB2 hwr2 c20 c21 c22
            generalize w2.drewN n3 = w3 at hrd3 hB3 ⊢
            go_wp2_with (fail)
            refine (left_bad hrd3 (by omega)).mono ?_
            rintro e w' ⟨rfl, hw⟩
            obtain rfl := hw.symm
            go_wp2_with (go_at_call 12; refine (known_any _).mono ?_; rintro e wk ⟨rfl, hkk⟩)
            go_ret
            exact ⟨rfl, hB3.trans (hkk.below hB3.size (by simp))⟩
          have hnl : v ≤ xs.length - (p + m) := by omega
          have hyl : ((xs.drop (p + m)).take v).length = v := by simp; omega
          obtain ⟨ys, hys⟩ : ∃ ys, ys = (xs.drop (p + m)).take v := ⟨_, rfl⟩
          rw [← hys] at hyl
          have HYS : Hid (ys = (xs.drop (p + m)).take v) := hys
          refine (text_ok HF1.out.rd vv (by omega) HR0.out (by omega) hnl).mono ?_
          rintro e w2 ⟨ao9, cap9, rfl, hfr9, hk2, hrd2⟩

          have hwr2 : Wr w2 wb bs (xs.take p) := HF1.out.wri.kept hk2 (by simpa using Ne.symm HF1.out.ne) (fun g hg => by simpa using HF1.out.nb g hg)
          have hB2 : Below w.heap.size w w2 := HF1.out.below.trans (hk2.below HF1.out.below.size (by simpa using HF1.out.ger))
          have c20 : w2.cell? ⟨cb, 0, none⟩ = some (.int .i64 kd) := hk2.cellOf c10 (by simpa using hcr)
          have c21 : w2.cell? ⟨cb, 1, none⟩ = some (.int .i64 vv) := hk2.cellOf c11 (by simpa using hcr)
          have c22 : w2.cell? ⟨cb, 2, none⟩ = some (.int .i64 wd) := hk2.cellOf c12 (by simpa using hcr)
          have hda2 : ∀ a, ao = some a → a.block ≠ wb ∧ a.block ∉ bs ∧ a.block < w2.heap.size := fun a ha => ⟨(HF1.out.da a ha).1, (HF1.out.da a ha).2.1, Nat.lt_of_lt_of_le (HF1.out.da a ha).2.2 hk2.size⟩

          have HDA : Hid (∀ a, ao = some a → a.block ≠ wb ∧ a.block ∉ bs ∧ a.block < w2.heap.size) := hda2
          have HNB : Hid (∀ g, g ∈ bs → g ≠ rb) := HF1.out.nb
          have HNE : Hid (rb ≠ wb) := HF1.out.ne
          have HGR : Hid (w.heap.size ≤ rb) := HF1.out.ger
          have HGW : Hid (w.heap.size ≤ wb) := HF1.out.gew
          obtain ⟨p2, hp2⟩ : ∃ p2, p2 = p + m + v := ⟨_, rfl⟩
          have hp2n : p2 ≤ n0 := by have := HXN.out; omega
          rw [← hp2] at hrd2
          have HP2 : Hid (p2 = p + m + v) := hp2
          clear hp2
          rw [← hys] at hfr9
          have HFR : Hid (Sl w2 ao9 ys) := hfr9.1
          have hcp9 : v ≤ cap9 := by have := hfr9.2.1; omega
          have HFA : Hid (∀ a, ao9 = some a → a.block ≠ wb) := fun a ha => by have := (hfr9.2.2.2 a ha).1; have := HF1.out.wri.lt; omega
          clear hys hfr9
          clear c10 c11 c12 HF1 hk2 hda2

          go_wp2_with (fail)
          refine (err_any hrd2).mono ?_
          rintro e w' ⟨rfl, n3, rfl⟩
          have hrd3 := hrd2.drewN n3
          have hwr3 := hwr2.drewN n3
          have hk3 := (Kept.refl [] w2).drewN n3
          have hB3 : Below w.heap.size w (w2.drewN n3) := ⟨hB2.os, hB2.tape, hB2.output, hB2.size, hB2.block⟩
          have c30 := hk3.cellOf c20 (by simp)
          have c31 := hk3.cellOf c21 (by simp)
          have c32 := hk3.cellOf c22 (by simp)
          have HFR3 : Hid (Sl (w2.drewN n3) ao9 ys) := Sl.drewN HFR.out n3
          have hsz3 : w2.heap.size ≤ (w2.drewN n3).heap.size := hk3.size
          clear hrd2 hB2 hwr2 c20 c21 c22 hk3
          generalize w2.drewN n3 = w3 at hrd3 hwr3 hB3 c30 c31 c32 hsz3 HFR3 ⊢

          go_wp2_with (fail)
          refine (wtext_ok hwr3 ao9 v cap9 ys hyl HFR3.out HFA.out (by omega) (by simp; omega) (by omega)).mono ?_
          rintro e w4 ⟨rfl, bs4, hw4, hk4, hs4⟩
          have HE : Hid (xs.take p ++ Pure.enc ys.length ++ ys = xs.take p2) := by
            show _ = _
            rw [hyl, HEN.out, HYS.out, HP2.out, List.take_add, List.take_add]
          clear hwr3 c30 c31 c32

          have hrd4 := hrd3.kept hk4 (by simpa using HNE.out) (fun _ a ha => by simpa using (HDA.out a ha).1)
          have hB4 : Below w.heap.size w w4 := hB3.trans (hk4.below hB3.size (by simpa using HGW.out))
          have hnb4 : ∀ g, g ∈ bs4 → g ≠ rb := fun g hg => by
            rcases hs4 g hg with h | h
            · exact HNB.out g h
            · have := hrd3.lt; omega
          have hda4 : ∀ a, ao = some a → a.block ≠ wb ∧ a.block ∉ bs4 ∧ a.block < w4.heap.size := fun a ha => by
            have h3 := HDA.out a ha
            refine ⟨h3.1, fun hm => ?_, Nat.lt_of_lt_of_le (Nat.lt_of_lt_of_le h3.2.2 hsz3) hk4.size⟩
            rcases hs4 _ hm with h | h
            · exact h3.2.1 h
            · have h5 := h3.2.2; omega
          rw [HE.out] at hw4
          clear hrd3 hB3 hk4 hs4 HDA HNB
          have HF4 : Hid (FormRel w w4 rb wb ao cap bs4 xs p2) := ⟨hrd4, hw4, HNE.out, hnb4, hda4, HGR.out, HGW.out, hB4⟩
          clear hnb4 hda4 hB4 HGR HGW HNE
          go_wp2_with (fail)
          refine (wdata_ok HF4.out.wri (by rw [List.length_take]; omega)).mono ?_
          rintro e w5 ⟨ao5, cap5, rfl, hfr5, hnn5, hk5⟩
          have HF5 : Hid (FormRel w w5 rb wb ao cap bs4 xs p2) := by
            have h := HF4.out
            exact ⟨h.rd.kept hk5 (by simp) (by simp), h.wri.kept hk5 (by simp) (by simp), h.ne, h.nb, fun a ha => ⟨(h.da a ha).1, (h.da a ha).2.1, Nat.lt_of_lt_of_le (h.da a ha).2.2 hk5.size⟩, h.ger, h.gew, h.below.trans (hk5.below h.below.size (by simp))⟩
          have HS5 : Hid (Sl w5 ao5 (xs.take p2)) := hfr5.1
          have hlp : (xs.take p2).length = p2 := by rw [List.length_take, HXN.out]; omega
          rw [hlp]
          clear HF4 hfr5 hnn5 hk5 hrd4 hw4
          go_wp2_with (fail)
          refine (left_ok HF5.out.rd).mono ?_
          rintro e w' ⟨rfl, n6, rfl⟩
          have hlx : ((xs.length - p2 : Nat) : Int) = (n0 : Int) - (p2 : Int) := by rw [HXN.out]; omega
          rw [hlx]
          clear hlx
          have HF6 : Hid (FormRel w (w5.drewN n6) rb wb ao cap bs4 xs p2) := by
            have h := HF5.out
            exact ⟨h.rd.drewN n6, h.wri.drewN n6, h.ne, h.nb, h.da, h.ger, h.gew, ⟨h.below.os, h.below.tape, h.below.output, h.below.size, h.below.block⟩⟩
          have HS6 : Hid (Sl (w5.drewN n6) ao5 (xs.take p2)) := Sl.drewN HS5.out n6
          clear HF5 HS5
          generalize w5.drewN n6 = w6 at HF6 HS6 ⊢
          have hcut0 := fun W => Try.cutTo W ao0 n0 cap0 p2 (by have := HIN.out.le; omega)
          have hpc : p2 ≤ cap0 := by have := HIN.out.le; omega
          have hsum6 : ((p2 : Int) + ((n0 : Int) - (p2 : Int)) != (n0 : Int)) = false := by simp; omega
          go_wp2_with (fail)
          refine (bytes_any ao5 ao0 p2 cap5 p2 cap0 (xs.take p2) (xs.take p2) _ hlp hlp (by omega) HS6.out (Sl.take (HIN.out.sl.kept (Kept.of_below HF6.out.below) (by simp)) p2)).mono ?_
          rintro e w' ⟨rfl, n7, rfl⟩
          have HF7 : Hid (FormRel w (w6.drewN n7) rb wb ao cap bs4 xs p2) := by
            have h := HF6.out
            exact ⟨h.rd.drewN n7, h.wri.drewN n7, h.ne, h.nb, h.da, h.ger, h.gew, ⟨h.below.os, h.below.tape, h.below.output, h.below.size, h.below.block⟩⟩
          clear HF6 HS6 hlp
          go_wp2
          go_roundw
          case rel => exact ⟨k + 1, p2, bs4, by omega, by omega, by go_num, HF7⟩
          case measure => simp [intOf]; omega
        · have hc0 : (c : Int) ≠ 0 := by omega
          refine (text_form HF1.out.rd vv (by omega) HR0.out hc).mono ?_
          rintro e w2 ⟨rfl, hk2, hrd2⟩

          have hwr2 : Wr w2 wb bs (xs.take p) := HF1.out.wri.kept hk2 (by simpa using Ne.symm HF1.out.ne) (fun g hg => by simpa using HF1.out.nb g hg)
          have hB2 : Below w.heap.size w w2 := HF1.out.below.trans (hk2.below HF1.out.below.size (by simpa using HF1.out.ger))
          have c20 : w2.cell? ⟨cb, 0, none⟩ = some (.int .i64 kd) := hk2.cellOf c10 (by simpa using hcr)
          have c21 : w2.cell? ⟨cb, 1, none⟩ = some (.int .i64 vv) := hk2.cellOf c11 (by simpa using hcr)
          have c22 : w2.cell? ⟨cb, 2, none⟩ = some (.int .i64 wd) := hk2.cellOf c12 (by simpa using hcr)
          have hda2 : ∀ a, ao = some a → a.block ≠ wb ∧ a.block ∉ bs ∧ a.block < w2.heap.size := fun a ha => ⟨(HF1.out.da a ha).1, (HF1.out.da a ha).2.1, Nat.lt_of_lt_of_le (HF1.out.da a ha).2.2 hk2.size⟩
          clear c10 c11 c12 HF1 hk2 hda2

          go_wp2_with (fail)
          refine (err_any hrd2).mono ?_
          rintro e w' ⟨rfl, n3, rfl⟩
          have hrd3 := hrd2.drewN n3
          have hB3 : Below w.heap.size w (w2.drewN n3) := ⟨hB2.os, hB2.tape, hB2.output, hB2.size, hB2.block⟩
          clear hrd2 hB2 hwr2 c20 c21 c22
          generalize w2.drewN n3 = w3 at hrd3 hB3 ⊢
          go_wp2_with (fail)
          refine (left_bad hrd3 (by omega)).mono ?_
          rintro e w' ⟨rfl, hw⟩
          obtain rfl := hw.symm
          go_wp2_with (go_at_call 12; refine (known_any _).mono ?_; rintro e wk ⟨rfl, hkk⟩)
          go_ret
          exact ⟨rfl, hB3.trans (hkk.below hB3.size (by simp))⟩
      have b4 : (kd == 4) = false := by simpa using k4
      go_wp2_with (fail)
      rw [← hcb]
      generalize wr.alloc _ = w1' at HF1 c10 c11 c12 ⊢
      clear hcb

      obtain ⟨w2, hw2⟩ : ∃ w2, w2 = w1' := ⟨_, rfl⟩
      have hrd2 := HF1.out.rd
      have hk2 : Kept [rb] w1' w1' := Kept.refl _ _
      rw [← hw2] at HF1 c10 c11 c12 hrd2 hk2 ⊢
      clear hw2

      have hwr2 : Wr w2 wb bs (xs.take p) := HF1.out.wri.kept hk2 (by simpa using Ne.symm HF1.out.ne) (fun g hg => by simpa using HF1.out.nb g hg)
      have hB2 : Below w.heap.size w w2 := HF1.out.below.trans (hk2.below HF1.out.below.size (by simpa using HF1.out.ger))
      have c20 : w2.cell? ⟨cb, 0, none⟩ = some (.int .i64 kd) := hk2.cellOf c10 (by simpa using hcr)
      have c21 : w2.cell? ⟨cb, 1, none⟩ = some (.int .i64 vv) := hk2.cellOf c11 (by simpa using hcr)
      have c22 : w2.cell? ⟨cb, 2, none⟩ = some (.int .i64 wd) := hk2.cellOf c12 (by simpa using hcr)
      have hda2 : ∀ a, ao = some a → a.block ≠ wb ∧ a.block ∉ bs ∧ a.block < w2.heap.size := fun a ha => ⟨(HF1.out.da a ha).1, (HF1.out.da a ha).2.1, Nat.lt_of_lt_of_le (HF1.out.da a ha).2.2 hk2.size⟩

      have HDA : Hid (∀ a, ao = some a → a.block ≠ wb ∧ a.block ∉ bs ∧ a.block < w2.heap.size) := hda2
      have HNB : Hid (∀ g, g ∈ bs → g ≠ rb) := HF1.out.nb
      have HNE : Hid (rb ≠ wb) := HF1.out.ne
      have HGR : Hid (w.heap.size ≤ rb) := HF1.out.ger
      have HGW : Hid (w.heap.size ≤ wb) := HF1.out.gew
      obtain ⟨p2, hp2⟩ : ∃ p2, p2 = p := ⟨_, rfl⟩
      have hp2n : p2 ≤ n0 := by omega
      rw [← hp2] at hrd2
      have HP2 : Hid (p2 = p) := hp2
      clear hp2

      clear c10 c11 c12 HF1 hk2 hda2

      go_wp2_with (fail)
      refine (err_any hrd2).mono ?_
      rintro e w' ⟨rfl, n3, rfl⟩
      have hrd3 := hrd2.drewN n3
      have hwr3 := hwr2.drewN n3
      have hk3 := (Kept.refl [] w2).drewN n3
      have hB3 : Below w.heap.size w (w2.drewN n3) := ⟨hB2.os, hB2.tape, hB2.output, hB2.size, hB2.block⟩
      have c30 := hk3.cellOf c20 (by simp)
      have c31 := hk3.cellOf c21 (by simp)
      have c32 := hk3.cellOf c22 (by simp)

      have hsz3 : w2.heap.size ≤ (w2.drewN n3).heap.size := hk3.size
      clear hrd2 hB2 hwr2 c20 c21 c22 hk3
      generalize w2.drewN n3 = w3 at hrd3 hwr3 hB3 c30 c31 c32 hsz3  ⊢

      have hw4 : Wr w3 wb bs (xs.take p2) := by rw [HP2.out]; exact hwr3
      have hk4 : Kept [wb] w3 w3 := Kept.refl _ _
      have hs4 : ∀ g, g ∈ bs → g ∈ bs ∨ w3.heap.size ≤ g := fun g hg => .inl hg

      have hrd4 := hrd3.kept hk4 (by simpa using HNE.out) (fun _ a ha => by simpa using (HDA.out a ha).1)
      have hB4 : Below w.heap.size w w3 := hB3.trans (hk4.below hB3.size (by simpa using HGW.out))
      have hnb4 : ∀ g, g ∈ bs → g ≠ rb := fun g hg => by
        rcases hs4 g hg with h | h
        · exact HNB.out g h
        · have := hrd3.lt; omega
      have hda4 : ∀ a, ao = some a → a.block ≠ wb ∧ a.block ∉ bs ∧ a.block < w3.heap.size := fun a ha => by
        have h3 := HDA.out a ha
        refine ⟨h3.1, fun hm => ?_, Nat.lt_of_lt_of_le (Nat.lt_of_lt_of_le h3.2.2 hsz3) hk4.size⟩
        rcases hs4 _ hm with h | h
        · exact h3.2.1 h
        · have h5 := h3.2.2; omega
      clear hrd3 hB3 hk4 hs4 HDA HNB
      have HF4 : Hid (FormRel w w3 rb wb ao cap bs xs p2) := ⟨hrd4, hw4, HNE.out, hnb4, hda4, HGR.out, HGW.out, hB4⟩
      clear hnb4 hda4 hB4 HGR HGW HNE
      clear hwr3
      go_wp2_with (fail)
      refine (wdata_ok HF4.out.wri (by rw [List.length_take]; omega)).mono ?_
      rintro e w5 ⟨ao5, cap5, rfl, hfr5, hnn5, hk5⟩
      have HF5 : Hid (FormRel w w5 rb wb ao cap bs xs p2) := by
        have h := HF4.out
        exact ⟨h.rd.kept hk5 (by simp) (by simp), h.wri.kept hk5 (by simp) (by simp), h.ne, h.nb, fun a ha => ⟨(h.da a ha).1, (h.da a ha).2.1, Nat.lt_of_lt_of_le (h.da a ha).2.2 hk5.size⟩, h.ger, h.gew, h.below.trans (hk5.below h.below.size (by simp))⟩
      have HS5 : Hid (Sl w5 ao5 (xs.take p2)) := hfr5.1
      have hlp : (xs.take p2).length = p2 := by rw [List.length_take, HXN.out]; omega
      rw [hlp]
      clear HF4 hfr5 hnn5 hk5 hrd4 hw4
      go_wp2_with (fail)
      refine (left_ok HF5.out.rd).mono ?_
      rintro e w' ⟨rfl, n6, rfl⟩
      have hlx : ((xs.length - p2 : Nat) : Int) = (n0 : Int) - (p2 : Int) := by rw [HXN.out]; omega
      rw [hlx]
      clear hlx
      have HF6 : Hid (FormRel w (w5.drewN n6) rb wb ao cap bs xs p2) := by
        have h := HF5.out
        exact ⟨h.rd.drewN n6, h.wri.drewN n6, h.ne, h.nb, h.da, h.ger, h.gew, ⟨h.below.os, h.below.tape, h.below.output, h.below.size, h.below.block⟩⟩
      have HS6 : Hid (Sl (w5.drewN n6) ao5 (xs.take p2)) := Sl.drewN HS5.out n6
      clear HF5 HS5
      generalize w5.drewN n6 = w6 at HF6 HS6 ⊢
      have hcut0 := fun W => Try.cutTo W ao0 n0 cap0 p2 (by have := HIN.out.le; omega)
      have hpc : p2 ≤ cap0 := by have := HIN.out.le; omega
      have hsum6 : ((p2 : Int) + ((n0 : Int) - (p2 : Int)) != (n0 : Int)) = false := by simp; omega
      go_wp2_with (fail)
      refine (bytes_any ao5 ao0 p2 cap5 p2 cap0 (xs.take p2) (xs.take p2) _ hlp hlp (by omega) HS6.out (Sl.take (HIN.out.sl.kept (Kept.of_below HF6.out.below) (by simp)) p2)).mono ?_
      rintro e w' ⟨rfl, n7, rfl⟩
      have HF7 : Hid (FormRel w (w6.drewN n7) rb wb ao cap bs xs p2) := by
        have h := HF6.out
        exact ⟨h.rd.drewN n7, h.wri.drewN n7, h.ne, h.nb, h.da, h.ger, h.gew, ⟨h.below.os, h.below.tape, h.below.output, h.below.size, h.below.block⟩⟩
      clear HF6 HS6 hlp
      go_wp2
      go_roundw
      case rel => exact ⟨k + 1, p2, bs, by omega, by omega, by go_num, HF7⟩
      case measure => simp [intOf]; omega
    · have hB := HF.out.below
      clear HF
      go_wp2_with (go_at_call 12; refine (known_any _).mono ?_; rintro e wk ⟨rfl, hkk⟩)
      go_ret
      exact ⟨rfl, hB.trans (hkk.below hB.size (by simp))⟩

set_option maxHeartbeats 2000000 in
set_option maxRecDepth 100000 in
theorem form_big (ao0 : Option Addr) (n0 cap0 : Nat) (so : Option Addr) (sn scap : Nat) (L : List Cl) (w : World) (hn0 : 200000 < n0) (hnm : n0 ≤ 9223372036854775807) (hL : L.length = sn) (hsm : sn ≤ 9223372036854775807) (hs : Scr w so L) :
    Calls Try.prog 4 #[.slice ao0 n0 cap0, .slice so sn scap] w fun e w' => e = .returned (.bool true) ∧ Below w.heap.size w w' := by
  have d1 : decide (200000 < (n0 : Int)) = true := by simp; omega
  have HSC : Hid (Scr w so L) := hs
  have HL : Hid (L.length = sn) := hL
  clear hs hL
  go_enter Try.func4, Try.ntmps4
  go_wp2_with (fail)
  refine (long_any so sn scap L _ HL.out hsm HSC.out).mono ?_
  rintro e w' ⟨he, hw⟩
  obtain rfl := hw.symm
  rcases he with rfl | ⟨rfl, _⟩
  · go_wp2
    go_ret
    exact ⟨rfl, Below.refl _ _⟩
  · go_wp2
    go_ret
    exact ⟨rfl, Below.refl _ _⟩

/-- CodeForm: whatever the input: true; nothing that was there turns. -/
theorem form_any (ao0 : Option Addr) (n0 cap0 : Nat) (so : Option Addr) (sn scap : Nat) (xs : List UInt8) (L : List Cl) (w : World) (hin : InB w ao0 n0 cap0 xs) (hL : L.length = sn) (hsm : sn ≤ 9223372036854775807) (hs : Scr w so L) :
    Calls Try.prog 4 #[.slice ao0 n0 cap0, .slice so sn scap] w fun e w' => e = .returned (.bool true) ∧ Below w.heap.size w w' := by
  by_cases h : n0 ≤ 200000
  · exact form_main ao0 n0 cap0 so sn scap xs L w hin h hL hsm hs
  · exact form_big ao0 n0 cap0 so sn scap L w (by omega) (by have := hin.le; have := hin.max; omega) hL hsm hs

end Go.Proofs.Ytjmameknbnflaab
