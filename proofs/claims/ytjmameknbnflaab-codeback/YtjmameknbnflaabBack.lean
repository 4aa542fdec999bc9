/-
  The walk: freightlaw1.CodeBack.
-/
import Derived.Test.YtjmameknbnflaabBk1
namespace Go.Proofs.Ytjmameknbnflaab
open Go.RowKit
set_option linter.unusedVariables false
set_option linter.unusedSimpArgs false

/-- The bytes of a call that may be written. -/
def encK (kd vv wd : Int) (ds : List UInt8) : List UInt8 := if kd = 1 then Pure.enc vv.toNat else if kd = 2 then Pure.fix vv.toNat wd.toNat else if kd = 3 then ds else if kd = 4 then Pure.enc ds.length ++ ds else []
def encC (c : Cl) : List UInt8 := encK c.kind c.v c.width c.ds
def wrt (l : List Cl) : List UInt8 := l.flatMap encC
/-- It may be written, or it is no call at all. -/
def OkK (kd vv wd : Int) : Prop := Fit kd vv wd ∨ kd < 1 ∨ 4 < kd

theorem stPut_fit {kd vv wd : Int} {ds ys : List UInt8} (h : Fit kd vv wd) : stPut (some ys) kd vv wd ds = some (ys ++ encK kd vv wd ds) := by
  unfold stPut encK
  rcases h with ⟨rfl, h⟩ | ⟨rfl, h⟩ | rfl | rfl
  · simp [stWNumber, h]
  · simp [stWFixed, h]
  · simp [stWRaw]
  · simp [stWText]
theorem stPut_unfit {kd vv wd : Int} {ds ys : List UInt8} (h : ¬ Fit kd vv wd) (h1 : 1 ≤ kd) (h4 : kd ≤ 4) : stPut (some ys) kd vv wd ds = none := by
  unfold stPut
  unfold Fit at h
  by_cases k1 : kd = 1
  · subst k1
    simp only [stWNumber, Option.bind_some, if_true]
    rw [if_neg (by omega)]
  by_cases k2 : kd = 2
  · subst k2
    simp only [stWFixed, Option.bind_some, if_true]
    rw [if_neg (by omega), if_neg (by omega)]
  exfalso
  omega
theorem wrt_snoc (L : List Cl) (k : Nat) (h : k < L.length) : wrt (L.take (k + 1)) = wrt (L.take k) ++ encC (L.getD k cl0) := by
  rw [Pure.take_snoc L cl0 k h]
  simp [wrt]
theorem encK_len {kd vv wd : Int} {ds : List UInt8} (h : Fit kd vv wd) (hd : ds.length ≤ 200000) : (encK kd vv wd ds).length ≤ 200005 := by
  unfold encK
  rcases h with ⟨rfl, h⟩ | ⟨rfl, h⟩ | rfl | rfl
  · have := Pure.enc_len5 (v := vv.toNat) (by omega)
    simp; omega
  · simp [Pure.fix_len]; omega
  · simp; omega
  · have := Pure.enc_len5 (v := ds.length) (by omega)
    simp; omega

/-- What holds at the head of CodeBack's first loop. -/
structure BackRel (w wr : World) (L : List Cl) (b : Nat) (fp : List Nat) (k n : Nat) : Prop where
  ws : WrS wr (some ⟨b, 0, none⟩) fp (some (wrt (L.take k)))
  num : (wrt (L.take k)).length = n
  ge : ∀ g, g ∈ fp → w.heap.size ≤ g
  ok : ∀ i, i < k → OkK (L.getD i cl0).kind (L.getD i cl0).v (L.getD i cl0).width
  below : Below w.heap.size w wr

theorem BackRel.kept {w wr w' : World} {L : List Cl} {b : Nat} {fp : List Nat} {k n : Nat} (h : BackRel w wr L b fp k n) (hk : Kept [] wr w') : BackRel w w' L b fp k n :=
  ⟨h.ws.kept hk (by simp), h.num, h.ge, h.ok, h.below.trans (hk.below h.below.size (by simp))⟩

/-- Before write: a new desk beside the writer. -/
theorem BackRel.wd {w wr : World} {L : List Cl} {b : Nat} {fp : List Nat} {k n : Nat} (h : BackRel w wr L b fp k n) : WD (wr.alloc (.cells #[.slice none 0 0] 39)) (some ⟨b, 0, none⟩) fp (some (wrt (L.take k))) wr.heap.size none [] :=
  ⟨h.ws.kept ((Kept.refl [] wr).alloc _) (by simp), dk_zero wr, fun hm => by have := h.ws.lts (by simp) _ hm; omega, by simp, by simp⟩

/-- What holds at the head of CodeBack's second loop. -/
structure Bk2 (w wr : World) (L : List Cl) (rb : Nat) (ao : Option Addr) (cap : Nat) (xs : List UInt8) (k : Nat) : Prop where
  rd : Rd wr rb 0 0 ao cap xs (wrt (L.take k)).length
  ge : w.heap.size ≤ rb
  below : Below w.heap.size w wr

theorem Bk2.kept {w wr w' : World} {L : List Cl} {rb : Nat} {ao : Option Addr} {cap : Nat} {xs : List UInt8} {k : Nat} (h : Bk2 w wr L rb ao cap xs k) (hk : Kept [] wr w') : Bk2 w w' L rb ao cap xs k :=
  ⟨h.rd.kept hk (by simp) (by simp), h.ge, h.below.trans (hk.below h.below.size (by simp))⟩
theorem Bk2.next {w wr w' : World} {L : List Cl} {rb : Nat} {ao : Option Addr} {cap : Nat} {xs : List UInt8} {k j : Nat} (h : Bk2 w wr L rb ao cap xs k) (hk : Kept [rb] wr w') (hr : Rd w' rb 0 0 ao cap xs j) (hj : j = (wrt (L.take (k + 1))).length) : Bk2 w w' L rb ao cap xs (k + 1) :=
  ⟨hj ▸ hr, h.ge, h.below.trans (hk.below h.below.size (by simpa using h.ge))⟩

theorem wrt_split (L : List Cl) (k : Nat) (h : k < L.length) : (wrt L).drop (wrt (L.take k)).length = encC (L.getD k cl0) ++ wrt (L.drop (k + 1)) := by
  have e : wrt L = wrt (L.take k) ++ (encC (L.getD k cl0) ++ wrt (L.drop (k + 1))) := by
    conv => lhs; rw [← List.take_append_drop (k + 1) L]
    unfold wrt
    rw [List.flatMap_append, ← List.append_assoc]
    congr 1
    exact wrt_snoc L k h
  rw [e, List.drop_left]

theorem InB.far {w : World} {ao : Option Addr} {n cap : Nat} {xs : List UInt8} (h : InB w ao n cap xs) (hne : xs ≠ []) {a : Addr} (ha : ao = some a) : a.block < w.heap.size := by
  obtain ⟨b', off', e', hb', _⟩ := h.sl.open hne
  rw [e'] at ha
  cases ha
  exact hb'

theorem rnumber_is {w : World} {b : Nat} {p : Int} {ao : Option Addr} {cap : Nat} {xs : List UInt8} {at_ : Nat} (h : Rd w b 0 p ao cap xs at_) {v k : Nat} {vv : Int} (hv : (v : Int) = vv) (hr : Pure.num (xs.drop at_) = (v, k, 0)) :
    Calls Try.prog 15 #[.pointer (some ⟨b, 0, none⟩)] w fun e' w' => e' = .returned (.int .i64 vv) ∧ Kept [b] w w' ∧ Rd w' b 0 p ao cap xs (at_ + k) := by
  subst hv
  exact rnumber_as h hr
theorem rfixed_is {w : World} {b : Nat} {p : Int} {ao : Option Addr} {cap : Nat} {xs : List UInt8} {at_ : Nat} (h : Rd w b 0 p ao cap xs at_) (n : Nat) (hn0 : 1 ≤ n) (hn4 : n ≤ 4) (hn : n ≤ xs.length - at_) {vv : Int} (hv : ((Pure.be ((xs.drop at_).take n) : Nat) : Int) = vv) :
    Calls Try.prog 16 #[.pointer (some ⟨b, 0, none⟩), .int .i64 n] w fun e' w' => e' = .returned (.int .i64 vv) ∧ Kept [b] w w' ∧ Rd w' b 0 p ao cap xs (at_ + n) := by
  subst hv
  exact rfixed_ok h n hn0 hn4 hn
theorem raw_is {w : World} {b : Nat} {p : Int} {ao : Option Addr} {cap : Nat} {xs : List UInt8} {at_ : Nat} (h : Rd w b 0 p ao cap xs at_) (n : Nat) (hn : n ≤ xs.length - at_) {ds : List UInt8} (hd : (xs.drop at_).take n = ds) :
    Calls Try.prog 18 #[.pointer (some ⟨b, 0, none⟩), .int .i64 n] w fun e' w' => ∃ ao' cap', e' = .returned (.slice ao' n cap') ∧ Sl w' ao' ds ∧ Kept [b] w w' ∧ Rd w' b 0 p ao cap xs (at_ + n) := by
  subst hd
  exact (raw_ok h n hn).mono fun e w' ⟨a, c, h1, h2, h3, h4⟩ => ⟨a, c, h1, h2.1, h3, h4⟩
theorem text_is {w : World} {b : Nat} {p : Int} {ao : Option Addr} {cap : Nat} {xs : List UInt8} {at_ : Nat} (h : Rd w b 0 p ao cap xs at_) (most : Int) (hn : 0 ≤ most) {v k : Nat} (hr : Pure.num (xs.drop at_) = (v, k, 0)) (hv : v ≤ most) (hsh : v ≤ xs.length - (at_ + k)) {ds : List UInt8} (hd : (xs.drop (at_ + k)).take v = ds) :
    Calls Try.prog 19 #[.pointer (some ⟨b, 0, none⟩), .int .i64 most] w fun e' w' => ∃ ao' cap', e' = .returned (.slice ao' v cap') ∧ Sl w' ao' ds ∧ Kept [b] w w' ∧ Rd w' b 0 p ao cap xs (at_ + k + v) := by
  subst hd
  exact (text_ok h most hn hr hv hsh).mono fun e w' ⟨a, c, h1, h2, h3, h4⟩ => ⟨a, c, h1, h2.1, h3, h4⟩
theorem bytes_same (a1 a2 : Option Addr) (n c1 c2 : Nat) (xs : List UInt8) (w : World) (hx : xs.length = n) (hm : n ≤ 4611686018427387904) (h1 : Sl w a1 xs) (h2 : Sl w a2 xs) :
    Calls Try.prog 17 #[.slice a1 n c1, .slice a2 n c2] w fun e w' => e = .returned (.bool true) ∧ ∃ k, w' = w.drewN k :=
  (bytes_any a1 a2 n c1 n c2 xs xs w hx hx hm h1 h2).mono fun e w' ⟨h1, h2⟩ => ⟨by rw [h1, decide_eq_true rfl], h2⟩

set_option maxHeartbeats 6000000 in
set_option maxRecDepth 100000 in
theorem back_main (so : Option Addr) (sn scap : Nat) (more : Int) (hm0 : 0 ≤ more) (hm1 : more ≤ 1073741823) (L : List Cl) (w : World) (hL : L.length = sn) (hsm : sn ≤ 9223372036854775807) (hs : Scr w so L) :
    Calls Try.prog 3 #[.slice so sn scap, .int .i64 more] w fun e w' => e = .returned (.bool true) ∧ Below w.heap.size w w' := by
  have HSC : Hid (Scr w so L) := hs
  have HL : Hid (L.length = sn) := hL
  have hz1 := Try.zeroDesk0
  have hz2 := Try.zeroWriter
  have dm0 : decide (more < 0) = false := by simp; omega
  have dm1 : decide (1073741823 < more) = false := by simp; omega
  clear hs hL
  go_enter Try.func3, Try.ntmps3
  go_wp2_with (fail)
  refine (long_any so sn scap L _ HL.out hsm HSC.out).mono ?_
  rintro e w' ⟨he, hw⟩
  obtain rfl := hw.symm
  rcases he with rfl | ⟨rfl, hsh⟩
  · go_wp2
    go_ret
    exact ⟨rfl, Below.refl _ _⟩
  have hsn : sn ≤ 200 := by have := hsh.1; rw [HL.out] at this; exact this
  have HV : Hid (∀ i, i < sn → (L.getD i cl0).ds.length ≤ 200000) := fun i hi => Nat.le_trans (vol_at (by rw [HL.out]; exact hi)) hsh.2
  clear hsh
  have HI : Hid (BackRel w (w.alloc (.cells zeroW 31)) L w.heap.size [w.heap.size] 0 0) :=
    ⟨.inl ⟨_, [], [], by simp [wrt], rfl, rfl, wr_zero w⟩, by simp [wrt], by simp, by simp, (Below.refl _ _).alloc (Nat.le_refl _) _⟩
  go_wp2
  obtain ⟨b, hb⟩ : ∃ b, b = w.heap.size := ⟨_, rfl⟩
  rw [← hb] at HI ⊢
  generalize w.alloc _ = w3 at HI ⊢
  clear hb
  go_loopw [6, 7] (fun z y wr => ∃ (k n : Nat) (fp : List Nat), k ≤ sn ∧ n ≤ k * 200005 ∧ y = .int .i64 k ∧ z = .int .i64 n ∧ Hid (BackRel w wr L b fp k n)) (fun z y wr => sn - (intOf y).toNat)
  case atStart => exact ⟨0, 0, _, Nat.zero_le _, by omega, rfl, rfl, HI⟩
  case round =>
    clear HI
    obtain ⟨k, n, fp, hk, hn, rfl, rfl, HF0⟩ := hrel
    have hn2 : n ≤ 40001000 := Nat.le_trans hn (Nat.mul_le_mul_right 200005 (show k ≤ 200 by omega))
    by_cases hlt : k < sn
    · obtain ⟨sb, soff, hso, hcl⟩ := HSC.out k (by rw [HL.out]; exact hlt)
      have hcl2 := hcl.kept HF0.out.below
      have e0 := hcl2.c0
      have e1 := hcl2.c1
      have e2 := hcl2.c2
      have e3 := hcl2.c3
      have hd2 := HV.out k hlt
      have HIN : Hid (InB w (L.getD k cl0).da (L.getD k cl0).dn (L.getD k cl0).dc (L.getD k cl0).ds) := hcl.inb
      have HNX : Hid (∀ w' fp', WrS w' (some ⟨b, 0, none⟩) fp' (some (wrt (L.take k) ++ encK (L.getD k cl0).kind (L.getD k cl0).v (L.getD k cl0).width (L.getD k cl0).ds)) → OkK (L.getD k cl0).kind (L.getD k cl0).v (L.getD k cl0).width → (∀ g, g ∈ fp' → w.heap.size ≤ g) → Below w.heap.size w w' → BackRel w w' L b fp' (k + 1) (n + (encK (L.getD k cl0).kind (L.getD k cl0).v (L.getD k cl0).width (L.getD k cl0).ds).length)) := fun w' fp' h1 h2 h3 h4 => by
        have hs := wrt_snoc L k (by rw [HL.out]; exact hlt)
        refine ⟨by rw [hs]; exact h1, by rw [hs, List.length_append, HF0.out.num]; rfl, h3, fun i hi => ?_, h4⟩
        by_cases hik : i = k
        · subst hik; exact h2
        · exact HF0.out.ok i (by omega)
      generalize (L.getD k cl0).kind = kd at e0 HNX
      generalize (L.getD k cl0).v = vv at e1 HNX
      generalize (L.getD k cl0).width = wd at e2 HNX
      generalize (L.getD k cl0).da = da at e3 HIN
      generalize (L.getD k cl0).dn = dn at e3 HIN
      generalize (L.getD k cl0).dc = dc at e3 HIN
      generalize (L.getD k cl0).ds = ds at HIN hd2 HNX
      rw [Nat.mul_comm] at e0 e1 e2 e3
      subst hso
      clear hcl hcl2
      have HDN : Hid (dn ≤ 200000) := by have := HIN.out.len; show dn ≤ 200000; omega
      have HF : Hid (BackRel w (wr.alloc (.cells #[.int .i64 kd, .int .i64 vv, .int .i64 wd, .slice da dn dc] 34)) L b fp k n) := HF0.out.kept ((Kept.refl [] wr).alloc _)
      obtain ⟨cb, hcb⟩ : ∃ cb, cb = wr.heap.size := ⟨_, rfl⟩
      have HCB : Hid (cb ∉ fp) := fun hm => by have := HF0.out.ws.lts (by simp) cb hm; omega
      have c10 : (wr.alloc (.cells #[.int .i64 kd, .int .i64 vv, .int .i64 wd, .slice da dn dc] 34)).cell? ⟨cb, 0, none⟩ = some (.int .i64 kd) := by rw [hcb]; simp
      have c11 : (wr.alloc (.cells #[.int .i64 kd, .int .i64 vv, .int .i64 wd, .slice da dn dc] 34)).cell? ⟨cb, 1, none⟩ = some (.int .i64 vv) := by rw [hcb]; simp
      have c12 : (wr.alloc (.cells #[.int .i64 kd, .int .i64 vv, .int .i64 wd, .slice da dn dc] 34)).cell? ⟨cb, 2, none⟩ = some (.int .i64 wd) := by rw [hcb]; simp
      have c13 : (wr.alloc (.cells #[.int .i64 kd, .int .i64 vv, .int .i64 wd, .slice da dn dc] 34)).cell? ⟨cb, 3, none⟩ = some (.slice da dn dc) := by rw [hcb]; simp
      clear HF0
      go_wp2_with (fail)
      try rw [← hcb]
      generalize wr.alloc _ = w4 at HF c10 c11 c12 c13 ⊢
      clear hcb e0 e1 e2 e3
      refine (fit_any kd vv wd da dn dc _).mono ?_
      rintro e w5 ⟨rfl, hk5⟩
      have HF5 : Hid (BackRel w w5 L b fp k n) := HF.out.kept hk5
      have d10 := hk5.cellOf c10 (by simp)
      have d11 := hk5.cellOf c11 (by simp)
      have d12 := hk5.cellOf c12 (by simp)
      have d13 := hk5.cellOf c13 (by simp)
      have hcl5 : cb < w5.heap.size := World.block_lt_of_cell? _ _ d10
      clear hk5 HF c10 c11 c12 c13
      by_cases hfit : Fit kd vv wd
      · have HFIT : Hid (Fit kd vv wd) := hfit
        simp only [decide_eq_true hfit]
        clear hfit
        go_wp2_with (fail)
        have HLT5 : Hid (cb ≠ w5.heap.size) := by show cb ≠ _; omega
        have HWD := (show Hid _ from HF5.out.wd)
        have HB6 : Hid (Below w.heap.size w (w5.alloc (.cells #[.slice none 0 0] 39))) := HF5.out.below.alloc HF5.out.below.size _
        have HGD : Hid (w.heap.size ≤ w5.heap.size) := HF5.out.below.size
        have HNUM : Hid ((wrt (L.take k)).length = n) := HF5.out.num
        have HGE : Hid (∀ g, g ∈ fp → w.heap.size ≤ g) := HF5.out.ge
        obtain ⟨f10, f11, f12, f13⟩ : (w5.alloc (.cells #[.slice none 0 0] 39)).cell? ⟨cb, 0, none⟩ = some (.int .i64 kd) ∧ (w5.alloc (.cells #[.slice none 0 0] 39)).cell? ⟨cb, 1, none⟩ = some (.int .i64 vv) ∧ (w5.alloc (.cells #[.slice none 0 0] 39)).cell? ⟨cb, 2, none⟩ = some (.int .i64 wd) ∧ (w5.alloc (.cells #[.slice none 0 0] 39)).cell? ⟨cb, 3, none⟩ = some (.slice da dn dc) :=
          ⟨((Kept.refl [] w5).alloc _).cellOf d10 (by simp), ((Kept.refl [] w5).alloc _).cellOf d11 (by simp), ((Kept.refl [] w5).alloc _).cellOf d12 (by simp), ((Kept.refl [] w5).alloc _).cellOf d13 (by simp)⟩
        clear hcl5 HF5 d10 d11 d12 d13
        obtain ⟨D, hD⟩ : ∃ D, D = w5.heap.size := ⟨_, rfl⟩
        rw [← hD] at HLT5 HWD HGD ⊢
        generalize w5.alloc _ = w6 at HWD HB6 f10 f11 f12 f13 ⊢
        clear hD
        refine (lwrite_any HWD.out (fun ys hy => by cases hy; rw [HNUM.out]; omega) kd vv wd da dn dc ds HIN.out.len HDN.out (HIN.out.sl.kept (Kept.of_below HB6.out) (by simp)) (fun hne a ha hm => by
          have h1 := HIN.out.far hne ha
          simp only [List.mem_append, mem_dkfp] at hm
          rcases hm with h | h | h
          · have := HGE.out _ h; omega
          · have := HGD.out; omega
          · cases h)).mono ?_
        rintro e w7 ⟨rfl, hend⟩
        rw [stPut_fit HFIT.out] at hend
        obtain ⟨fp7, bo7, R7, hwd7, hk7, hs7, hb7⟩ := hend
        have HB7 : Hid (Below w.heap.size w w7) := HB6.out.trans (hk7.below HB6.out.size (fun i hi => by
          simp only [List.mem_append, mem_dkfp] at hi
          rcases hi with h | h | h
          · exact HGE.out _ h
          · rw [h]; exact HGD.out
          · cases h))
        have hcn : cb ∉ fp ++ dkfp D none := fun hm => by
          simp only [List.mem_append, mem_dkfp] at hm
          rcases hm with h | h | h
          · exact HCB.out h
          · exact HLT5.out h
          · cases h
        have g10 := hk7.cellOf f10 hcn
        have g11 := hk7.cellOf f11 hcn
        have g12 := hk7.cellOf f12 hcn
        have g13 := hk7.cellOf f13 hcn
        have HGE7 : Hid (∀ g, g ∈ fp7 → w.heap.size ≤ g) := fun g hg => by
          rcases hs7 g hg with h | h
          · exact HGE.out g h
          · have := HB6.out.size; omega
        have HS7 : Hid (WrS w7 (some ⟨b, 0, none⟩) fp7 (some (wrt (L.take k) ++ encK kd vv wd ds))) := hwd7.wr
        obtain ⟨m, hm⟩ : ∃ m, m = (wrt (L.take k) ++ encK kd vv wd ds).length := ⟨_, rfl⟩
        have HM : Hid (m = n + (encK kd vv wd ds).length) := by show m = _; rw [hm, List.length_append, HNUM.out]
        have HM2 : Hid ((encK kd vv wd ds).length ≤ 200005) := encK_len HFIT.out hd2
        have hm2 : m ≤ (k + 1) * 200005 := by have h1 := HM.out; have h2 := HM2.out; rw [Nat.succ_mul]; omega
        have hm3 : m ≤ 50000000 := by have h1 := HM.out; have h2 := HM2.out; omega
        clear hwd7 hk7 hs7 hb7 hcn HWD HGE HB6 HLT5 HCB HGD f10 f11 f12 f13
        go_wp2_with (fail)
        refine (wdata_st HS7.out (fun ys hy => by cases hy; rw [← hm]; omega)).mono ?_
        rintro e w8 ⟨⟨ao8, cap8, rfl, hfr8⟩, hk8⟩
        have HS8 : Hid (WrS w8 (some ⟨b, 0, none⟩) fp7 (some (wrt (L.take k) ++ encK kd vv wd ds))) := HS7.out.kept hk8 (by simp)
        have HB8 : Hid (Below w.heap.size w w8) := HB7.out.trans (hk8.below HB7.out.size (by simp))
        rw [← hm]
        have i10 := hk8.cellOf g10 (by simp)
        have i11 := hk8.cellOf g11 (by simp)
        have i12 := hk8.cellOf g12 (by simp)
        have i13 := hk8.cellOf g13 (by simp)
        have HBR : Hid (BackRel w w8 L b fp7 (k + 1) m) := by
          have := HNX.out w8 fp7 HS8.out (.inl HFIT.out) HGE7.out HB8.out
          rw [← HM.out] at this
          exact this
        have HDL : Hid (ds.length = dn) := HIN.out.len
        clear hfr8 hk8 HS7 HB7 HS8 HB8 g10 g11 g12 g13 hm HNX HIN HNUM HGE7 HM2
        by_cases k1 : kd = 1
        · subst k1
          have q1 : n < m ∧ m ≤ n + 5 := by
            have h1 := HM.out
            have h2 := HFIT.out
            unfold Fit at h2
            have h3 := Pure.enc_len5 (v := vv.toNat) (by omega)
            have h4 := Pure.enc_pos vv.toNat
            have h5 : encK 1 vv wd ds = Pure.enc vv.toNat := by simp [encK]
            rw [h5] at h1
            omega
          obtain ⟨q1, q2⟩ := q1
          have q3 : ((m : Int) == (n : Int)) = false := by simp; omega
          clear HM HFIT
          go_wp2
          go_roundw
          case rel => exact ⟨k + 1, m, fp7, by omega, hm2, by go_num, by first | rfl | (congr 1; omega), HBR⟩
          case measure => simp [intOf]; omega
        by_cases k2 : kd = 2
        · subst k2
          have q1 : wd = ((m - n : Nat) : Int) ∧ n ≤ m ∧ m ≤ n + 4 := by
            have h1 := HM.out
            have h2 := HFIT.out
            unfold Fit at h2
            have h5 : encK 2 vv wd ds = Pure.fix vv.toNat wd.toNat := by simp [encK]
            rw [h5, Pure.fix_len] at h1
            omega
          obtain ⟨q1, q2, q4⟩ := q1
          have q3 : ((m : Int) != (n : Int) + wd) = false := by simp; omega
          clear HM HFIT
          go_wp2
          go_roundw
          case rel => exact ⟨k + 1, m, fp7, by omega, hm2, by go_num, by first | rfl | (congr 1; omega), HBR⟩
          case measure => simp [intOf]; omega
        by_cases k3 : kd = 3
        · subst k3
          have q1 : m = n + dn := by
            have h1 := HM.out
            have h5 : encK 3 vv wd ds = ds := by simp [encK]
            rw [h5, HDL.out] at h1
            exact h1
          have q3 : ((m : Int) != (n : Int) + (dn : Int)) = false := by simp; omega
          have hdn := HDN.out
          clear HM HFIT
          go_wp2
          go_roundw
          case rel => exact ⟨k + 1, m, fp7, by omega, hm2, by go_num, by first | rfl | (congr 1; omega), HBR⟩
          case measure => simp [intOf]; omega
        · have k4 : kd = 4 := by
            have h2 := HFIT.out
            unfold Fit at h2
            omega
          subst k4
          have q1 : n ≤ m := by have h1 := HM.out; omega
          clear HM HFIT k1 k2 k3
          go_wp2
          go_roundw
          case rel => exact ⟨k + 1, m, fp7, by omega, hm2, by go_num, by first | rfl | (congr 1; omega), HBR⟩
          case measure => simp [intOf]; omega
      · have HFIT : Hid (¬ Fit kd vv wd) := hfit
        simp only [decide_eq_false hfit]
        clear hfit
        by_cases h1 : kd < 1
        · have HBR : Hid (BackRel w w5 L b fp (k + 1) n) := by
            have e : encK kd vv wd ds = [] := by unfold encK; rw [if_neg (by omega), if_neg (by omega), if_neg (by omega), if_neg (by omega)]
            have h := HNX.out w5 fp (by rw [e, List.append_nil]; exact HF5.out.ws) (.inr (.inl h1)) HF5.out.ge HF5.out.below
            rw [e] at h
            exact h
          have hm2 : n ≤ (k + 1) * 200005 := Nat.le_trans hn (Nat.mul_le_mul_right _ (Nat.le_succ k))
          clear HNX HF5 HIN
          go_wp2
          go_roundw
          case rel => exact ⟨k + 1, n, fp, by omega, hm2, by go_num, by first | rfl | (congr 1; omega), HBR⟩
          case measure => simp [intOf]; omega
        by_cases h4 : 4 < kd
        · have HBR : Hid (BackRel w w5 L b fp (k + 1) n) := by
            have e : encK kd vv wd ds = [] := by unfold encK; rw [if_neg (by omega), if_neg (by omega), if_neg (by omega), if_neg (by omega)]
            have h := HNX.out w5 fp (by rw [e, List.append_nil]; exact HF5.out.ws) (.inr (.inr h4)) HF5.out.ge HF5.out.below
            rw [e] at h
            exact h
          have hm2 : n ≤ (k + 1) * 200005 := Nat.le_trans hn (Nat.mul_le_mul_right _ (Nat.le_succ k))
          clear HNX HF5 HIN
          go_wp2
          go_roundw
          case rel => exact ⟨k + 1, n, fp, by omega, hm2, by go_num, by first | rfl | (congr 1; omega), HBR⟩
          case measure => simp [intOf]; omega
        go_wp2_with (fail)
        have HLT5 : Hid (cb ≠ w5.heap.size) := by show cb ≠ _; omega
        have HWD := (show Hid _ from HF5.out.wd)
        have HB6 : Hid (Below w.heap.size w (w5.alloc (.cells #[.slice none 0 0] 39))) := HF5.out.below.alloc HF5.out.below.size _
        have HGD : Hid (w.heap.size ≤ w5.heap.size) := HF5.out.below.size
        have HNUM : Hid ((wrt (L.take k)).length = n) := HF5.out.num
        have HGE : Hid (∀ g, g ∈ fp → w.heap.size ≤ g) := HF5.out.ge
        obtain ⟨f10, f11, f12, f13⟩ : (w5.alloc (.cells #[.slice none 0 0] 39)).cell? ⟨cb, 0, none⟩ = some (.int .i64 kd) ∧ (w5.alloc (.cells #[.slice none 0 0] 39)).cell? ⟨cb, 1, none⟩ = some (.int .i64 vv) ∧ (w5.alloc (.cells #[.slice none 0 0] 39)).cell? ⟨cb, 2, none⟩ = some (.int .i64 wd) ∧ (w5.alloc (.cells #[.slice none 0 0] 39)).cell? ⟨cb, 3, none⟩ = some (.slice da dn dc) :=
          ⟨((Kept.refl [] w5).alloc _).cellOf d10 (by simp), ((Kept.refl [] w5).alloc _).cellOf d11 (by simp), ((Kept.refl [] w5).alloc _).cellOf d12 (by simp), ((Kept.refl [] w5).alloc _).cellOf d13 (by simp)⟩
        clear hcl5 HF5 d10 d11 d12 d13
        obtain ⟨D, hD⟩ : ∃ D, D = w5.heap.size := ⟨_, rfl⟩
        rw [← hD] at HLT5 HWD HGD ⊢
        generalize w5.alloc _ = w6 at HWD HB6 f10 f11 f12 f13 ⊢
        clear hD
        refine (lwrite_any HWD.out (fun ys hy => by cases hy; rw [HNUM.out]; omega) kd vv wd da dn dc ds HIN.out.len HDN.out (HIN.out.sl.kept (Kept.of_below HB6.out) (by simp)) (fun hne a ha hm => by
          have h1 := HIN.out.far hne ha
          simp only [List.mem_append, mem_dkfp] at hm
          rcases hm with h | h | h
          · have := HGE.out _ h; omega
          · have := HGD.out; omega
          · cases h)).mono ?_
        rintro e w7 ⟨rfl, hend⟩
        rw [stPut_unfit HFIT.out (by omega) (by omega)] at hend
        obtain ⟨fp7, bo7, R7, hwd7, hk7, hs7, hb7⟩ := hend
        have HB7 : Hid (Below w.heap.size w w7) := HB6.out.trans (hk7.below HB6.out.size (fun i hi => by
          simp only [List.mem_append, mem_dkfp] at hi
          rcases hi with h | h | h
          · exact HGE.out _ h
          · rw [h]; exact HGD.out
          · cases h))
        have hcn : cb ∉ fp ++ dkfp D none := fun hm => by
          simp only [List.mem_append, mem_dkfp] at hm
          rcases hm with h | h | h
          · exact HCB.out h
          · exact HLT5.out h
          · cases h
        have g10 := hk7.cellOf f10 hcn
        have g11 := hk7.cellOf f11 hcn
        have g12 := hk7.cellOf f12 hcn
        have g13 := hk7.cellOf f13 hcn
        have HGE7 : Hid (∀ g, g ∈ fp7 → w.heap.size ≤ g) := fun g hg => by
          rcases hs7 g hg with h | h
          · exact HGE.out g h
          · have := HB6.out.size; omega
        have HS7 : Hid (WrS w7 (some ⟨b, 0, none⟩) fp7 none) := hwd7.wr
        clear hwd7 hk7 hs7 hb7 hcn HWD HGE HB6 HLT5 HCB HGD f10 f11 f12 f13 g10 g11 g12 g13 HNX HIN HNUM
        go_wp2_with (fail)
        refine (wdata_st HS7.out (by simp)).mono ?_
        rintro e w8 ⟨he, hk8⟩
        obtain rfl : e = .returned (.tuple #[.slice none 0 0, .int .i64 1]) := he
        have HS8 : Hid (WrS w8 (some ⟨b, 0, none⟩) fp7 none) := HS7.out.kept hk8 (by simp)
        have HB8 : Hid (Below w.heap.size w w8) := HB7.out.trans (hk8.below HB7.out.size (by simp))
        clear hk8 HS7 HB7
        go_wp2_with (fail)
        refine (wnumber_st HS8.out (by simp) 7).mono ?_
        rintro e w9 ⟨rfl, hend⟩
        obtain ⟨fp9, hws9, hk9, hs9⟩ := hend
        have HS9 : Hid (WrS w9 (some ⟨b, 0, none⟩) fp9 none) := hws9
        have HB9 : Hid (Below w.heap.size w w9) := HB8.out.trans (hk9.below HB8.out.size HGE7.out)
        clear hws9 hk9 hs9 HS8 HB8
        go_wp2_with (fail)
        refine (wdata_st HS9.out (by simp)).mono ?_
        rintro e w10 ⟨he, hk10⟩
        obtain rfl : e = .returned (.tuple #[.slice none 0 0, .int .i64 1]) := he
        have HB10 : Hid (Below w.heap.size w w10) := HB9.out.trans (hk10.below HB9.out.size (by simp))
        clear hk10 HS9 HB9
        go_wp2_with (go_at_call 12; refine (known_any _).mono ?_; rintro e wk ⟨rfl, hkk⟩)
        go_ret
        exact ⟨rfl, HB10.out.trans (hkk.below HB10.out.size (by simp))⟩
    · have HTK : Hid (L.take k = L) := List.take_of_length_le (by rw [HL.out]; omega)
      have HW : Hid (WrS wr (some ⟨b, 0, none⟩) fp (some (wrt L))) := by have := HF0.out.ws; rw [HTK.out] at this; exact this
      have HXN : Hid ((wrt L).length = n) := by have := HF0.out.num; rw [HTK.out] at this; exact this
      have HOK : Hid (∀ i, i < sn → OkK (L.getD i cl0).kind (L.getD i cl0).v (L.getD i cl0).width) := fun i hi => HF0.out.ok i (by omega)
      have HB : Hid (Below w.heap.size w wr) := HF0.out.below
      clear HF0 HTK hz1 hz2 hn
      go_wp2_with (fail)
      clear hk hlt
      refine (wdata_st HW.out (fun ys hy => by cases hy; rw [HXN.out]; omega)).mono ?_
      rintro e w4 ⟨⟨ao, cap, rfl, hfr⟩, hk4⟩
      rw [HXN.out]
      have HB4 : Hid (Below w.heap.size w w4) := HB.out.trans (hk4.below HB.out.size (by simp))
      have HFR : Hid (Sl w4 ao (wrt L) ∧ (ao = none → wrt L = [] ∧ cap = 0)) := ⟨hfr.1, hfr.2.2.1⟩
      clear hfr hk4 HB HW
      go_wp2_with (fail)
      refine (read_any ao n cap (wrt L) _ HXN.out (by rw [HXN.out]; omega) HFR.out.1 HFR.out.2).mono ?_
      rintro e w5 ⟨rb, ao5, cap5, rfl, hrb, hao, hda, hrd, hk5⟩
      have HRD : Hid (Rd w5 rb 0 0 ao5 cap5 (wrt L) 0) := hrd
      have HB5 : Hid (Below w.heap.size w w5) := HB4.out.trans (hk5.below HB4.out.size (by simp))
      have HRB : Hid (w.heap.size ≤ rb) := Nat.le_trans HB4.out.size hrb
      clear hrb hao hda hrd hk5 HB4 HFR
      go_wp2_with (fail)
      refine (left_ok HRD.out).mono ?_
      rintro e w' ⟨rfl, nq, rfl⟩
      simp only [Nat.sub_zero, HXN.out]
      have HI : Hid (Bk2 w (w5.drewN nq) L rb ao5 cap5 (wrt L) 0) := ⟨by simpa [wrt] using HRD.out.drewN nq, HRB.out, HB5.out.trans (((Kept.refl [] w5).drewN nq).below HB5.out.size (by simp))⟩
      generalize w5.drewN nq = w6 at HI ⊢
      clear HRD HB5
      go_wp2
      go_loopw [18] (fun y wr => ∃ k : Nat, k ≤ sn ∧ y = .int .i64 k ∧ Hid (Bk2 w wr L rb ao5 cap5 (wrt L) k)) (fun y wr => sn - (intOf y).toNat)
      case atStart => exact ⟨0, Nat.zero_le _, rfl, HI⟩
      case round =>
        clear HI
        obtain ⟨k, hk, rfl, HF0⟩ := hrel
        by_cases hlt : k < sn
        · obtain ⟨sb, soff, hso, hcl⟩ := HSC.out k (by rw [HL.out]; exact hlt)
          have hcl2 := hcl.kept HF0.out.below
          have e0 := hcl2.c0
          have e1 := hcl2.c1
          have e2 := hcl2.c2
          have e3 := hcl2.c3
          have hd2 := HV.out k hlt
          have HIN : Hid (InB w (L.getD k cl0).da (L.getD k cl0).dn (L.getD k cl0).dc (L.getD k cl0).ds) := hcl.inb
          have HOKK := (show Hid _ from HOK.out k hlt)
          have HDR := (show Hid _ from wrt_split L k (by rw [HL.out]; exact hlt))
          have HNX := (show Hid _ from congrArg List.length (wrt_snoc L k (by rw [HL.out]; exact hlt)))
          simp only [encC, List.length_append] at HDR HNX
          generalize (L.getD k cl0).kind = kd at e0 HOKK HDR HNX
          generalize (L.getD k cl0).v = vv at e1 HOKK HDR HNX
          generalize (L.getD k cl0).width = wd at e2 HOKK HDR HNX
          generalize (L.getD k cl0).da = da at e3 HIN
          generalize (L.getD k cl0).dn = dn at e3 HIN
          generalize (L.getD k cl0).dc = dc at e3 HIN
          generalize (L.getD k cl0).ds = ds at HIN hd2 HDR HNX
          rw [Nat.mul_comm] at e0 e1 e2 e3
          subst hso
          clear hcl hcl2
          have HDN : Hid (dn ≤ 200000) := by have := HIN.out.len; show dn ≤ 200000; omega
          have HF : Hid (Bk2 w (wr.alloc (.cells #[.int .i64 kd, .int .i64 vv, .int .i64 wd, .slice da dn dc] 34)) L rb ao5 cap5 (wrt L) k) := HF0.out.kept ((Kept.refl [] wr).alloc _)
          obtain ⟨cb, hcb⟩ : ∃ cb, cb = wr.heap.size := ⟨_, rfl⟩
          have hcr : cb ≠ rb := by have := HF0.out.rd.lt; omega
          have c10 : (wr.alloc (.cells #[.int .i64 kd, .int .i64 vv, .int .i64 wd, .slice da dn dc] 34)).cell? ⟨cb, 0, none⟩ = some (.int .i64 kd) := by rw [hcb]; simp
          have c11 : (wr.alloc (.cells #[.int .i64 kd, .int .i64 vv, .int .i64 wd, .slice da dn dc] 34)).cell? ⟨cb, 1, none⟩ = some (.int .i64 vv) := by rw [hcb]; simp
          have c12 : (wr.alloc (.cells #[.int .i64 kd, .int .i64 vv, .int .i64 wd, .slice da dn dc] 34)).cell? ⟨cb, 2, none⟩ = some (.int .i64 wd) := by rw [hcb]; simp
          have c13 : (wr.alloc (.cells #[.int .i64 kd, .int .i64 vv, .int .i64 wd, .slice da dn dc] 34)).cell? ⟨cb, 3, none⟩ = some (.slice da dn dc) := by rw [hcb]; simp
          clear HF0
          by_cases k1 : kd = 1
          · subst k1
            have h1 : 0 ≤ vv ∧ vv ≤ 2147483647 := by
              have := HOKK.out
              unfold OkK Fit at this
              omega
            have HNUM : Hid (Pure.num ((wrt L).drop (wrt (L.take k)).length) = (vv.toNat, (Pure.enc vv.toNat).length, 0)) := by
              have h2 := HDR.out
              rw [show encK 1 vv wd ds = Pure.enc vv.toNat by simp [encK]] at h2
              show Pure.num _ = _
              rw [h2]
              exact Pure.num_back (by omega) _
            have HJ : Hid ((wrt (L.take k)).length + (Pure.enc vv.toNat).length = (wrt (L.take (k + 1))).length) := by
              have h2 := HNX.out
              rw [show encK 1 vv wd ds = Pure.enc vv.toNat by simp [encK]] at h2
              exact h2.symm
            have hvt : ((vv.toNat : Nat) : Int) = vv := by omega
            go_wp2_with (fail)
            try rw [← hcb]
            generalize wr.alloc _ = w7 at HF c10 c11 c12 c13 ⊢
            clear hcb e0 e1 e2 e3 HDR HNX HOKK
            have HFD : Hid (Bk2 w w7.drew L rb ao5 cap5 (wrt L) k) := HF.out.kept (Kept.refl _ _).drew
            have c11d : w7.drew.cell? ⟨cb, 1, none⟩ = some (.int .i64 vv) := by simpa using c11
            have c13d : w7.drew.cell? ⟨cb, 3, none⟩ = some (.slice da dn dc) := by simpa using c13
            clear c10 HF
            go_region_with (go_at_call 15; refine (rnumber_is HFD.out.rd hvt HNUM.out).mono ?_; rintro e w8 ⟨rfl, hk8, hrd8⟩; have i11 := hk8.cellOf c11d (by simpa using hcr))
            all_goals (
              have HF8 : Hid (Bk2 w w8 L rb ao5 cap5 (wrt L) (k + 1)) := HFD.out.next hk8 hrd8 HJ.out
              clear hk8 hrd8 HFD
              go_wp2
              go_roundw
              case rel => exact ⟨k + 1, by omega, by go_num, HF8⟩
              case measure => simp [intOf]; omega)
          by_cases k2 : kd = 2
          · subst k2
            have h1 : 1 ≤ wd ∧ wd ≤ 4 ∧ 0 ≤ vv ∧ vv < 256 ^ wd.toNat := by
              have := HOKK.out
              unfold OkK Fit at this
              omega
            obtain ⟨wn, rfl⟩ := Int.eq_ofNat_of_zero_le (show 0 ≤ wd by omega)
            rw [Int.toNat_natCast] at h1
            have hw1 : 1 ≤ wn := by omega
            have hw4 : wn ≤ 4 := by omega
            have HDF : Hid ((wrt L).drop (wrt (L.take k)).length = Pure.fix vv.toNat wn ++ wrt (L.drop (k + 1))) := by
              have h2 := HDR.out
              rw [show encK 2 vv (wn : Int) ds = Pure.fix vv.toNat wn by simp [encK]] at h2
              exact h2
            have HLE : Hid (wn ≤ (wrt L).length - (wrt (L.take k)).length) := by
              have h2 := congrArg List.length HDF.out
              simp only [List.length_drop, List.length_append, Pure.fix_len] at h2
              show wn ≤ _
              omega
            have HBE : Hid (((Pure.be (((wrt L).drop (wrt (L.take k)).length).take wn) : Nat) : Int) = vv) := by
              show ((_ : Nat) : Int) = vv
              rw [HDF.out, List.take_left' (Pure.fix_len _ _), Pure.be_fix, Nat.mod_eq_of_lt]
              · omega
              · obtain ⟨u, rfl⟩ := Int.eq_ofNat_of_zero_le h1.2.2.1
                rw [Int.toNat_natCast]
                exact Int.ofNat_lt.1 (by rw [Int.natCast_pow]; exact h1.2.2.2)
            have HJ : Hid ((wrt (L.take k)).length + wn = (wrt (L.take (k + 1))).length) := by
              have h2 := HNX.out
              rw [show encK 2 vv (wn : Int) ds = Pure.fix vv.toNat wn by simp [encK], Pure.fix_len] at h2
              exact h2.symm
            clear h1 HDF
            go_wp2_with (fail)
            try rw [← hcb]
            generalize wr.alloc _ = w7 at HF c10 c11 c12 c13 ⊢
            clear hcb e0 e1 e2 e3 HDR HNX HOKK
            have HFD : Hid (Bk2 w w7.drew L rb ao5 cap5 (wrt L) k) := HF.out.kept (Kept.refl _ _).drew
            have c11d : w7.drew.cell? ⟨cb, 1, none⟩ = some (.int .i64 vv) := by simpa using c11
            have c13d : w7.drew.cell? ⟨cb, 3, none⟩ = some (.slice da dn dc) := by simpa using c13
            have c12d : w7.drew.cell? ⟨cb, 2, none⟩ = some (.int .i64 wn) := by simpa using c12
            clear c10 HF
            go_region_with (go_at_call 16; refine (rfixed_is HFD.out.rd wn hw1 hw4 HLE.out HBE.out).mono ?_; rintro e w8 ⟨rfl, hk8, hrd8⟩; have i11 := hk8.cellOf c11d (by simpa using hcr))
            all_goals (
              have HF8 : Hid (Bk2 w w8 L rb ao5 cap5 (wrt L) (k + 1)) := HFD.out.next hk8 hrd8 HJ.out
              clear hk8 hrd8 HFD
              go_wp2
              go_roundw
              case rel => exact ⟨k + 1, by omega, by go_num, HF8⟩
              case measure => simp [intOf]; omega)
          by_cases k3 : kd = 3
          · subst k3
            have HDF : Hid ((wrt L).drop (wrt (L.take k)).length = ds ++ wrt (L.drop (k + 1))) := by
              have h2 := HDR.out
              rw [show encK 3 vv wd ds = ds by simp [encK]] at h2
              exact h2
            have HLE : Hid (dn ≤ (wrt L).length - (wrt (L.take k)).length) := by
              have h2 := congrArg List.length HDF.out
              simp only [List.length_drop, List.length_append, HIN.out.len] at h2
              show dn ≤ _
              omega
            have HTK : Hid (((wrt L).drop (wrt (L.take k)).length).take dn = ds) := by
              show List.take _ _ = _
              rw [HDF.out, List.take_left' HIN.out.len]
            have HJ : Hid ((wrt (L.take k)).length + dn = (wrt (L.take (k + 1))).length) := by
              have h2 := HNX.out
              rw [show encK 3 vv wd ds = ds by simp [encK], HIN.out.len] at h2
              exact h2.symm
            clear HDF
            go_wp2_with (fail)
            try rw [← hcb]
            generalize wr.alloc _ = w7 at HF c10 c11 c12 c13 ⊢
            clear hcb e0 e1 e2 e3 HDR HNX HOKK
            have HFD : Hid (Bk2 w w7.drew L rb ao5 cap5 (wrt L) k) := HF.out.kept (Kept.refl _ _).drew
            have c11d : w7.drew.cell? ⟨cb, 1, none⟩ = some (.int .i64 vv) := by simpa using c11
            have c13d : w7.drew.cell? ⟨cb, 3, none⟩ = some (.slice da dn dc) := by simpa using c13
            have HSD : Hid (∀ w', Kept [rb] w7.drew w' → Sl w' da ds) := fun w' hk' => (HIN.out.sl.kept (Kept.of_below HFD.out.below) (by simp)).kept hk' (fun hne a ha => by
              have h1 := HIN.out.far hne ha
              have h2 := HFD.out.ge
              simp only [List.mem_singleton]
              omega)
            have HDL : Hid (ds.length = dn) := HIN.out.len
            have hdn := HDN.out
            clear c10 HF HIN
            go_region_with (first | (go_at_call 18; refine (raw_is HFD.out.rd dn HLE.out HTK.out).mono ?_; rintro e w8 ⟨ao8, cap8, rfl, hsl8, hk8, hrd8⟩; have i13 := hk8.cellOf c13d (by simpa using hcr)) | (go_at_call 17; refine (bytes_same _ _ dn _ _ ds _ HDL.out (by omega) hsl8 (HSD.out _ hk8)).mono ?_; rintro e w9 ⟨rfl, n9, rfl⟩))
            all_goals (
              have HF8 : Hid (Bk2 w (w8.drewN n9) L rb ao5 cap5 (wrt L) (k + 1)) := (HFD.out.next hk8 hrd8 HJ.out).kept ((Kept.refl _ _).drewN _)
              clear hk8 hrd8 HFD hsl8 HSD
              go_wp2
              go_roundw
              case rel => exact ⟨k + 1, by omega, by go_num, HF8⟩
              case measure => simp [intOf]; omega)
          by_cases k4 : kd = 4
          · subst k4
            have HDF : Hid ((wrt L).drop (wrt (L.take k)).length = Pure.enc dn ++ (ds ++ wrt (L.drop (k + 1)))) := by
              have h2 := HDR.out
              rw [show encK 4 vv wd ds = Pure.enc ds.length ++ ds by simp [encK], HIN.out.len, List.append_assoc] at h2
              exact h2
            have HNUM : Hid (Pure.num ((wrt L).drop (wrt (L.take k)).length) = (dn, (Pure.enc dn).length, 0)) := by
              show Pure.num _ = _
              rw [HDF.out]
              exact Pure.num_back (by have := HDN.out; omega) _
            have HLE : Hid (dn ≤ (wrt L).length - ((wrt (L.take k)).length + (Pure.enc dn).length)) := by
              have h2 := congrArg List.length HDF.out
              simp only [List.length_drop, List.length_append, HIN.out.len] at h2
              show dn ≤ _
              omega
            have HTK : Hid (((wrt L).drop ((wrt (L.take k)).length + (Pure.enc dn).length)).take dn = ds) := by
              show List.take _ _ = _
              rw [← List.drop_drop, HDF.out, List.drop_left, List.take_left' HIN.out.len]
            have HJ : Hid ((wrt (L.take k)).length + (Pure.enc dn).length + dn = (wrt (L.take (k + 1))).length) := by
              have h2 := HNX.out
              rw [show encK 4 vv wd ds = Pure.enc ds.length ++ ds by simp [encK], List.length_append, HIN.out.len] at h2
              show _ = _
              omega
            have hwrap : IntKind.i64.wrap ((dn : Int) + more) = (dn : Int) + more := by have := HDN.out; rw [IntKind.wrap_i64]; omega
            clear HDF
            go_wp2_with (fail)
            try rw [← hcb]
            generalize wr.alloc _ = w7 at HF c10 c11 c12 c13 ⊢
            clear hcb e0 e1 e2 e3 HDR HNX HOKK
            have HFD : Hid (Bk2 w w7.drew L rb ao5 cap5 (wrt L) k) := HF.out.kept (Kept.refl _ _).drew
            have c11d : w7.drew.cell? ⟨cb, 1, none⟩ = some (.int .i64 vv) := by simpa using c11
            have c13d : w7.drew.cell? ⟨cb, 3, none⟩ = some (.slice da dn dc) := by simpa using c13
            have HSD : Hid (∀ w', Kept [rb] w7.drew w' → Sl w' da ds) := fun w' hk' => (HIN.out.sl.kept (Kept.of_below HFD.out.below) (by simp)).kept hk' (fun hne a ha => by
              have h1 := HIN.out.far hne ha
              have h2 := HFD.out.ge
              simp only [List.mem_singleton]
              omega)
            have HDL : Hid (ds.length = dn) := HIN.out.len
            have hdn := HDN.out
            clear c10 HF HIN
            go_region_with (first | (go_at_call 19; refine (text_is HFD.out.rd _ (by omega) HNUM.out (by omega) HLE.out HTK.out).mono ?_; rintro e w8 ⟨ao8, cap8, rfl, hsl8, hk8, hrd8⟩; have i13 := hk8.cellOf c13d (by simpa using hcr)) | (go_at_call 17; refine (bytes_same _ _ dn _ _ ds _ HDL.out (by omega) hsl8 (HSD.out _ hk8)).mono ?_; rintro e w9 ⟨rfl, n9, rfl⟩))
            all_goals (
              have HF8 : Hid (Bk2 w (w8.drewN n9) L rb ao5 cap5 (wrt L) (k + 1)) := (HFD.out.next hk8 hrd8 HJ.out).kept ((Kept.refl _ _).drewN _)
              clear hk8 hrd8 HFD hsl8 HSD
              go_wp2
              go_roundw
              case rel => exact ⟨k + 1, by omega, by go_num, HF8⟩
              case measure => simp [intOf]; omega)
          have b1 : (kd == 1) = false := by simpa using k1
          have b2 : (kd == 2) = false := by simpa using k2
          have b3 : (kd == 3) = false := by simpa using k3
          have b4 : (kd == 4) = false := by simpa using k4
          have HF8 : Hid (Bk2 w (wr.alloc (.cells #[.int .i64 kd, .int .i64 vv, .int .i64 wd, .slice da dn dc] 34)) L rb ao5 cap5 (wrt L) (k + 1)) := by
            refine ⟨?_, HF.out.ge, HF.out.below⟩
            have h2 := HNX.out
            rw [show encK kd vv wd ds = [] by simp [encK, k1, k2, k3, k4]] at h2
            rw [h2]
            exact HF.out.rd
          clear HF HIN HDR HNX HOKK k1 k2 k3 k4
          go_wp2
          go_roundw
          case rel => exact ⟨k + 1, by omega, by go_num, HF8⟩
          case measure => simp [intOf]; omega
        · have HTK : Hid ((wrt (L.take k)).length = (wrt L).length) := by
            show _ = _
            rw [List.take_of_length_le (by rw [HL.out]; omega)]
          go_wp2_with (fail)
          refine (err_any HF0.out.rd).mono ?_
          rintro e w' ⟨rfl, nq, rfl⟩
          have HF1 : Hid (Bk2 w (wr.drewN nq) L rb ao5 cap5 (wrt L) k) := HF0.out.kept ((Kept.refl _ _).drewN _)
          generalize wr.drewN nq = w7 at HF1 ⊢
          clear HF0
          go_wp2_with (fail)
          refine (left_ok HF1.out.rd).mono ?_
          rintro e w' ⟨rfl, nq2, rfl⟩
          have HF2 : Hid (Bk2 w (w7.drewN nq2) L rb ao5 cap5 (wrt L) k) := HF1.out.kept ((Kept.refl _ _).drewN _)
          generalize w7.drewN nq2 = w8 at HF2 ⊢
          have HB : Hid (Below w.heap.size w w8) := HF2.out.below
          simp only [HTK.out, Nat.sub_self]
          clear HF1 HF2
          go_wp2_with (go_at_call 12; refine (known_any _).mono ?_; rintro e wk ⟨rfl, hkk⟩)
          go_ret
          exact ⟨rfl, HB.out.trans (hkk.below HB.out.size (by simp))⟩

set_option maxHeartbeats 1500000 in
set_option maxRecDepth 100000 in
theorem back_out (so : Option Addr) (sn scap : Nat) (more : Int) (hm : more < 0 ∨ 1073741823 < more) (L : List Cl) (w : World) (hL : L.length = sn) (hsm : sn ≤ 9223372036854775807) (hs : Scr w so L) :
    Calls Try.prog 3 #[.slice so sn scap, .int .i64 more] w fun e w' => e = .returned (.bool true) ∧ Below w.heap.size w w' := by
  have HSC : Hid (Scr w so L) := hs
  have HL : Hid (L.length = sn) := hL
  clear hs hL
  by_cases hm0 : more < 0
  · have dm0 : decide (more < 0) = true := by simp; omega
    clear hm
    go_enter Try.func3, Try.ntmps3
    go_wp2_with (fail)
    refine (long_any so sn scap L _ HL.out hsm HSC.out).mono ?_
    rintro e w' ⟨he, hw⟩
    obtain rfl := hw.symm
    rcases he with rfl | ⟨rfl, hsh⟩
    · go_wp2
      go_ret
      exact ⟨rfl, Below.refl _ _⟩
    · clear hsh
      go_wp2
      go_ret
      exact ⟨rfl, Below.refl _ _⟩
  · have dm0 : decide (more < 0) = false := by simp; omega
    have dm1 : decide (1073741823 < more) = true := by simp; omega
    clear hm
    go_enter Try.func3, Try.ntmps3
    go_wp2_with (fail)
    refine (long_any so sn scap L _ HL.out hsm HSC.out).mono ?_
    rintro e w' ⟨he, hw⟩
    obtain rfl := hw.symm
    rcases he with rfl | ⟨rfl, hsh⟩
    · go_wp2
      go_ret
      exact ⟨rfl, Below.refl _ _⟩
    · clear hsh
      go_wp2
      go_ret
      exact ⟨rfl, Below.refl _ _⟩

theorem back_any (so : Option Addr) (sn scap : Nat) (more : Int) (L : List Cl) (w : World) (hL : L.length = sn) (hsm : sn ≤ 9223372036854775807) (hs : Scr w so L) :
    Calls Try.prog 3 #[.slice so sn scap, .int .i64 more] w fun e w' => e = .returned (.bool true) ∧ Below w.heap.size w w' := by
  by_cases h : more < 0 ∨ 1073741823 < more
  · exact back_out so sn scap more h L w hL hsm hs
  · exact back_main so sn scap more (by omega) (by omega) L w hL hsm hs

end Go.Proofs.Ytjmameknbnflaab
