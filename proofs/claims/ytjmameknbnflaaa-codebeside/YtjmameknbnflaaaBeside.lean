/-
  The walk: freightlaw1.CodeBeside.
-/
import Derived.Test.YtjmameknbnflaaaReads
namespace Go.Proofs.Ytjmameknbnflaaa
open Go.RowKit
set_option linter.unusedVariables false
set_option linter.unusedSimpArgs false

/-- What holds at the head of CodeBeside's loop. -/
structure BesRel (w wr : World) (b x : Nat) (ao a2 : Option Addr) (cap c2 : Nat) (xs : List UInt8) (r y : Nat) (bo b2 : Option Addr) (dap d2 : Nat) (ys : List UInt8) : Prop where
  t1 : ∃ s, Two wr b x ao a2 cap c2 xs s
  t2 : ∃ s, Two wr r y bo b2 dap d2 ys s
  ge : w.heap.size ≤ b ∧ w.heap.size ≤ x ∧ w.heap.size ≤ r ∧ w.heap.size ≤ y
  ne : b ≠ r ∧ b ≠ y ∧ x ≠ r ∧ x ≠ y
  m1 : xs ≠ [] → (∀ a, ao = some a → a.block ≠ r ∧ a.block ≠ y) ∧ ∀ a, a2 = some a → a.block ≠ r ∧ a.block ≠ y
  m2 : ys ≠ [] → (∀ a, bo = some a → a.block ≠ b ∧ a.block ≠ x) ∧ ∀ a, b2 = some a → a.block ≠ b ∧ a.block ≠ x
  below : Below w.heap.size w wr

theorem BesRel.next1 {w wr w' : World} {b x : Nat} {ao a2 : Option Addr} {cap c2 : Nat} {xs : List UInt8} {r y : Nat} {bo b2 : Option Addr} {dap d2 : Nat} {ys : List UInt8} (h : BesRel w wr b x ao a2 cap c2 xs r y bo b2 dap d2 ys) (hk : Kept [b, x] wr w') (ht : ∃ s, Two w' b x ao a2 cap c2 xs s) : BesRel w w' b x ao a2 cap c2 xs r y bo b2 dap d2 ys := by
  obtain ⟨s2, h2⟩ := h.t2
  have hne := h.ne
  have hge := h.ge
  refine ⟨ht, ⟨s2, h2.kept hk ?_ ?_ (fun hn a ha => ?_) (fun hn a ha => ?_)⟩, h.ge, h.ne, h.m1, h.m2, h.below.trans (hk.below h.below.size (fun i hi => ?_))⟩
  · simp; omega
  · simp; omega
  · have := (h.m2 hn).1 a ha; simp; omega
  · have := (h.m2 hn).2 a ha; simp; omega
  · simp at hi; omega
theorem BesRel.next2 {w wr w' : World} {b x : Nat} {ao a2 : Option Addr} {cap c2 : Nat} {xs : List UInt8} {r y : Nat} {bo b2 : Option Addr} {dap d2 : Nat} {ys : List UInt8} (h : BesRel w wr b x ao a2 cap c2 xs r y bo b2 dap d2 ys) (hk : Kept [r, y] wr w') (ht : ∃ s, Two w' r y bo b2 dap d2 ys s) : BesRel w w' b x ao a2 cap c2 xs r y bo b2 dap d2 ys := by
  obtain ⟨s1, h1⟩ := h.t1
  have hne := h.ne
  have hge := h.ge
  refine ⟨⟨s1, h1.kept hk ?_ ?_ (fun hn a ha => ?_) (fun hn a ha => ?_)⟩, ht, h.ge, h.ne, h.m1, h.m2, h.below.trans (hk.below h.below.size (fun i hi => ?_))⟩
  · simp; omega
  · simp; omega
  · have := (h.m1 hn).1 a ha; simp; omega
  · have := (h.m1 hn).2 a ha; simp; omega
  · simp at hi; omega
theorem BesRel.kept {w wr w' : World} {b x : Nat} {ao a2 : Option Addr} {cap c2 : Nat} {xs : List UInt8} {r y : Nat} {bo b2 : Option Addr} {dap d2 : Nat} {ys : List UInt8} (h : BesRel w wr b x ao a2 cap c2 xs r y bo b2 dap d2 ys) (hk : Kept [] wr w') : BesRel w w' b x ao a2 cap c2 xs r y bo b2 dap d2 ys := by
  obtain ⟨s1, h1⟩ := h.t1
  obtain ⟨s2, h2⟩ := h.t2
  exact ⟨⟨s1, h1.kept hk (by simp) (by simp) (by simp) (by simp)⟩, ⟨s2, h2.kept hk (by simp) (by simp) (by simp) (by simp)⟩, h.ge, h.ne, h.m1, h.m2, h.below.trans (hk.below h.below.size (by simp))⟩

theorem InB.block {w : World} {ao : Option Addr} {n cap : Nat} {xs : List UInt8} (h : InB w ao n cap xs) (hne : xs ≠ []) {a : Addr} (ha : ao = some a) : a.block < w.heap.size := by
  obtain ⟨b', off', e', hb', _⟩ := h.sl.open hne
  rw [e'] at ha
  cases ha
  exact hb'

set_option maxHeartbeats 3000000 in
set_option maxRecDepth 100000 in
theorem beside_main (a0 : Option Addr) (n0 c0 : Nat) (a1 : Option Addr) (n1 c1 : Nat) (so : Option Addr) (sn scap : Nat) (xs ys : List UInt8) (L : List Cl) (w : World) (hin0 : InB w a0 n0 c0 xs) (hin1 : InB w a1 n1 c1 ys) (hn0 : n0 ≤ 200000) (hn1 : n1 ≤ 200000) (hL : L.length = sn) (hsm : sn ≤ 9223372036854775807) (hs : Scr w so L) :
    Calls Try.prog 7 #[.slice a0 n0 c0, .slice a1 n1 c1, .slice so sn scap] w fun e w' => e = .returned (.bool true) ∧ Below w.heap.size w w' := by
  have d1 : decide (200000 < (n0 : Int)) = false := by simp; omega
  have d2 : decide (200000 < (n1 : Int)) = false := by simp; omega
  have HIN : Hid (InB w a0 n0 c0 xs) := hin0
  have HJN : Hid (InB w a1 n1 c1 ys) := hin1
  have HSC : Hid (Scr w so L) := hs
  have HL : Hid (L.length = sn) := hL
  have hzv := Try.zeroDesk0
  have hn0c : (n0 : Int) ≤ 200000 := by omega
  have hn1c : (n1 : Int) ≤ 200000 := by omega
  clear hin0 hin1 hs hL
  go_enter Try.func7, Try.ntmps7
  go_wp2_with (fail)
  refine (long_any so sn scap L _ HL.out hsm HSC.out).mono ?_
  rintro e w' ⟨he, hw⟩
  obtain rfl := hw.symm
  rcases he with rfl | ⟨rfl, hsh⟩
  · go_wp2
    go_ret
    exact ⟨rfl, Below.refl _ _⟩
  have hsn : sn ≤ 200 := by have := hsh.1; rw [HL.out] at this; exact this
  clear hsh
  go_wp2_with (fail)
  have HD0 : Hid (Dk (w.alloc (.cells #[.slice none 0 0] 26)) w.heap.size none []) := dk_zero w
  have HB0 : Hid (Below w.heap.size w (w.alloc (.cells #[.slice none 0 0] 26))) := (Below.refl _ _).alloc (Nat.le_refl _) _
  obtain ⟨D, hD⟩ : ∃ D, D = w.heap.size := ⟨_, rfl⟩
  have HGD : Hid (w.heap.size ≤ D) := by show _ ≤ _; omega
  rw [← hD] at HD0 ⊢
  generalize w.alloc _ = w0 at HD0 HB0 ⊢
  clear hD
  refine (lay_any D none a0 n0 c0 xs [] _ HD0.out HIN.out.len (HIN.out.sl.kept (Kept.of_below HB0.out) (by simp)) (fun hne a ha => by
    have h1 := HGD.out
    have h2 := HIN.out.block hne ha
    simp [dkfp]
    omega) hn0).mono ?_
  rintro e w1 ⟨g, m, rfl, hdk1, hm5, hk1, hg1⟩
  have HD1 : Hid (Dk w1 D (some g) (laid xs m)) := hdk1
  have HB1 : Hid (Below w.heap.size w w1) := HB0.out.trans (hk1.below HB0.out.size (by simpa [dkfp] using HGD.out))
  have HGG : Hid (w.heap.size ≤ g) := by
    rcases hg1 with h | h
    · cases h
    · exact Nat.le_trans HB0.out.size h
  clear hdk1 hk1 hg1 HD0 HB0
  go_wp2_with (fail)
  refine (read_any (some ⟨g, 0, none⟩) n0 m xs _ HIN.out.len (by rw [HIN.out.len]; omega) (dk_laidSl HD1.out) (by simp)).mono ?_
  rintro e w2 ⟨rb, ao, cap, rfl, hrb, hao, hda, hrd, hk2⟩
  have HD2 : Hid (Dk w2 D (some g) (laid xs m)) := HD1.out.kept hk2 (by simp) (by simp)
  have HB2 : Hid (Below w.heap.size w w2) := HB1.out.trans (hk2.below HB1.out.size (by simp))
  have HR2 : Hid (Rd w2 rb 0 0 ao cap xs 0) := hrd
  have HAO : Hid (∀ a, ao = some a → w1.heap.size ≤ a.block ∧ a.block < rb) := fun a ha => ⟨hao a ha, hda a ha⟩
  have HDL : Hid (D < w1.heap.size ∧ g < w1.heap.size ∧ w1.heap.size ≤ rb ∧ w.heap.size ≤ rb ∧ rb < w2.heap.size) := ⟨HD1.out.lt, HD1.out.ltg g rfl, hrb, Nat.le_trans HB1.out.size hrb, hrd.lt⟩
  clear hrb hao hda hrd hk2 HD1 HB1
  go_wp2_with (fail)
  refine (lay_any D (some g) a1 n1 c1 ys _ _ HD2.out HJN.out.len (HJN.out.sl.kept (Kept.of_below HB2.out) (by simp)) (fun hne a ha => by
    have h1 := HGD.out
    have h2 := HGG.out
    have h3 := HJN.out.block hne ha
    simp [dkfp]
    omega) hn1).mono ?_
  rintro e w3 ⟨g3, m3, rfl, hdk3, hm35, hk3, hg3⟩
  have HD3 : Hid (Dk w3 D (some g3) (laid ys m3)) := hdk3
  have HB3 : Hid (Below w.heap.size w w3) := HB2.out.trans (hk3.below HB2.out.size (fun i hi => by
    simp only [dkfp, List.mem_cons, Option.mem_toList, Option.some.injEq] at hi
    rcases hi with rfl | rfl
    · exact HGD.out
    · exact HGG.out))
  have HR3 : Hid (Rd w3 rb 0 0 ao cap xs 0) := HR2.out.kept hk3 (by
      have h1 := HDL.out
      simp [dkfp]
      omega) (fun _ a ha => by
      have h1 := HDL.out
      have h2 := HAO.out a ha
      simp [dkfp]
      omega)
  have HG3 : Hid (w.heap.size ≤ g3 ∧ g3 ≠ rb ∧ (∀ a, ao = some a → a.block ≠ g3) ∧ rb < w3.heap.size) := by
    have h1 := HDL.out
    have h2 := hk3.size
    rcases hg3 with h | h
    · cases h
      exact ⟨HGG.out, by omega, fun a ha => by have := HAO.out a ha; omega, by omega⟩
    · have h3 := HB2.out.size
      exact ⟨by omega, by omega, fun a ha => by have := HAO.out a ha; omega, by omega⟩
  clear hdk3 hk3 hg3 HD2 HB2 HR2
  go_wp2_with (fail)
  refine (read_any (some ⟨g3, 0, none⟩) n1 m3 ys _ HJN.out.len (by rw [HJN.out.len]; omega) (dk_laidSl HD3.out) (by simp)).mono ?_
  rintro e w4 ⟨sb4, bo, dap, rfl, hsb, hbo, hdb, hsd, hk4⟩
  have HD4 : Hid (Dk w4 D (some g3) (laid ys m3)) := HD3.out.kept hk4 (by simp) (by simp)
  have HB4 : Hid (Below w.heap.size w w4) := HB3.out.trans (hk4.below HB3.out.size (by simp))
  have HR4 : Hid (Rd w4 rb 0 0 ao cap xs 0) := HR3.out.kept hk4 (by simp) (by simp)
  have HS4 : Hid (Rd w4 sb4 0 0 bo dap ys 0) := hsd
  have HBO : Hid (∀ a, bo = some a → w3.heap.size ≤ a.block ∧ a.block < sb4) := fun a ha => ⟨hbo a ha, hdb a ha⟩
  have HDM : Hid (D < w3.heap.size ∧ g3 < w3.heap.size ∧ w3.heap.size ≤ sb4 ∧ w.heap.size ≤ w3.heap.size) := ⟨HD3.out.lt, HD3.out.ltg g3 rfl, hsb, HB3.out.size⟩
  clear hsb hbo hdb hsd hk4 HD3 HB3 HR3
  go_wp2_with (fail)
  refine (lay_any D (some g3) none 0 0 [] _ _ HD4.out rfl (Sl.nil _ _) (by simp) (by omega)).mono ?_
  rintro e w5 ⟨g5, m5, rfl, hdk5, hm55, hk5, hg5⟩
  have HB5 : Hid (Below w.heap.size w w5) := HB4.out.trans (hk5.below HB4.out.size (fun i hi => by
    simp only [dkfp, List.mem_cons, Option.mem_toList, Option.some.injEq] at hi
    rcases hi with rfl | rfl
    · exact HGD.out
    · exact HG3.out.1))
  have HR5 : Hid (Rd w5 rb 0 0 ao cap xs 0) := HR4.out.kept hk5 (by
      have h1 := HDL.out
      have h2 := HG3.out.2.1
      simp [dkfp]
      omega) (fun _ a ha => by
      have h1 := HDL.out
      have h2 := HAO.out a ha
      have h3 := HG3.out.2.2.1 a ha
      simp [dkfp]
      omega)
  have HS5 : Hid (Rd w5 sb4 0 0 bo dap ys 0) := HS4.out.kept hk5 (by
      have h1 := HDM.out
      simp [dkfp]
      omega) (fun _ a ha => by
      have h1 := HDM.out
      have h2 := HBO.out a ha
      simp [dkfp]
      omega)
  clear hdk5 hk5 hg5 hm55 hm35 hm5 HD4 HB4 HR4 HS4
  have HI : Hid (BesRel w ((w5.alloc (.cells #[.slice a0 n0 c0, .int .i64 0, .int .i64 0, .int .i64 0] 55)).alloc (.cells #[.slice a1 n1 c1, .int .i64 0, .int .i64 0, .int .i64 0] 55)) rb w5.heap.size ao a0 cap c0 xs sb4 (w5.heap.size + 1) bo a1 dap c1 ys) := by
    have l1 := HR5.out.lt
    have l2 := HS5.out.lt
    have l3 := HB5.out.size
    have l4 := HDL.out
    have l5 := HDM.out
    have l6 := HG3.out
    have hB6 : Below w.heap.size w (w5.alloc (.cells #[.slice a0 n0 c0, .int .i64 0, .int .i64 0, .int .i64 0] 55)) := HB5.out.alloc HB5.out.size _
    have hk6 : Kept [] w5 (w5.alloc (.cells #[.slice a0 n0 c0, .int .i64 0, .int .i64 0, .int .i64 0] 55)) := (Kept.refl [] w5).alloc _
    have hy : (w5.alloc (.cells #[.slice a0 n0 c0, .int .i64 0, .int .i64 0, .int .i64 0] 55)).heap.size = w5.heap.size + 1 := by simp
    have hry := rf_new HJN.out hB6
    rw [hy] at hry
    have hrx := rf_new HIN.out HB5.out
    generalize w5.alloc _ = w6 at hB6 hk6 hry hrx ⊢
    have hk7 : Kept [] w6 (w6.alloc (.cells #[.slice a1 n1 c1, .int .i64 0, .int .i64 0, .int .i64 0] 55)) := (Kept.refl [] w6).alloc _
    have hB7 : Below w.heap.size w (w6.alloc (.cells #[.slice a1 n1 c1, .int .i64 0, .int .i64 0, .int .i64 0] 55)) := hB6.alloc hB6.size _
    generalize w6.alloc _ = w7 at hk7 hry hB7 ⊢
    refine ⟨⟨⟨0, 0, 0⟩, ⟨⟨0, fun _ => rfl, (HR5.out.kept hk6 (by simp) (by simp)).kept hk7 (by simp) (by simp)⟩, hrx.kept hk7 (by simp) (by simp), by omega, fun _ a ha => by have := (HAO.out a ha); omega, fun hne a ha => by have := HIN.out.block hne ha; omega⟩⟩,
      ⟨⟨0, 0, 0⟩, ⟨⟨0, fun _ => rfl, (HS5.out.kept hk6 (by simp) (by simp)).kept hk7 (by simp) (by simp)⟩, hry, by omega, fun _ a ha => by have := (HBO.out a ha); omega, fun hne a ha => by have := HJN.out.block hne ha; omega⟩⟩,
      by omega, by omega, fun hne => ⟨fun a ha => by have := (HAO.out a ha); omega, fun a ha => by have := HIN.out.block hne ha; omega⟩, fun hne => ⟨fun a ha => by have := (HBO.out a ha); omega, fun a ha => by have := HJN.out.block hne ha; omega⟩, hB7⟩
  clear HB5 HR5 HS5 HDL HDM HAO HBO HG3 HGG HGD
  go_wp2
  obtain ⟨x, hx⟩ : ∃ x, x = w5.heap.size := ⟨_, rfl⟩
  rw [← hx] at HI ⊢
  obtain ⟨y, hy⟩ : ∃ y, y = x + 1 := ⟨_, rfl⟩
  rw [← hy] at HI
  try rw [← hy]
  generalize (w5.alloc _).alloc _ = w7 at HI ⊢
  clear hx hzv hy
  go_loopw [12] (fun z wr => ∃ k : Nat, k ≤ sn ∧ z = .int .i64 k ∧ Hid (BesRel w wr rb x ao a0 cap c0 xs sb4 y bo a1 dap c1 ys)) (fun z wr => sn - (intOf z).toNat)
  case atStart => exact ⟨0, Nat.zero_le _, rfl, HI⟩
  case round =>
    clear HI
    obtain ⟨k, hk, rfl, HF⟩ := hrel
    by_cases hlt : k < sn
    · obtain ⟨sb, soff, hso, hcl⟩ := HSC.out k (by rw [HL.out]; exact hlt)
      have hcl2 := hcl.kept HF.out.below
      have e0 := hcl2.c0
      have e1 := hcl2.c1
      have e2 := hcl2.c2
      have e3 := hcl2.c3
      generalize (L.getD k cl0).kind = kd at e0
      generalize (L.getD k cl0).v = vv at e1
      generalize (L.getD k cl0).width = wd at e2
      generalize (L.getD k cl0).da = da at e3
      generalize (L.getD k cl0).dn = dn at e3
      generalize (L.getD k cl0).dc = dc at e3
      rw [Nat.mul_comm] at e0 e1 e2 e3
      subst hso
      have HF4 : Hid (BesRel w (wr.alloc (.cells #[.int .i64 kd, .int .i64 vv, .int .i64 wd, .slice da dn dc] 48)) rb x ao a0 cap c0 xs sb4 y bo a1 dap c1 ys) := HF.out.kept ((Kept.refl [] wr).alloc _)
      clear hcl hcl2 HF
      by_cases hpar : k % 2 = 0
      · have p1 : ((k : Int) % 2 == 0) = true := by simp; omega
        have p2 : ((k : Int) % 2 != 0) = false := by simp; omega
        obtain ⟨s, htw⟩ := HF4.out.t1
        have HTW : Hid (Two (wr.alloc (.cells #[.int .i64 kd, .int .i64 vv, .int .i64 wd, .slice da dn dc] 48)) rb x ao a0 cap c0 xs s) := htw
        clear htw hpar
        go_wp2_with (fail)
        refine (lread_any HTW.out kd vv wd da dn dc).mono ?_
        rintro e w8 ⟨rfl, hk8, ht8⟩
        have HF8 : Hid (BesRel w w8 rb x ao a0 cap c0 xs sb4 y bo a1 dap c1 ys) := HF4.out.next1 hk8 ht8
        clear hk8 ht8 HF4 HTW e0 e1 e2 e3
        go_wp2
        go_roundw
        case rel => exact ⟨k + 1, by omega, by go_num, HF8⟩
        case measure => simp [intOf]; omega
      · have p1 : ((k : Int) % 2 == 0) = false := by simp; omega
        have p2 : ((k : Int) % 2 != 0) = true := by simp; omega
        obtain ⟨s, htw⟩ := HF4.out.t2
        have HTW : Hid (Two (wr.alloc (.cells #[.int .i64 kd, .int .i64 vv, .int .i64 wd, .slice da dn dc] 48)) sb4 y bo a1 dap c1 ys s) := htw
        clear htw hpar
        go_wp2_with (fail)
        refine (lread_any HTW.out kd vv wd da dn dc).mono ?_
        rintro e w8 ⟨rfl, hk8, ht8⟩
        have HF8 : Hid (BesRel w w8 rb x ao a0 cap c0 xs sb4 y bo a1 dap c1 ys) := HF4.out.next2 hk8 ht8
        clear hk8 ht8 HF4 HTW e0 e1 e2 e3
        go_wp2
        go_roundw
        case rel => exact ⟨k + 1, by omega, by go_num, HF8⟩
        case measure => simp [intOf]; omega
    · have hB := HF.out.below
      clear HF
      go_wp2_with (go_at_call 14; refine (known_any _).mono ?_; rintro e wk ⟨rfl, hkk⟩)
      go_ret
      exact ⟨rfl, hB.trans (hkk.below hB.size (by simp))⟩

set_option maxHeartbeats 1500000 in
set_option maxRecDepth 100000 in
theorem beside_big (a0 : Option Addr) (n0 c0 : Nat) (a1 : Option Addr) (n1 c1 : Nat) (so : Option Addr) (sn scap : Nat) (L : List Cl) (w : World) (hn : 200000 < n0 ∨ (n0 ≤ 200000 ∧ 200000 < n1)) (hm0 : n0 ≤ 9223372036854775807) (hm1 : n1 ≤ 9223372036854775807) (hL : L.length = sn) (hsm : sn ≤ 9223372036854775807) (hs : Scr w so L) :
    Calls Try.prog 7 #[.slice a0 n0 c0, .slice a1 n1 c1, .slice so sn scap] w fun e w' => e = .returned (.bool true) ∧ Below w.heap.size w w' := by
  have HSC : Hid (Scr w so L) := hs
  have HL : Hid (L.length = sn) := hL
  clear hs hL
  rcases hn with hn | ⟨hn, hn1⟩
  · have d1 : decide (200000 < (n0 : Int)) = true := by simp; omega
    go_enter Try.func7, Try.ntmps7
    go_wp2_with (fail)
    refine (long_any so sn scap L _ HL.out hsm HSC.out).mono ?_
    rintro e w' ⟨he, hw⟩
    obtain rfl := hw.symm
    rcases he with rfl | ⟨rfl, hsh⟩
    · go_wp2
      go_ret
      exact ⟨rfl, Below.refl _ _⟩
    · clear hsh
      go_wp2
      go_ret
      exact ⟨rfl, Below.refl _ _⟩
  · have d1 : decide (200000 < (n0 : Int)) = false := by simp; omega
    have d2 : decide (200000 < (n1 : Int)) = true := by simp; omega
    go_enter Try.func7, Try.ntmps7
    go_wp2_with (fail)
    refine (long_any so sn scap L _ HL.out hsm HSC.out).mono ?_
    rintro e w' ⟨he, hw⟩
    obtain rfl := hw.symm
    rcases he with rfl | ⟨rfl, hsh⟩
    · go_wp2
      go_ret
      exact ⟨rfl, Below.refl _ _⟩
    · clear hsh
      go_wp2
      go_ret
      exact ⟨rfl, Below.refl _ _⟩

/-- CodeBeside: whatever the input: true; nothing that was there turns. -/
theorem beside_any (a0 : Option Addr) (n0 c0 : Nat) (a1 : Option Addr) (n1 c1 : Nat) (so : Option Addr) (sn scap : Nat) (xs ys : List UInt8) (L : List Cl) (w : World) (hin0 : InB w a0 n0 c0 xs) (hin1 : InB w a1 n1 c1 ys) (hL : L.length = sn) (hsm : sn ≤ 9223372036854775807) (hs : Scr w so L) :
    Calls Try.prog 7 #[.slice a0 n0 c0, .slice a1 n1 c1, .slice so sn scap] w fun e w' => e = .returned (.bool true) ∧ Below w.heap.size w w' := by
  have m0 := hin0.max
  have m1 := hin1.max
  have l0 := hin0.le
  have l1 := hin1.le
  by_cases h0 : n0 ≤ 200000
  · by_cases h1 : n1 ≤ 200000
    · exact beside_main a0 n0 c0 a1 n1 c1 so sn scap xs ys L w hin0 hin1 h0 h1 hL hsm hs
    · exact beside_big a0 n0 c0 a1 n1 c1 so sn scap L w (.inr ⟨h0, by omega⟩) (by omega) (by omega) hL hsm hs
  · exact beside_big a0 n0 c0 a1 n1 c1 so sn scap L w (.inl (by omega)) (by omega) (by omega) hL hsm hs

end Go.Proofs.Ytjmameknbnflaaa
