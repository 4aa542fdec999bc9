/-
  Contract: the statements' own write. (Written by tools/genlw.py.)
-/
import Derived.Test.YtjmameknbnflaabWs
import Derived.Test.YtjmameknbnflaabRg
namespace Go.Proofs.Ytjmameknbnflaab
open Go.RowKit
set_option linter.unusedVariables false
set_option linter.unusedSimpArgs false

/-- A writer and a desk beside one another. -/
structure WD (w : World) (p : Option Addr) (fp : List Nat) (o : Option (List UInt8)) (D : Nat) (bo : Option Nat) (R : List UInt8) : Prop where
  wr : WrS w p fp o
  dk : Dk w D bo R
  d1 : D ∉ fp
  d2 : ∀ g, bo = some g → g ∉ fp
  nofp : p = none → fp = []

theorem WD.kept {l : List Nat} {w w' : World} {p : Option Addr} {fp : List Nat} {o : Option (List UInt8)} {D : Nat} {bo : Option Nat} {R : List UInt8} (h : WD w p fp o D bo R) (hk : Kept l w w') (h1 : ∀ g, g ∈ fp → g ∉ l) (h2 : D ∉ l) (h3 : ∀ g, bo = some g → g ∉ l) : WD w' p fp o D bo R :=
  ⟨h.wr.kept hk h1, h.dk.kept hk h2 h3, h.d1, h.d2, h.nofp⟩
theorem WD.lts {w : World} {p : Option Addr} {fp : List Nat} {o : Option (List UInt8)} {D : Nat} {bo : Option Nat} {R : List UInt8} (h : WD w p fp o D bo R) : ∀ g, g ∈ fp → g < w.heap.size := by
  by_cases hp : p = none
  · rw [h.nofp hp]; simp
  · exact h.wr.lts hp
theorem wend_nofp {w w' : World} {p : Option Addr} {fp : List Nat} {o : Option (List UInt8)} (h : WEnd w w' p fp o) (hp : p = none → fp = []) : ∃ fp', WrS w' p fp' o ∧ Kept fp w w' ∧ (∀ g, g ∈ fp' → g ∈ fp ∨ w.heap.size ≤ g) ∧ (p = none → fp' = []) := by
  obtain ⟨fp', h1, h2, h3⟩ := h
  by_cases hp0 : p = none
  · rcases h1 with ⟨b, bs, ys, rfl, rfl, rfl, hw⟩ | ⟨rfl, hs, hq⟩
    · cases hp0
    · exact ⟨[], .inr ⟨rfl, hs, by subst hp0; simp⟩, h2, by simp, fun _ => rfl⟩
  · exact ⟨fp', h1, h2, h3, fun h => absurd h hp0⟩

/-- What write leaves. -/
def LwEnd (w w' : World) (p : Option Addr) (fp : List Nat) (o : Option (List UInt8)) (D : Nat) (bo : Option Nat) : Prop :=
  ∃ fp' bo' R', WD w' p fp' o D bo' R' ∧ Kept (fp ++ dkfp D bo) w w' ∧ (∀ g, g ∈ fp' → g ∈ fp ∨ w.heap.size ≤ g) ∧ ∀ g, bo' = some g → bo = some g ∨ w.heap.size ≤ g

theorem mem_dkfp {D : Nat} {bo : Option Nat} {g : Nat} : g ∈ dkfp D bo ↔ g = D ∨ bo = some g := by simp [dkfp, eq_comm]

/-- The last lay of write. -/
theorem lwend_lay {w wa w1 w2 : World} {p : Option Addr} {fp fp1 : List Nat} {o o1 : Option (List UInt8)} {D : Nat} {bo b1 : Option Nat} {R : List UInt8} {g m : Nat} {ys : List UInt8} (h : WD w p fp o D bo R) (hk1 : Kept (fp ++ dkfp D bo) w w1) (hs1 : ∀ g, g ∈ fp1 → g ∈ fp ∨ w.heap.size ≤ g) (hb1 : ∀ g, b1 = some g → bo = some g ∨ w.heap.size ≤ g) (hd1 : D ∉ fp1) (hg1 : ∀ g, b1 = some g → g ∉ fp1) (hwr : WrS w1 p fp1 o1) (hlt : ∀ g, g ∈ fp1 → g < w1.heap.size) (hnf : p = none → fp1 = [])
    (hdk : Dk w2 D (some g) (laid ys m)) (hk2 : Kept (dkfp D b1) w1 w2) (hg : b1 = some g ∨ w1.heap.size ≤ g) : LwEnd w w2 p fp o1 D bo := by
  have hs := hk1.size
  refine ⟨fp1, some g, laid ys m, ⟨hwr.kept hk2 (fun i hi hm => ?_), hdk, hd1, fun g' e => ?_, hnf⟩, hk1.trans hk2 (fun i hi hlt' => ?_), hs1, fun g' e => ?_⟩
  · rcases mem_dkfp.1 hm with rfl | h'
    · exact hd1 hi
    · exact hg1 _ h' hi
  · cases e
    rcases hg with h' | h'
    · exact hg1 _ h'
    · intro hm
      have := hlt _ hm
      omega
  · rcases mem_dkfp.1 hi with rfl | h'
    · simp [mem_dkfp]
    · rcases hb1 _ h' with h'' | h''
      · simp [mem_dkfp, h'']
      · omega
  · cases e
    rcases hg with h' | h'
    · exact hb1 _ h'
    · exact .inr (by omega)

set_option maxHeartbeats 1500000 in
set_option maxRecDepth 100000 in
theorem lwrite_number {w : World} {p : Option Addr} {fp : List Nat} {o : Option (List UInt8)} {D : Nat} {bo : Option Nat} {R : List UInt8} (h : WD w p fp o D bo R) (hl : ∀ ys, o = some ys → ys.length ≤ 90000000000) (vv wd : Int) (da : Option Addr) (dn dc : Nat) (ds : List UInt8) (hdl : ds.length = dn) (hdn : dn ≤ 200000) (hs : Sl w da ds) (hfar : ds ≠ [] → ∀ a, da = some a → a.block ∉ fp ++ dkfp D bo) :
    Calls Try.prog 9 #[.pointer p, .agg #[.int .i64 1, .int .i64 vv, .int .i64 wd, .slice da dn dc], .pointer (some ⟨D, 0, none⟩)] w fun e w' => e = .returned (.bool true) ∧ LwEnd w w' p fp (stWNumber o vv) D bo := by
  have HW : Hid (WD w p fp o D bo R) := h
  have HKA : Hid (Kept [] w (w.alloc (.cells #[.int .i64 1, .int .i64 vv, .int .i64 wd, .slice da dn dc] 34))) := (Kept.refl [] w).alloc _
  have HA : Hid (WD (w.alloc (.cells #[.int .i64 1, .int .i64 vv, .int .i64 wd, .slice da dn dc] 34)) p fp o D bo R) := h.kept HKA.out (by simp) (by simp) (by simp)
  have HLE : Hid (∀ ys, o = some ys → ys.length ≤ 100000000000) := fun ys hy => by have := hl ys hy; omega
  have HDL : Hid (ds.length = dn) := hdl
  have HS : Hid (Sl w da ds) := hs
  have HFAR : Hid (ds ≠ [] → ∀ a, da = some a → a.block ∉ fp ++ dkfp D bo) := hfar
  obtain ⟨cb, hcb⟩ : ∃ cb, cb = w.heap.size := ⟨_, rfl⟩
  have HCB : Hid (w.heap.size ≤ cb) := by show _ ≤ _; omega
  have HCF : Hid (cb ∉ fp ++ dkfp D bo) := by
    intro hm
    simp only [List.mem_append, mem_dkfp] at hm
    rcases hm with hm | rfl | hm
    · have := h.lts _ hm; omega
    · have := h.dk.lt; omega
    · have := h.dk.ltg _ hm; omega
  have c10 : (w.alloc (.cells #[.int .i64 1, .int .i64 vv, .int .i64 wd, .slice da dn dc] 34)).cell? ⟨cb, 0, none⟩ = some (.int .i64 1) := by rw [hcb]; simp
  have c11 : (w.alloc (.cells #[.int .i64 1, .int .i64 vv, .int .i64 wd, .slice da dn dc] 34)).cell? ⟨cb, 1, none⟩ = some (.int .i64 vv) := by rw [hcb]; simp
  have c12 : (w.alloc (.cells #[.int .i64 1, .int .i64 vv, .int .i64 wd, .slice da dn dc] 34)).cell? ⟨cb, 2, none⟩ = some (.int .i64 wd) := by rw [hcb]; simp
  have c13 : (w.alloc (.cells #[.int .i64 1, .int .i64 vv, .int .i64 wd, .slice da dn dc] 34)).cell? ⟨cb, 3, none⟩ = some (.slice da dn dc) := by rw [hcb]; simp
  clear h hl hdl hs hfar
  go_enter Try.func9, Try.ntmps9
  go_wp2_with (fail)
  try rw [← hcb]
  generalize w.alloc _ = wa at HKA HA c10 c11 c12 c13 ⊢
  clear hcb
  refine (wnumber_st HA.out.wr HLE.out vv).mono ?_
  rintro e w1 ⟨rfl, hend⟩
  obtain ⟨fp1, hwr1, hk1, hs1, hnf1⟩ := wend_nofp hend HA.out.nofp
  clear hend
  have HWR : Hid (WrS w1 p fp1 (stWNumber o vv)) := hwr1
  have HK1 : Hid (Kept (fp ++ dkfp D bo) w w1) := (HKA.out.mono (l2 := fp ++ dkfp D bo) (by simp)).trans hk1 (fun i hi _ => by simp [hi])
  have HD1 : Hid (Dk w1 D bo R) := HA.out.dk.kept hk1 HA.out.d1 HA.out.d2
  have HS1 : Hid (∀ g, g ∈ fp1 → g ∈ fp ∨ w.heap.size ≤ g) := fun g hg => by
    rcases hs1 g hg with h | h
    · exact .inl h
    · exact .inr (Nat.le_trans HKA.out.size h)
  have HNF : Hid (p = none → fp1 = []) := hnf1
  have HD2 : Hid (D ∉ fp1 ∧ ∀ g, bo = some g → g ∉ fp1) := by
    refine ⟨fun hm => ?_, fun g hg hm => ?_⟩
    · rcases hs1 _ hm with h | h
      · exact HA.out.d1 h
      · have := HA.out.dk.lt; omega
    · rcases hs1 _ hm with h | h
      · exact HA.out.d2 g hg h
      · have := HA.out.dk.ltg g hg; omega
  have c20 : w1.cell? ⟨cb, 0, none⟩ = some (.int .i64 1) := hk1.cellOf c10 (fun hm => HCF.out (by simp [hm]))
  have HLT : Hid (∀ g, g ∈ fp1 → g < w1.heap.size) := fun g hg => by
    by_cases hp : p = none
    · rw [hnf1 hp] at hg; simp at hg
    · exact hwr1.lts hp g hg
  clear hwr1 hk1 hs1 hnf1 HA c10 c11 c12 c13
  go_wp2_with (fail)
  refine (lay_any D bo none 0 0 [] R _ HD1.out rfl (Sl.nil _ _) (by simp) (by omega)).mono ?_
  rintro e w2 ⟨g2, m2, rfl, hdk2, hm2, hk2, hg2⟩
  have HE : Hid (LwEnd w w2 p fp (stWNumber o vv) D bo) := lwend_lay (wa := wa) HW.out HK1.out HS1.out (fun g hg => .inl hg) HD2.out.1 HD2.out.2 HWR.out HLT.out HNF.out hdk2 hk2 hg2
  clear hdk2 hk2 hg2 hm2
  go_wp2
  go_ret
  exact ⟨rfl, HE.out⟩

set_option maxHeartbeats 1500000 in
set_option maxRecDepth 100000 in
theorem lwrite_fixed {w : World} {p : Option Addr} {fp : List Nat} {o : Option (List UInt8)} {D : Nat} {bo : Option Nat} {R : List UInt8} (h : WD w p fp o D bo R) (hl : ∀ ys, o = some ys → ys.length ≤ 90000000000) (vv wd : Int) (da : Option Addr) (dn dc : Nat) (ds : List UInt8) (hdl : ds.length = dn) (hdn : dn ≤ 200000) (hs : Sl w da ds) (hfar : ds ≠ [] → ∀ a, da = some a → a.block ∉ fp ++ dkfp D bo) :
    Calls Try.prog 9 #[.pointer p, .agg #[.int .i64 2, .int .i64 vv, .int .i64 wd, .slice da dn dc], .pointer (some ⟨D, 0, none⟩)] w fun e w' => e = .returned (.bool true) ∧ LwEnd w w' p fp (stWFixed o vv wd) D bo := by
  have HW : Hid (WD w p fp o D bo R) := h
  have HKA : Hid (Kept [] w (w.alloc (.cells #[.int .i64 2, .int .i64 vv, .int .i64 wd, .slice da dn dc] 34))) := (Kept.refl [] w).alloc _
  have HA : Hid (WD (w.alloc (.cells #[.int .i64 2, .int .i64 vv, .int .i64 wd, .slice da dn dc] 34)) p fp o D bo R) := h.kept HKA.out (by simp) (by simp) (by simp)
  have HLE : Hid (∀ ys, o = some ys → ys.length ≤ 100000000000) := fun ys hy => by have := hl ys hy; omega
  have HDL : Hid (ds.length = dn) := hdl
  have HS : Hid (Sl w da ds) := hs
  have HFAR : Hid (ds ≠ [] → ∀ a, da = some a → a.block ∉ fp ++ dkfp D bo) := hfar
  obtain ⟨cb, hcb⟩ : ∃ cb, cb = w.heap.size := ⟨_, rfl⟩
  have HCB : Hid (w.heap.size ≤ cb) := by show _ ≤ _; omega
  have HCF : Hid (cb ∉ fp ++ dkfp D bo) := by
    intro hm
    simp only [List.mem_append, mem_dkfp] at hm
    rcases hm with hm | rfl | hm
    · have := h.lts _ hm; omega
    · have := h.dk.lt; omega
    · have := h.dk.ltg _ hm; omega
  have c10 : (w.alloc (.cells #[.int .i64 2, .int .i64 vv, .int .i64 wd, .slice da dn dc] 34)).cell? ⟨cb, 0, none⟩ = some (.int .i64 2) := by rw [hcb]; simp
  have c11 : (w.alloc (.cells #[.int .i64 2, .int .i64 vv, .int .i64 wd, .slice da dn dc] 34)).cell? ⟨cb, 1, none⟩ = some (.int .i64 vv) := by rw [hcb]; simp
  have c12 : (w.alloc (.cells #[.int .i64 2, .int .i64 vv, .int .i64 wd, .slice da dn dc] 34)).cell? ⟨cb, 2, none⟩ = some (.int .i64 wd) := by rw [hcb]; simp
  have c13 : (w.alloc (.cells #[.int .i64 2, .int .i64 vv, .int .i64 wd, .slice da dn dc] 34)).cell? ⟨cb, 3, none⟩ = some (.slice da dn dc) := by rw [hcb]; simp
  clear h hl hdl hs hfar
  go_enter Try.func9, Try.ntmps9
  go_wp2_with (fail)
  try rw [← hcb]
  generalize w.alloc _ = wa at HKA HA c10 c11 c12 c13 ⊢
  clear hcb
  refine (wfixed_st HA.out.wr HLE.out vv wd).mono ?_
  rintro e w1 ⟨rfl, hend⟩
  obtain ⟨fp1, hwr1, hk1, hs1, hnf1⟩ := wend_nofp hend HA.out.nofp
  clear hend
  have HWR : Hid (WrS w1 p fp1 (stWFixed o vv wd)) := hwr1
  have HK1 : Hid (Kept (fp ++ dkfp D bo) w w1) := (HKA.out.mono (l2 := fp ++ dkfp D bo) (by simp)).trans hk1 (fun i hi _ => by simp [hi])
  have HD1 : Hid (Dk w1 D bo R) := HA.out.dk.kept hk1 HA.out.d1 HA.out.d2
  have HS1 : Hid (∀ g, g ∈ fp1 → g ∈ fp ∨ w.heap.size ≤ g) := fun g hg => by
    rcases hs1 g hg with h | h
    · exact .inl h
    · exact .inr (Nat.le_trans HKA.out.size h)
  have HNF : Hid (p = none → fp1 = []) := hnf1
  have HD2 : Hid (D ∉ fp1 ∧ ∀ g, bo = some g → g ∉ fp1) := by
    refine ⟨fun hm => ?_, fun g hg hm => ?_⟩
    · rcases hs1 _ hm with h | h
      · exact HA.out.d1 h
      · have := HA.out.dk.lt; omega
    · rcases hs1 _ hm with h | h
      · exact HA.out.d2 g hg h
      · have := HA.out.dk.ltg g hg; omega
  have c20 : w1.cell? ⟨cb, 0, none⟩ = some (.int .i64 2) := hk1.cellOf c10 (fun hm => HCF.out (by simp [hm]))
  have HLT : Hid (∀ g, g ∈ fp1 → g < w1.heap.size) := fun g hg => by
    by_cases hp : p = none
    · rw [hnf1 hp] at hg; simp at hg
    · exact hwr1.lts hp g hg
  clear hwr1 hk1 hs1 hnf1 HA c10 c11 c12 c13
  go_wp2_with (fail)
  refine (lay_any D bo none 0 0 [] R _ HD1.out rfl (Sl.nil _ _) (by simp) (by omega)).mono ?_
  rintro e w2 ⟨g2, m2, rfl, hdk2, hm2, hk2, hg2⟩
  have HE : Hid (LwEnd w w2 p fp (stWFixed o vv wd) D bo) := lwend_lay (wa := wa) HW.out HK1.out HS1.out (fun g hg => .inl hg) HD2.out.1 HD2.out.2 HWR.out HLT.out HNF.out hdk2 hk2 hg2
  clear hdk2 hk2 hg2 hm2
  go_wp2
  go_ret
  exact ⟨rfl, HE.out⟩

set_option maxHeartbeats 1500000 in
set_option maxRecDepth 100000 in
theorem lwrite_raw {w : World} {p : Option Addr} {fp : List Nat} {o : Option (List UInt8)} {D : Nat} {bo : Option Nat} {R : List UInt8} (h : WD w p fp o D bo R) (hl : ∀ ys, o = some ys → ys.length ≤ 90000000000) (vv wd : Int) (da : Option Addr) (dn dc : Nat) (ds : List UInt8) (hdl : ds.length = dn) (hdn : dn ≤ 200000) (hs : Sl w da ds) (hfar : ds ≠ [] → ∀ a, da = some a → a.block ∉ fp ++ dkfp D bo) :
    Calls Try.prog 9 #[.pointer p, .agg #[.int .i64 3, .int .i64 vv, .int .i64 wd, .slice da dn dc], .pointer (some ⟨D, 0, none⟩)] w fun e w' => e = .returned (.bool true) ∧ LwEnd w w' p fp (stWRaw o ds) D bo := by
  have HW : Hid (WD w p fp o D bo R) := h
  have HKA : Hid (Kept [] w (w.alloc (.cells #[.int .i64 3, .int .i64 vv, .int .i64 wd, .slice da dn dc] 34))) := (Kept.refl [] w).alloc _
  have HA : Hid (WD (w.alloc (.cells #[.int .i64 3, .int .i64 vv, .int .i64 wd, .slice da dn dc] 34)) p fp o D bo R) := h.kept HKA.out (by simp) (by simp) (by simp)
  have HLE : Hid (∀ ys, o = some ys → ys.length ≤ 100000000000) := fun ys hy => by have := hl ys hy; omega
  have HDL : Hid (ds.length = dn) := hdl
  have HS : Hid (Sl w da ds) := hs
  have HFAR : Hid (ds ≠ [] → ∀ a, da = some a → a.block ∉ fp ++ dkfp D bo) := hfar
  obtain ⟨cb, hcb⟩ : ∃ cb, cb = w.heap.size := ⟨_, rfl⟩
  have HCB : Hid (w.heap.size ≤ cb) := by show _ ≤ _; omega
  have HCF : Hid (cb ∉ fp ++ dkfp D bo) := by
    intro hm
    simp only [List.mem_append, mem_dkfp] at hm
    rcases hm with hm | rfl | hm
    · have := h.lts _ hm; omega
    · have := h.dk.lt; omega
    · have := h.dk.ltg _ hm; omega
  have c10 : (w.alloc (.cells #[.int .i64 3, .int .i64 vv, .int .i64 wd, .slice da dn dc] 34)).cell? ⟨cb, 0, none⟩ = some (.int .i64 3) := by rw [hcb]; simp
  have c11 : (w.alloc (.cells #[.int .i64 3, .int .i64 vv, .int .i64 wd, .slice da dn dc] 34)).cell? ⟨cb, 1, none⟩ = some (.int .i64 vv) := by rw [hcb]; simp
  have c12 : (w.alloc (.cells #[.int .i64 3, .int .i64 vv, .int .i64 wd, .slice da dn dc] 34)).cell? ⟨cb, 2, none⟩ = some (.int .i64 wd) := by rw [hcb]; simp
  have c13 : (w.alloc (.cells #[.int .i64 3, .int .i64 vv, .int .i64 wd, .slice da dn dc] 34)).cell? ⟨cb, 3, none⟩ = some (.slice da dn dc) := by rw [hcb]; simp
  clear h hl hdl hs hfar
  go_enter Try.func9, Try.ntmps9
  go_wp2_with (fail)
  try rw [← hcb]
  generalize w.alloc _ = wa at HKA HA c10 c11 c12 c13 ⊢
  clear hcb
  have HSA : Hid (Sl wa da ds) := HS.out.kept HKA.out (by simp)
  refine (lay_any D bo da dn dc ds R _ HA.out.dk HDL.out HSA.out (fun hne a ha hm => HFAR.out hne a ha (by simp [hm])) hdn).mono ?_
  rintro e w1 ⟨g1, m1, rfl, hdk1, hm1, hk1, hg1⟩
  have HD1 : Hid (Dk w1 D (some g1) (laid ds m1)) := hdk1
  have HDF : Hid (∀ g, g ∈ fp → g ∉ dkfp D bo) := fun g hg hm => by
    rcases mem_dkfp.1 hm with rfl | h
    · exact HA.out.d1 hg
    · exact HA.out.d2 _ h hg
  have HWR1 : Hid (WrS w1 p fp o) := HA.out.wr.kept hk1 HDF.out
  have HG1 : Hid (g1 ∉ fp) := by
    intro hm
    rcases hg1 with h | h
    · exact HA.out.d2 _ h hm
    · have := HA.out.lts _ hm; omega
  have HB1 : Hid (bo = some g1 ∨ w.heap.size ≤ g1) := by
    rcases hg1 with h | h
    · exact .inl h
    · exact .inr (Nat.le_trans HKA.out.size h)
  have HK1 : Hid (Kept (fp ++ dkfp D bo) w w1) := (HKA.out.mono (l2 := fp ++ dkfp D bo) (by simp)).trans hk1 (fun i hi _ => by simp [hi])
  have c20 : w1.cell? ⟨cb, 0, none⟩ = some (.int .i64 3) := hk1.cellOf c10 (fun hm => HCF.out (by simp [hm]))
  have c23 : w1.cell? ⟨cb, 3, none⟩ = some (.slice da dn dc) := hk1.cellOf c13 (fun hm => HCF.out (by simp [hm]))
  have HS1 : Hid (Sl w1 da ds) := HSA.out.kept hk1 (fun hne a ha hm => HFAR.out hne a ha (by simp [hm]))
  clear hdk1 hk1 hg1 HSA c10 c11 c12 c13
  go_wp2_with (fail)
  refine (wraw_st HWR1.out HLE.out (some ⟨g1, 0, none⟩) dn m1 ds HDL.out (dk_laidSl HD1.out) (fun a ha => by cases ha; exact HG1.out) (by omega) (by omega)).mono ?_
  rintro e w2 ⟨rfl, hend⟩
  obtain ⟨fp2, hwr2, hk2, hs2, hnf2⟩ := wend_nofp hend HA.out.nofp
  clear hend
  have HWR : Hid (WrS w2 p fp2 (stWRaw o ds)) := hwr2
  have HK2 : Hid (Kept (fp ++ dkfp D bo) w w2) := HK1.out.trans hk2 (fun i hi _ => by simp [hi])
  have HD2 : Hid (Dk w2 D (some g1) (laid ds m1)) := HD1.out.kept hk2 HA.out.d1 (fun g e => by cases e; exact HG1.out)
  have HS2 : Hid (Sl w2 da ds) := HS1.out.kept hk2 (fun hne a ha hm => HFAR.out hne a ha (by simp [hm]))
  have HSU : Hid (∀ g, g ∈ fp2 → g ∈ fp ∨ w.heap.size ≤ g) := fun g hg => by
    rcases hs2 g hg with h | h
    · exact .inl h
    · exact .inr (Nat.le_trans HK1.out.size h)
  have HNF : Hid (p = none → fp2 = []) := hnf2
  have HDD : Hid (D ∉ fp2 ∧ ∀ g, some g1 = some g → g ∉ fp2) := by
    refine ⟨fun hm => ?_, fun g hg hm => ?_⟩
    · rcases hs2 _ hm with h | h
      · exact HA.out.d1 h
      · have := HD1.out.lt; omega
    · cases hg
      rcases hs2 _ hm with h | h
      · exact HG1.out h
      · have := HD1.out.ltg g1 rfl; omega
  have c30 : w2.cell? ⟨cb, 0, none⟩ = some (.int .i64 3) := hk2.cellOf c20 (fun hm => HCF.out (by simp [hm]))
  have c33 : w2.cell? ⟨cb, 3, none⟩ = some (.slice da dn dc) := hk2.cellOf c23 (fun hm => HCF.out (by simp [hm]))
  have HLT : Hid (∀ g, g ∈ fp2 → g < w2.heap.size) := fun g hg => by
    by_cases hp : p = none
    · rw [hnf2 hp] at hg; simp at hg
    · exact hwr2.lts hp g hg
  clear hwr2 hk2 hs2 hnf2 HA HD1 HWR1 HG1 HK1 HS1 c20 c23
  go_wp2_with (fail)
  refine (lies_ok D g1 da dn dc m1 ds _ HD2.out HDL.out HS2.out hm1).mono ?_
  rintro e w' ⟨rfl, n3, rfl⟩
  have HK3 : Hid (Kept (fp ++ dkfp D bo) w (w2.drewN n3)) := HK2.out.drewN n3
  have HD3 : Hid (Dk (w2.drewN n3) D (some g1) (laid ds m1)) := HD2.out.kept ((Kept.refl [] w2).drewN n3) (by simp) (by simp)
  have HWR3 : Hid (WrS (w2.drewN n3) p fp2 (stWRaw o ds)) := HWR.out.kept ((Kept.refl [] w2).drewN n3) (by simp)
  have HLT3 : Hid (∀ g, g ∈ fp2 → g < (w2.drewN n3).heap.size) := HLT.out
  clear HK2 HD2 HWR HLT HS2 c30 c33
  generalize w2.drewN n3 = w3 at HK3 HD3 HWR3 HLT3 ⊢
  go_wp2_with (fail)
  refine (lay_any D (some g1) none 0 0 [] _ _ HD3.out rfl (Sl.nil _ _) (by simp) (by omega)).mono ?_
  rintro e w4 ⟨g4, m4, rfl, hdk4, hm4, hk4, hg4⟩
  have HE : Hid (LwEnd w w4 p fp (stWRaw o ds) D bo) := lwend_lay (wa := wa) HW.out HK3.out HSU.out (fun g hg => by cases hg; exact HB1.out) HDD.out.1 HDD.out.2 HWR3.out HLT3.out HNF.out hdk4 hk4 hg4
  clear hdk4 hk4 hg4 hm4
  go_wp2
  go_ret
  exact ⟨rfl, HE.out⟩

set_option maxHeartbeats 1500000 in
set_option maxRecDepth 100000 in
theorem lwrite_text {w : World} {p : Option Addr} {fp : List Nat} {o : Option (List UInt8)} {D : Nat} {bo : Option Nat} {R : List UInt8} (h : WD w p fp o D bo R) (hl : ∀ ys, o = some ys → ys.length ≤ 90000000000) (vv wd : Int) (da : Option Addr) (dn dc : Nat) (ds : List UInt8) (hdl : ds.length = dn) (hdn : dn ≤ 200000) (hs : Sl w da ds) (hfar : ds ≠ [] → ∀ a, da = some a → a.block ∉ fp ++ dkfp D bo) :
    Calls Try.prog 9 #[.pointer p, .agg #[.int .i64 4, .int .i64 vv, .int .i64 wd, .slice da dn dc], .pointer (some ⟨D, 0, none⟩)] w fun e w' => e = .returned (.bool true) ∧ LwEnd w w' p fp (stWText o ds) D bo := by
  have HW : Hid (WD w p fp o D bo R) := h
  have HKA : Hid (Kept [] w (w.alloc (.cells #[.int .i64 4, .int .i64 vv, .int .i64 wd, .slice da dn dc] 34))) := (Kept.refl [] w).alloc _
  have HA : Hid (WD (w.alloc (.cells #[.int .i64 4, .int .i64 vv, .int .i64 wd, .slice da dn dc] 34)) p fp o D bo R) := h.kept HKA.out (by simp) (by simp) (by simp)
  have HLE : Hid (∀ ys, o = some ys → ys.length ≤ 100000000000) := fun ys hy => by have := hl ys hy; omega
  have HDL : Hid (ds.length = dn) := hdl
  have HS : Hid (Sl w da ds) := hs
  have HFAR : Hid (ds ≠ [] → ∀ a, da = some a → a.block ∉ fp ++ dkfp D bo) := hfar
  obtain ⟨cb, hcb⟩ : ∃ cb, cb = w.heap.size := ⟨_, rfl⟩
  have HCB : Hid (w.heap.size ≤ cb) := by show _ ≤ _; omega
  have HCF : Hid (cb ∉ fp ++ dkfp D bo) := by
    intro hm
    simp only [List.mem_append, mem_dkfp] at hm
    rcases hm with hm | rfl | hm
    · have := h.lts _ hm; omega
    · have := h.dk.lt; omega
    · have := h.dk.ltg _ hm; omega
  have c10 : (w.alloc (.cells #[.int .i64 4, .int .i64 vv, .int .i64 wd, .slice da dn dc] 34)).cell? ⟨cb, 0, none⟩ = some (.int .i64 4) := by rw [hcb]; simp
  have c11 : (w.alloc (.cells #[.int .i64 4, .int .i64 vv, .int .i64 wd, .slice da dn dc] 34)).cell? ⟨cb, 1, none⟩ = some (.int .i64 vv) := by rw [hcb]; simp
  have c12 : (w.alloc (.cells #[.int .i64 4, .int .i64 vv, .int .i64 wd, .slice da dn dc] 34)).cell? ⟨cb, 2, none⟩ = some (.int .i64 wd) := by rw [hcb]; simp
  have c13 : (w.alloc (.cells #[.int .i64 4, .int .i64 vv, .int .i64 wd, .slice da dn dc] 34)).cell? ⟨cb, 3, none⟩ = some (.slice da dn dc) := by rw [hcb]; simp
  clear h hl hdl hs hfar
  go_enter Try.func9, Try.ntmps9
  go_wp2_with (fail)
  try rw [← hcb]
  generalize w.alloc _ = wa at HKA HA c10 c11 c12 c13 ⊢
  clear hcb
  have HSA : Hid (Sl wa da ds) := HS.out.kept HKA.out (by simp)
  refine (lay_any D bo da dn dc ds R _ HA.out.dk HDL.out HSA.out (fun hne a ha hm => HFAR.out hne a ha (by simp [hm])) hdn).mono ?_
  rintro e w1 ⟨g1, m1, rfl, hdk1, hm1, hk1, hg1⟩
  have HD1 : Hid (Dk w1 D (some g1) (laid ds m1)) := hdk1
  have HDF : Hid (∀ g, g ∈ fp → g ∉ dkfp D bo) := fun g hg hm => by
    rcases mem_dkfp.1 hm with rfl | h
    · exact HA.out.d1 hg
    · exact HA.out.d2 _ h hg
  have HWR1 : Hid (WrS w1 p fp o) := HA.out.wr.kept hk1 HDF.out
  have HG1 : Hid (g1 ∉ fp) := by
    intro hm
    rcases hg1 with h | h
    · exact HA.out.d2 _ h hm
    · have := HA.out.lts _ hm; omega
  have HB1 : Hid (bo = some g1 ∨ w.heap.size ≤ g1) := by
    rcases hg1 with h | h
    · exact .inl h
    · exact .inr (Nat.le_trans HKA.out.size h)
  have HK1 : Hid (Kept (fp ++ dkfp D bo) w w1) := (HKA.out.mono (l2 := fp ++ dkfp D bo) (by simp)).trans hk1 (fun i hi _ => by simp [hi])
  have c20 : w1.cell? ⟨cb, 0, none⟩ = some (.int .i64 4) := hk1.cellOf c10 (fun hm => HCF.out (by simp [hm]))
  have c23 : w1.cell? ⟨cb, 3, none⟩ = some (.slice da dn dc) := hk1.cellOf c13 (fun hm => HCF.out (by simp [hm]))
  have HS1 : Hid (Sl w1 da ds) := HSA.out.kept hk1 (fun hne a ha hm => HFAR.out hne a ha (by simp [hm]))
  clear hdk1 hk1 hg1 HSA c10 c11 c12 c13
  go_wp2_with (fail)
  refine (wtext_st HWR1.out HLE.out (some ⟨g1, 0, none⟩) dn m1 ds HDL.out (dk_laidSl HD1.out) (fun a ha => by cases ha; exact HG1.out) (by omega) (by omega)).mono ?_
  rintro e w2 ⟨rfl, hend⟩
  obtain ⟨fp2, hwr2, hk2, hs2, hnf2⟩ := wend_nofp hend HA.out.nofp
  clear hend
  have HWR : Hid (WrS w2 p fp2 (stWText o ds)) := hwr2
  have HK2 : Hid (Kept (fp ++ dkfp D bo) w w2) := HK1.out.trans hk2 (fun i hi _ => by simp [hi])
  have HD2 : Hid (Dk w2 D (some g1) (laid ds m1)) := HD1.out.kept hk2 HA.out.d1 (fun g e => by cases e; exact HG1.out)
  have HS2 : Hid (Sl w2 da ds) := HS1.out.kept hk2 (fun hne a ha hm => HFAR.out hne a ha (by simp [hm]))
  have HSU : Hid (∀ g, g ∈ fp2 → g ∈ fp ∨ w.heap.size ≤ g) := fun g hg => by
    rcases hs2 g hg with h | h
    · exact .inl h
    · exact .inr (Nat.le_trans HK1.out.size h)
  have HNF : Hid (p = none → fp2 = []) := hnf2
  have HDD : Hid (D ∉ fp2 ∧ ∀ g, some g1 = some g → g ∉ fp2) := by
    refine ⟨fun hm => ?_, fun g hg hm => ?_⟩
    · rcases hs2 _ hm with h | h
      · exact HA.out.d1 h
      · have := HD1.out.lt; omega
    · cases hg
      rcases hs2 _ hm with h | h
      · exact HG1.out h
      · have := HD1.out.ltg g1 rfl; omega
  have c30 : w2.cell? ⟨cb, 0, none⟩ = some (.int .i64 4) := hk2.cellOf c20 (fun hm => HCF.out (by simp [hm]))
  have c33 : w2.cell? ⟨cb, 3, none⟩ = some (.slice da dn dc) := hk2.cellOf c23 (fun hm => HCF.out (by simp [hm]))
  have HLT : Hid (∀ g, g ∈ fp2 → g < w2.heap.size) := fun g hg => by
    by_cases hp : p = none
    · rw [hnf2 hp] at hg; simp at hg
    · exact hwr2.lts hp g hg
  clear hwr2 hk2 hs2 hnf2 HA HD1 HWR1 HG1 HK1 HS1 c20 c23
  go_wp2_with (fail)
  refine (lies_ok D g1 da dn dc m1 ds _ HD2.out HDL.out HS2.out hm1).mono ?_
  rintro e w' ⟨rfl, n3, rfl⟩
  have HK3 : Hid (Kept (fp ++ dkfp D bo) w (w2.drewN n3)) := HK2.out.drewN n3
  have HD3 : Hid (Dk (w2.drewN n3) D (some g1) (laid ds m1)) := HD2.out.kept ((Kept.refl [] w2).drewN n3) (by simp) (by simp)
  have HWR3 : Hid (WrS (w2.drewN n3) p fp2 (stWText o ds)) := HWR.out.kept ((Kept.refl [] w2).drewN n3) (by simp)
  have HLT3 : Hid (∀ g, g ∈ fp2 → g < (w2.drewN n3).heap.size) := HLT.out
  clear HK2 HD2 HWR HLT HS2 c30 c33
  generalize w2.drewN n3 = w3 at HK3 HD3 HWR3 HLT3 ⊢
  go_wp2_with (fail)
  refine (lay_any D (some g1) none 0 0 [] _ _ HD3.out rfl (Sl.nil _ _) (by simp) (by omega)).mono ?_
  rintro e w4 ⟨g4, m4, rfl, hdk4, hm4, hk4, hg4⟩
  have HE : Hid (LwEnd w w4 p fp (stWText o ds) D bo) := lwend_lay (wa := wa) HW.out HK3.out HSU.out (fun g hg => by cases hg; exact HB1.out) HDD.out.1 HDD.out.2 HWR3.out HLT3.out HNF.out hdk4 hk4 hg4
  clear hdk4 hk4 hg4 hm4
  go_wp2
  go_ret
  exact ⟨rfl, HE.out⟩

set_option maxHeartbeats 1500000 in
set_option maxRecDepth 100000 in
theorem lwrite_other {w : World} {p : Option Addr} {fp : List Nat} {o : Option (List UInt8)} {D : Nat} {bo : Option Nat} {R : List UInt8} (h : WD w p fp o D bo R) (hl : ∀ ys, o = some ys → ys.length ≤ 90000000000) (kd : Int) (vv wd : Int) (da : Option Addr) (dn dc : Nat) (ds : List UInt8) (hdl : ds.length = dn) (hdn : dn ≤ 200000) (hs : Sl w da ds) (hfar : ds ≠ [] → ∀ a, da = some a → a.block ∉ fp ++ dkfp D bo) (b1 : (kd == 1) = false) (b2 : (kd == 2) = false) (b3 : (kd == 3) = false) (b4 : (kd == 4) = false) :
    Calls Try.prog 9 #[.pointer p, .agg #[.int .i64 kd, .int .i64 vv, .int .i64 wd, .slice da dn dc], .pointer (some ⟨D, 0, none⟩)] w fun e w' => e = .returned (.bool true) ∧ LwEnd w w' p fp (o) D bo := by
  have HW : Hid (WD w p fp o D bo R) := h
  have HKA : Hid (Kept [] w (w.alloc (.cells #[.int .i64 kd, .int .i64 vv, .int .i64 wd, .slice da dn dc] 34))) := (Kept.refl [] w).alloc _
  have HA : Hid (WD (w.alloc (.cells #[.int .i64 kd, .int .i64 vv, .int .i64 wd, .slice da dn dc] 34)) p fp o D bo R) := h.kept HKA.out (by simp) (by simp) (by simp)
  have HLE : Hid (∀ ys, o = some ys → ys.length ≤ 100000000000) := fun ys hy => by have := hl ys hy; omega
  have HDL : Hid (ds.length = dn) := hdl
  have HS : Hid (Sl w da ds) := hs
  have HFAR : Hid (ds ≠ [] → ∀ a, da = some a → a.block ∉ fp ++ dkfp D bo) := hfar
  obtain ⟨cb, hcb⟩ : ∃ cb, cb = w.heap.size := ⟨_, rfl⟩
  have HCB : Hid (w.heap.size ≤ cb) := by show _ ≤ _; omega
  have HCF : Hid (cb ∉ fp ++ dkfp D bo) := by
    intro hm
    simp only [List.mem_append, mem_dkfp] at hm
    rcases hm with hm | rfl | hm
    · have := h.lts _ hm; omega
    · have := h.dk.lt; omega
    · have := h.dk.ltg _ hm; omega
  have c10 : (w.alloc (.cells #[.int .i64 kd, .int .i64 vv, .int .i64 wd, .slice da dn dc] 34)).cell? ⟨cb, 0, none⟩ = some (.int .i64 kd) := by rw [hcb]; simp
  have c11 : (w.alloc (.cells #[.int .i64 kd, .int .i64 vv, .int .i64 wd, .slice da dn dc] 34)).cell? ⟨cb, 1, none⟩ = some (.int .i64 vv) := by rw [hcb]; simp
  have c12 : (w.alloc (.cells #[.int .i64 kd, .int .i64 vv, .int .i64 wd, .slice da dn dc] 34)).cell? ⟨cb, 2, none⟩ = some (.int .i64 wd) := by rw [hcb]; simp
  have c13 : (w.alloc (.cells #[.int .i64 kd, .int .i64 vv, .int .i64 wd, .slice da dn dc] 34)).cell? ⟨cb, 3, none⟩ = some (.slice da dn dc) := by rw [hcb]; simp
  clear h hl hdl hs hfar
  go_enter Try.func9, Try.ntmps9
  go_wp2_with (fail)
  go_ret
  exact ⟨rfl, fp, bo, R, HA.out, HKA.out.mono (by simp), fun g hg => .inl hg, fun g hg => .inl hg⟩

/-- write: the writer takes what the document says, and what was handed in stays. -/
theorem lwrite_any {w : World} {p : Option Addr} {fp : List Nat} {o : Option (List UInt8)} {D : Nat} {bo : Option Nat} {R : List UInt8} (h : WD w p fp o D bo R) (hl : ∀ ys, o = some ys → ys.length ≤ 90000000000) (kd vv wd : Int) (da : Option Addr) (dn dc : Nat) (ds : List UInt8) (hdl : ds.length = dn) (hdn : dn ≤ 200000) (hs : Sl w da ds) (hfar : ds ≠ [] → ∀ a, da = some a → a.block ∉ fp ++ dkfp D bo) :
    Calls Try.prog 9 #[.pointer p, .agg #[.int .i64 kd, .int .i64 vv, .int .i64 wd, .slice da dn dc], .pointer (some ⟨D, 0, none⟩)] w fun e w' => e = .returned (.bool true) ∧ LwEnd w w' p fp (stPut o kd vv wd ds) D bo := by
  by_cases k1 : kd = 1
  · subst k1
    exact lwrite_number h hl vv wd da dn dc ds hdl hdn hs hfar
  by_cases k2 : kd = 2
  · subst k2
    exact lwrite_fixed h hl vv wd da dn dc ds hdl hdn hs hfar
  by_cases k3 : kd = 3
  · subst k3
    exact lwrite_raw h hl vv wd da dn dc ds hdl hdn hs hfar
  by_cases k4 : kd = 4
  · subst k4
    exact lwrite_text h hl vv wd da dn dc ds hdl hdn hs hfar
  unfold stPut
  rw [if_neg k1, if_neg k2, if_neg k3, if_neg k4]
  exact lwrite_other h hl kd vv wd da dn dc ds hdl hdn hs hfar (by simpa using k1) (by simpa using k2) (by simpa using k3) (by simpa using k4)

end Go.Proofs.Ytjmameknbnflaab
