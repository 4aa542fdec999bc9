/-
  The walk: freightlaw3.RollTwo.
-/
import Derived.Test.YtjfekdcghgpchaaEt
import Derived.Test.YtjfekdcghgpchaaEa
import Derived.Deep.Cut
import Derived.Deep.RegionHeld3
namespace Go.Proofs.Ytjfekdcghgpchaa
open Go.RowKit
set_option linter.unusedVariables false
set_option linter.unusedSimpArgs false

theorem hide {p : Prop} (h : p) : Hid p := h

/-- At the head of the loop. -/
structure Tw (w wr : World) (p1 g1 p2 g2 qa oa ca qb ob cb n1 n2 : Nat) (A B : List UInt8) : Prop where
  ro1 : Ro wr p1 g1 A
  ro2 : Ro wr p2 g2 B
  ra1 : Ra wr qa oa n1 ca A
  ra2 : Ra wr qb ob n2 cb B
  kept : Kept [] w wr
  ge : w.heap.size ≤ p1 ∧ w.heap.size ≤ g1 ∧ w.heap.size ≤ p2 ∧ w.heap.size ≤ g2 ∧ w.heap.size ≤ qa ∧ w.heap.size ≤ qb
  d1 : p1 ≠ p2 ∧ p1 ≠ g2 ∧ g1 ≠ p2 ∧ g1 ≠ g2
  d2 : qa ≠ p1 ∧ qa ≠ g1 ∧ qa ≠ p2 ∧ qa ≠ g2
  d3 : qb ≠ p1 ∧ qb ≠ g1 ∧ qb ≠ p2 ∧ qb ≠ g2 ∧ qa ≠ qb

theorem Tw.same {w wr wr' : World} {p1 g1 p2 g2 qa oa ca qb ob cb n1 n2 : Nat} {A B : List UInt8} (h : Tw w wr p1 g1 p2 g2 qa oa ca qb ob cb n1 n2 A B) (hk : Kept [] wr wr') : Tw w wr' p1 g1 p2 g2 qa oa ca qb ob cb n1 n2 A B :=
  ⟨h.ro1.kept hk (by simp) (by simp), h.ro2.kept hk (by simp) (by simp), h.ra1.kept hk (by simp), h.ra2.kept hk (by simp), h.kept.trans hk (by simp), h.ge, h.d1, h.d2, h.d3⟩

theorem not2 {a b c : Nat} (h1 : a ≠ b) (h2 : a ≠ c) : a ∉ [b, c] := by simp; exact ⟨h1, h2⟩

/-- The first Roll moved, and its row. -/
theorem Tw.push1 {w wr u : World} {p1 g1 p2 g2 qa oa ca qb ob cb n1 n2 : Nat} {A A' B : List UInt8} (h : Tw w wr p1 g1 p2 g2 qa oa ca qb ob cb n1 n2 A B) (hk : Kept [p1, g1] wr u) (hr : Ro u p1 g1 A') : Ro u p1 g1 A' ∧ Ro u p2 g2 B ∧ Ra u qa oa n1 ca A ∧ Ra u qb ob n2 cb B ∧ Kept [] w u :=
  ⟨hr, h.ro2.kept hk (not2 (Ne.symm h.d1.1) (Ne.symm h.d1.2.2.1)) (not2 (Ne.symm h.d1.2.1) (Ne.symm h.d1.2.2.2)), h.ra1.kept hk (not2 h.d2.1 h.d2.2.1), h.ra2.kept hk (not2 h.d3.1 h.d3.2.1), h.kept.trans hk (by have := h.ge; simp; omega)⟩
theorem Tw.push2 {w wr u : World} {p1 g1 p2 g2 qa oa ca qb ob cb n1 n2 : Nat} {A B B' : List UInt8} (h : Tw w wr p1 g1 p2 g2 qa oa ca qb ob cb n1 n2 A B) (hk : Kept [p2, g2] wr u) (hr : Ro u p2 g2 B') : Ro u p1 g1 A ∧ Ro u p2 g2 B' ∧ Ra u qa oa n1 ca A ∧ Ra u qb ob n2 cb B ∧ Kept [] w u :=
  ⟨h.ro1.kept hk (not2 h.d1.1 h.d1.2.1) (not2 h.d1.2.2.1 h.d1.2.2.2), hr, h.ra1.kept hk (not2 h.d2.2.2.1 h.d2.2.2.2), h.ra2.kept hk (not2 h.d3.2.2.1 h.d3.2.2.2.1), h.kept.trans hk (by have := h.ge; simp; omega)⟩

set_option maxHeartbeats 4000000 in
set_option maxRecDepth 100000 in
theorem two_good (ao bo co : Option Addr) (n1 cap1 n2 cap2 m cap3 : Nat) (xs ys zs : List UInt8) (w : World) (hi : InB w ao n1 cap1 xs) (hj : InB w bo n2 cap2 ys) (hz : InB w co m cap3 zs) (hn1 : 1 ≤ n1) (hn1' : n1 ≤ 4096) (hn2 : 1 ≤ n2) (hn2' : n2 ≤ 4096) (hm : m ≤ 3000) (hwk : ¬ 3000000 < (m : Int) * ((n1 : Int) + (n2 : Int))) :
    Calls Try.prog 5 #[.slice ao n1 cap1, .slice bo n2 cap2, .slice co m cap3] w fun e w' => e = .returned (.bool true) ∧ Kept [] w w' := by
  have HI := hide hi
  have HJ := hide hj
  have HZ := hide hz
  have hmn : (m : Int) * ((n1 : Int) + (n2 : Int)) ≤ 3000000 := by omega
  have hmn0 : 0 ≤ (m : Int) * ((n1 : Int) + (n2 : Int)) := Int.mul_nonneg (by omega) (by omega)
  clear hi hj hz hwk
  go_enter Try.func5, Try.ntmps5
  go_wp2_with (fail)
  refine (begun_ok ao n1 cap1 xs _ HI.out.len hn1 hn1' HI.out.sl).mono ?_
  rintro e w1 ⟨p1, g1, rfl, hro1, hp1, hg1, hk1⟩
  go_wp2_with (fail)
  refine (begun_ok bo n2 cap2 ys _ HJ.out.len hn2 hn2' (HJ.out.sl.kept hk1 (by simp))).mono ?_
  rintro e w2 ⟨p2, g2, rfl, hro2, hp2, hg2, hk2⟩
  have hl1 := hro1.ltp
  have hl2 := hro1.ltg
  have hs1 := hk1.size
  have hl3 := hro2.ltp
  have hl4 := hro2.ltg
  have HR1 := hide (hro1.kept hk2 (by simp) (by simp))
  have HR2 := hide hro2
  have HK2 := hide (hk1.trans hk2 (by simp))
  clear hro1 hro2 hk1 hk2
  go_wp2_with (at_builtin; refine wpList_append_row _ rfl (.tmp 71) (.tmp 72) rfl w2.heap.size w2.heap.size 0 0 [] rfl (World.ownsRow_made w2 #[] 0 (Nat.le_refl _) (by decide) rfl) ao n1 cap1 xs rfl (HI.out.sl.kept (HK2.out.alloc _) (by simp)) HI.out.len HI.out.nil (by omega) (by simp) ?_)
  intro qa ca w3 ho3 hgr3
  obtain ⟨hqa, hra3⟩ := own_ra ho3
  have hk3 : Kept [] w2 w3 := ((Kept.refl [] w2).alloc _).grown hgr3 (by intro k hk hlt; cases hk; omega)
  have HR13 := hide (HR1.out.kept hk3 (by simp) (by simp))
  have HR23 := hide (HR2.out.kept hk3 (by simp) (by simp))
  have HRA3 := hide hra3
  have HK3 := hide (HK2.out.trans hk3 (by simp))
  clear ho3 hgr3 hra3 hk3 HR1 HR2 HK2
  go_wp2_with (at_builtin; refine wpList_append_row _ rfl (.tmp 74) (.tmp 75) rfl w3.heap.size w3.heap.size 0 0 [] rfl (World.ownsRow_made w3 #[] 0 (Nat.le_refl _) (by decide) rfl) bo n2 cap2 ys rfl (HJ.out.sl.kept (HK3.out.alloc _) (by simp)) HJ.out.len HJ.out.nil (by omega) (by simp) ?_)
  intro qb cb w4 ho4 hgr4
  obtain ⟨hqb, hra4⟩ := own_ra ho4
  have hk4 : Kept [] w3 w4 := ((Kept.refl [] w3).alloc _).grown hgr4 (by intro k hk hlt; cases hk; omega)
  have hqal := HRA3.out.lt
  have hs3 := HK3.out.size
  have HT0 : Hid (Tw w w4 p1 g1 p2 g2 qa 0 ca qb 0 cb n1 n2 xs ys) := ⟨HR13.out.kept hk4 (by simp) (by simp), HR23.out.kept hk4 (by simp) (by simp), HRA3.out.kept hk4 (by simp), hra4, HK3.out.trans hk4 (by simp), by omega, by omega, by omega, by omega⟩
  clear ho4 hgr4 hra4 hk4 HR13 HR23 HRA3 HK3
  go_wp2
  go_loopw [11, 12, 13] (fun sa sb x wr => ∃ (i qa oa ca qb ob cb : Nat) (A B : List UInt8), i ≤ m ∧ x = .int .i64 i ∧ sa = .slice (some ⟨qa, oa, none⟩) n1 ca ∧ sb = .slice (some ⟨qb, ob, none⟩) n2 cb ∧ Hid (Tw w wr p1 g1 p2 g2 qa oa ca qb ob cb n1 n2 A B)) (fun sa sb x wr => m - (intOf x).toNat)
  case atStart => exact ⟨0, qa, 0, ca, qb, 0, cb, xs, ys, Nat.zero_le _, rfl, rfl, rfl, HT0⟩
  case round =>
    clear HT0 hqa hqb hqal hs3
    obtain ⟨i, qa, oa, ca, qb, ob, cb, A, B, him, rfl, rfl, rfl, HT⟩ := hrel
    by_cases hlt : i < m
    · obtain ⟨b, off, hco, hcell⟩ := HZ.out.sl i (by have := HZ.out.len; omega)
      subst hco
      have hbw : b < w.heap.size := World.block_lt_of_cell? _ _ hcell
      have hge := HT.out.ge
      have HCY : Hid (wr.cell? ⟨b, off + i, none⟩ = some (.int .u8 (zs.getD i 0).toNat)) := HT.out.kept.cellOf hcell (by simp)
      have HB1 : Hid (b ∉ [p1, g1]) := by show b ∉ [p1, g1]; simp; omega
      have HB2 : Hid (b ∉ [p2, g2]) := by show b ∉ [p2, g2]; simp; omega
      have hltI : (i : Int) < (m : Int) := by omega
      generalize zs.getD i 0 = y at HCY
      clear hcell
      by_cases hpar : i % 2 = 0
      · have gp : ((i : Int) % 2 == 0) = true := by simp; omega
        have gp' : ((i : Int).tmod 2 == 0) = true := by rw [Int.tmod_eq_emod_of_nonneg (by omega)]; exact gp
        obtain ⟨x, rest, hA⟩ : ∃ x rest, A = x :: rest := by
          have := HT.out.ra1.len
          cases A with
          | nil => simp at this; omega
          | cons x rest => exact ⟨x, rest, rfl⟩
        subst hA
        go_upto_region 13 with (fail)
        have HCA : Hid (wr.cell? ⟨qa, oa, none⟩ = some (.int .u8 x.toNat)) := by
          obtain ⟨b', off', e', h'⟩ := HT.out.ra1.sl 0 (by simp)
          cases e'
          exact h'
        have HQN : Hid (qa ∉ [p1, g1]) := not2 HT.out.d2.1 HT.out.d2.2.1
        have hx256 : x.toNat < 256 := UInt8.toNat_lt _
        have hn0 : ¬ n1 = 0 := by omega
        have HBQ : Hid (b ∉ [qa]) := by show b ∉ [qa]; simp; omega
        have HRO : Hid (Ro wr p1 g1 (x :: rest)) := HT.out.ro1
        refine wp_region_held_drew (S := fun w' => Kept [p1, g1] wr w') (by kernel_rfl) ((Kept.refl [p1, g1] wr).drew) (fun h0 => ?_)
        have hro : Ro wr.drew p1 g1 (x :: rest) := HRO.out.kept ((Kept.refl [] wr).drew) (by simp) (by simp)
        generalize World.drew wr = u0 at h0 hro ⊢
        refine wpAnyH_take (i := 0) (v := .pointer (some ⟨p1, 0, none⟩)) rfl (by kernel_rfl) (by kernel_rfl) (by kernel_rfl) (fun _ _ _ h => h) (Or.inl ⟨by rfl, fun w hSw => by go_simp⟩) h0 ?_
        try simp only [List.getElem_toArray, List.getElem_cons_zero, List.getElem_cons_succ, Act.put, List.setIfInBounds_toArray, List.set_cons_zero, List.set_cons_succ]
        refine wpAnyH_take (i := 1) (v := .slice (some ⟨b, off, none⟩) m cap3) rfl (by kernel_rfl) (by kernel_rfl) (by kernel_rfl) (fun _ _ _ h => h) (Or.inl ⟨by rfl, fun w hSw => by go_simp⟩) h0 ?_
        try simp only [List.getElem_toArray, List.getElem_cons_zero, List.getElem_cons_succ, Act.put, List.setIfInBounds_toArray, List.set_cons_zero, List.set_cons_succ]
        refine wpAnyH_take (i := 2) (v := .int .i64 (i : Nat)) rfl (by kernel_rfl) (by kernel_rfl) (by kernel_rfl) (fun _ _ _ h => h) (Or.inl ⟨by rfl, fun w hSw => by go_simp⟩) h0 ?_
        try simp only [List.getElem_toArray, List.getElem_cons_zero, List.getElem_cons_succ, Act.put, List.setIfInBounds_toArray, List.set_cons_zero, List.set_cons_succ]
        refine wpAnyH_take (i := 3) (v := .pointer (some ⟨b, off + i, none⟩)) rfl (by kernel_rfl) (by kernel_rfl) (by kernel_rfl) (fun _ _ _ h => h) (Or.inl ⟨by rfl, fun w hSw => by go_simp⟩) h0 ?_
        try simp only [List.getElem_toArray, List.getElem_cons_zero, List.getElem_cons_succ, Act.put, List.setIfInBounds_toArray, List.set_cons_zero, List.set_cons_succ]
        refine wpAnyH_take (i := 4) (v := .int .u8 (y.toNat : Nat)) rfl (by kernel_rfl) (by kernel_rfl) (by kernel_rfl) (fun _ _ _ h => h) (Or.inl ⟨by rfl, fun w hSw => by have c := Kept.cellOf hSw HCY.out HB1.out; go_simp⟩) h0 ?_
        try simp only [List.getElem_toArray, List.getElem_cons_zero, List.getElem_cons_succ, Act.put, List.setIfInBounds_toArray, List.set_cons_zero, List.set_cons_succ]
        refine wpAnyH_take (i := 6) (v := .slice (some ⟨qa, oa, none⟩) n1 ca) rfl (by kernel_rfl) (by kernel_rfl) (by kernel_rfl) (fun _ _ _ h => h) (Or.inl ⟨by rfl, fun w hSw => by go_simp⟩) h0 ?_
        try simp only [List.getElem_toArray, List.getElem_cons_zero, List.getElem_cons_succ, Act.put, List.setIfInBounds_toArray, List.set_cons_zero, List.set_cons_succ]
        refine wpAnyH_take (i := 7) (v := .pointer (some ⟨qa, oa, none⟩)) rfl (by kernel_rfl) (by kernel_rfl) (by kernel_rfl) (fun _ _ _ h => h) (Or.inl ⟨by rfl, fun w hSw => by go_simp⟩) h0 ?_
        try simp only [List.getElem_toArray, List.getElem_cons_zero, List.getElem_cons_succ, Act.put, List.setIfInBounds_toArray, List.set_cons_zero, List.set_cons_succ]
        refine wpAnyH_take (i := 8) (v := .int .u8 (x.toNat : Nat)) rfl (by kernel_rfl) (by kernel_rfl) (by kernel_rfl) (fun _ _ _ h => h) (Or.inl ⟨by rfl, fun w hSw => by have c := Kept.cellOf hSw HCA.out HQN.out; go_simp⟩) h0 ?_
        try simp only [List.getElem_toArray, List.getElem_cons_zero, List.getElem_cons_succ, Act.put, List.setIfInBounds_toArray, List.set_cons_zero, List.set_cons_succ]
        refine wpAnyH_ready (rs := [5]) (by kernel_rfl) (by simp) (AllReadyH.cons (i := 5) rfl (fun K hK => ?_) AllReadyH.nil)
        rw [if_pos (by rfl)]
        go_simp
        refine (rollPush_ok hro y).mono ?_
        rintro e u1 ⟨rfl, hro1, hq⟩
        refine hK.out _ _ (h0.trans hq (by simp)) (fun h1 => ?_)
        clear hK K hq h0 hro
        try simp only [List.getElem_toArray, List.getElem_cons_zero, List.getElem_cons_succ, Act.put, List.setIfInBounds_toArray, List.set_cons_zero, List.set_cons_succ]
        refine wpAnyH_take (i := 9) (v := .bool false) rfl (by kernel_rfl) (by kernel_rfl) (by kernel_rfl) (fun _ _ _ h => h) (Or.inl ⟨by rfl, fun w hSw => by go_simp⟩) h1 ?_
        try simp only [List.getElem_toArray, List.getElem_cons_zero, List.getElem_cons_succ, Act.put, List.setIfInBounds_toArray, List.set_cons_zero, List.set_cons_succ]
        refine wpAnyH_done (by kernel_rfl) ?_ _
        have HPU := hide (HT.out.push1 h1 hro1)
        have HY1 : Hid (u1.cell? ⟨b, off + i, none⟩ = some (.int .u8 y.toNat)) := h1.cellOf HCY.out HB1.out
        have HG := hide HT.out.ge
        have HD1 := hide HT.out.d1
        have HD2 := hide HT.out.d2
        have HD3 := hide HT.out.d3
        clear h1 hro1 HT HRO HCA hx256 HCY
        obtain ⟨oo, hcut, hsl, hoo⟩ := HPU.out.2.2.1.cut1
        have HSL := hide hsl
        have HOO := hide hoo
        clear hsl hoo
        go_upto_region 15 with (fail)
        refine wp_region_held_drew (S := fun w' => Kept [qa] u1 w') (by kernel_rfl) ((Kept.refl [qa] u1).drew) (fun h0 => ?_)
        have hra0 : Ra u1.drew qa oa n1 ca (x :: rest) := HPU.out.2.2.1.kept ((Kept.refl [] u1).drew) (by simp)
        have hsl0 : Sl u1.drew (some ⟨qa, oo, none⟩) rest := HSL.out.kept ((Kept.refl [] u1).drew) (by simp)
        have hsz0 : u1.heap.size ≤ u1.drew.heap.size := Nat.le_refl _
        generalize World.drew u1 = u2 at h0 hra0 hsl0 hsz0 ⊢
        refine wpAnyH_take (i := 0) (v := .slice (some ⟨qa, oa, none⟩) n1 ca) rfl (by kernel_rfl) (by kernel_rfl) (by kernel_rfl) (fun _ _ _ h => h) (Or.inl ⟨by rfl, fun w hSw => by go_simp⟩) h0 ?_
        try simp only [List.getElem_toArray, List.getElem_cons_zero, List.getElem_cons_succ, Act.put, List.setIfInBounds_toArray, List.set_cons_zero, List.set_cons_succ]
        refine wpAnyH_take (i := 1) (v := .slice (some ⟨qa, oo, none⟩) (n1 - 1) (ca - 1)) rfl (by kernel_rfl) (by kernel_rfl) (by kernel_rfl) (fun _ _ _ h => h) (Or.inl ⟨by rfl, fun w hSw => by go_simp⟩) h0 ?_
        try simp only [List.getElem_toArray, List.getElem_cons_zero, List.getElem_cons_succ, Act.put, List.setIfInBounds_toArray, List.set_cons_zero, List.set_cons_succ]
        refine wpAnyH_take (i := 2) (v := .slice (some ⟨b, off, none⟩) m cap3) rfl (by kernel_rfl) (by kernel_rfl) (by kernel_rfl) (fun _ _ _ h => h) (Or.inl ⟨by rfl, fun w hSw => by go_simp⟩) h0 ?_
        try simp only [List.getElem_toArray, List.getElem_cons_zero, List.getElem_cons_succ, Act.put, List.setIfInBounds_toArray, List.set_cons_zero, List.set_cons_succ]
        refine wpAnyH_take (i := 3) (v := .int .i64 (i : Nat)) rfl (by kernel_rfl) (by kernel_rfl) (by kernel_rfl) (fun _ _ _ h => h) (Or.inl ⟨by rfl, fun w hSw => by go_simp⟩) h0 ?_
        try simp only [List.getElem_toArray, List.getElem_cons_zero, List.getElem_cons_succ, Act.put, List.setIfInBounds_toArray, List.set_cons_zero, List.set_cons_succ]
        refine wpAnyH_take (i := 4) (v := .pointer (some ⟨b, off + i, none⟩)) rfl (by kernel_rfl) (by kernel_rfl) (by kernel_rfl) (fun _ _ _ h => h) (Or.inl ⟨by rfl, fun w hSw => by go_simp⟩) h0 ?_
        try simp only [List.getElem_toArray, List.getElem_cons_zero, List.getElem_cons_succ, Act.put, List.setIfInBounds_toArray, List.set_cons_zero, List.set_cons_succ]
        refine wpAnyH_take (i := 5) (v := .int .u8 (y.toNat : Nat)) rfl (by kernel_rfl) (by kernel_rfl) (by kernel_rfl) (fun _ _ _ h => h) (Or.inl ⟨by rfl, fun w hSw => by have c := Kept.cellOf hSw HY1.out HBQ.out; go_simp⟩) h0 ?_
        try simp only [List.getElem_toArray, List.getElem_cons_zero, List.getElem_cons_succ, Act.put, List.setIfInBounds_toArray, List.set_cons_zero, List.set_cons_succ]
        refine wpAnyH_ready (rs := [6]) (by kernel_rfl) (by simp) (AllReadyH.cons (i := 6) rfl (fun K hK => ?_) AllReadyH.nil)
        rw [if_pos (by rfl)]
        go_simp
        have hka : Kept [] u2 (u2.alloc (.cells #[.int .u8 y.toNat] 5)) := (Kept.refl [] u2).alloc _
        have hya := (Var1.new u2 (.int .u8 y.toNat) 5).cell
        refine hK.out _ _ ((h0.trans hka (by simp))) (fun h1 => ?_)
        clear hK K h0
        try simp only [List.getElem_toArray, List.getElem_cons_zero, List.getElem_cons_succ, Act.put, List.setIfInBounds_toArray, List.set_cons_zero, List.set_cons_succ]
        obtain ⟨q', o', c', w5, hrun, hra5, hk5, hq5⟩ := run_append_ring (u2.alloc (.cells #[.int .u8 y.toNat] 5)) qa oa n1 ca oo x rest y (hra0.kept hka (by simp)) (hsl0.kept hka (by simp)) HOO.out u2.heap.size hya (by omega)
        have hsz1 := hka.size
        generalize World.alloc u2 _ = u3 at h1 hrun hk5 hq5 hsz1 ⊢
        clear hra0 hsl0 hya hka
        refine wpAnyH_ready (rs := [7]) (by kernel_rfl) (by simp) (AllReadyH.cons (i := 7) rfl (fun K hK => ?_) AllReadyH.nil)
        rw [if_pos (by rfl)]
        refine wp_append_run (.tmp 97) (.tmp 102) 23 rfl _ _ rfl rfl _ _ hrun ?_
        refine hK.out _ _ (h1.trans hk5 (by simp)) (fun h2 => ?_)
        clear hK K h1 hrun
        try simp only [List.getElem_toArray, List.getElem_cons_zero, List.getElem_cons_succ, Act.put, List.setIfInBounds_toArray, List.set_cons_zero, List.set_cons_succ]
        refine wpAnyH_take (i := 8) (v := .slice (some ⟨q', o', none⟩) n1 c') rfl (by kernel_rfl) (by kernel_rfl) (by kernel_rfl) (fun _ _ _ h => h) (Or.inl ⟨by rfl, fun w hSw => by go_simp⟩) h2 ?_
        try simp only [List.getElem_toArray, List.getElem_cons_zero, List.getElem_cons_succ, Act.put, List.setIfInBounds_toArray, List.set_cons_zero, List.set_cons_succ]
        refine wpAnyH_done (by kernel_rfl) ?_ _
        have hk6 : Kept [qa] u1 w5 := h2
        have hqn : q' = qa ∨ u1.heap.size ≤ q' := by rcases hq5 with h | h; exact .inl h; exact .inr (by omega)
        have l1 := HPU.out.1.ltp
        have l2 := HPU.out.1.ltg
        have l3 := HPU.out.2.1.ltp
        have l4 := HPU.out.2.1.ltg
        have l5 := HPU.out.2.2.1.lt
        have l6 := HPU.out.2.2.2.1.lt
        have l7 := HPU.out.2.2.2.2.size
        have hge := HG.out
        have e1 := HD1.out
        have e2 := HD2.out
        have e3 := HD3.out
        have HT5 : Hid (Tw w w5 p1 g1 p2 g2 q' o' c' qb ob cb n1 n2 (rest ++ [y]) B) := by
          refine ⟨HPU.out.1.kept hk6 (by simp; exact Ne.symm e2.1) (by simp; exact Ne.symm e2.2.1), HPU.out.2.1.kept hk6 (by simp; exact Ne.symm e2.2.2.1) (by simp; exact Ne.symm e2.2.2.2), hra5, HPU.out.2.2.2.1.kept hk6 (by simp; exact Ne.symm e3.2.2.2.2), HPU.out.2.2.2.2.trans hk6 (by simp; omega), ?_, e1, ?_, ?_⟩
          · rcases hqn with rfl | h
            · exact hge
            · omega
          · rcases hqn with rfl | h
            · exact e2
            · exact ⟨by omega, by omega, by omega, by omega⟩
          · rcases hqn with rfl | h
            · exact e3
            · exact ⟨e3.1, e3.2.1, e3.2.2.1, e3.2.2.2.1, by omega⟩
        clear hra5 hk5 hq5 hk6 h2 hqn hsz0 hsz1 HPU HSL HOO HY1 HBQ HG HD1 HD2 HD3 hge e1 e2 e3 l1 l2 l3 l4 l5 l6 l7 hcut HQN
        have hA1 := HT5.out.ra1.len
        have hB1 := HT5.out.ra2.len
        have HA1 := hide hA1
        have HB1' := hide hB1
        clear hA1 hB1
        go_wp2_with (fail)
        refine (rollSum_ok HT5.out.ro1).mono ?_
        rintro e w6 ⟨rfl, hk6⟩
        have HT6 := hide (HT5.out.same hk6)
        clear hk6 HT5
        go_wp2_with (fail)
        refine (refsum_n _ n1 _ _ _ HA1.out (by omega) HT6.out.ra1.sl).mono ?_
        rintro e w6' ⟨rfl, hw6⟩
        obtain rfl := hw6.symm
        generalize Rol.sum (rest ++ [y]) = sA at *
        go_wp2_with (fail)
        refine (rollSum_ok HT6.out.ro2).mono ?_
        rintro e w7 ⟨rfl, hk7⟩
        have HT7 := hide (HT6.out.same hk7)
        clear hk7 HT6
        go_wp2_with (fail)
        refine (refsum_n _ n2 _ _ _ HB1'.out (by omega) HT7.out.ra2.sl).mono ?_
        rintro e w7' ⟨rfl, hw7⟩
        obtain rfl := hw7.symm
        generalize Rol.sum B = sB at *
        have hi3 : ((i : Int) == 3) = false := by simp; omega
        go_wp2
        go_roundw
        case rel => exact ⟨i + 1, q', o', c', qb, ob, cb, rest ++ [y], B, by omega, by go_num, rfl, rfl, HT7⟩
        case measure => simp [intOf]; omega
      · have gp : ((i : Int) % 2 == 0) = false := by simp; omega
        have gp' : ((i : Int).tmod 2 == 0) = false := by rw [Int.tmod_eq_emod_of_nonneg (by omega)]; exact gp
        obtain ⟨x, rest, hA⟩ : ∃ x rest, B = x :: rest := by
          have := HT.out.ra2.len
          cases B with
          | nil => simp at this; omega
          | cons x rest => exact ⟨x, rest, rfl⟩
        subst hA
        go_upto_region 16 with (fail)
        have HCA : Hid (wr.cell? ⟨qb, ob, none⟩ = some (.int .u8 x.toNat)) := by
          obtain ⟨b', off', e', h'⟩ := HT.out.ra2.sl 0 (by simp)
          cases e'
          exact h'
        have HQN : Hid (qb ∉ [p2, g2]) := not2 HT.out.d3.2.2.1 HT.out.d3.2.2.2.1
        have hx256 : x.toNat < 256 := UInt8.toNat_lt _
        have hn0 : ¬ n2 = 0 := by omega
        have HBQ : Hid (b ∉ [qb]) := by show b ∉ [qb]; simp; omega
        have HRO : Hid (Ro wr p2 g2 (x :: rest)) := HT.out.ro2
        refine wp_region_held_drew (S := fun w' => Kept [p2, g2] wr w') (by kernel_rfl) ((Kept.refl [p2, g2] wr).drew) (fun h0 => ?_)
        have hro : Ro wr.drew p2 g2 (x :: rest) := HRO.out.kept ((Kept.refl [] wr).drew) (by simp) (by simp)
        generalize World.drew wr = u0 at h0 hro ⊢
        refine wpAnyH_take (i := 0) (v := .pointer (some ⟨p2, 0, none⟩)) rfl (by kernel_rfl) (by kernel_rfl) (by kernel_rfl) (fun _ _ _ h => h) (Or.inl ⟨by rfl, fun w hSw => by go_simp⟩) h0 ?_
        try simp only [List.getElem_toArray, List.getElem_cons_zero, List.getElem_cons_succ, Act.put, List.setIfInBounds_toArray, List.set_cons_zero, List.set_cons_succ]
        refine wpAnyH_take (i := 1) (v := .slice (some ⟨b, off, none⟩) m cap3) rfl (by kernel_rfl) (by kernel_rfl) (by kernel_rfl) (fun _ _ _ h => h) (Or.inl ⟨by rfl, fun w hSw => by go_simp⟩) h0 ?_
        try simp only [List.getElem_toArray, List.getElem_cons_zero, List.getElem_cons_succ, Act.put, List.setIfInBounds_toArray, List.set_cons_zero, List.set_cons_succ]
        refine wpAnyH_take (i := 2) (v := .int .i64 (i : Nat)) rfl (by kernel_rfl) (by kernel_rfl) (by kernel_rfl) (fun _ _ _ h => h) (Or.inl ⟨by rfl, fun w hSw => by go_simp⟩) h0 ?_
        try simp only [List.getElem_toArray, List.getElem_cons_zero, List.getElem_cons_succ, Act.put, List.setIfInBounds_toArray, List.set_cons_zero, List.set_cons_succ]
        refine wpAnyH_take (i := 3) (v := .pointer (some ⟨b, off + i, none⟩)) rfl (by kernel_rfl) (by kernel_rfl) (by kernel_rfl) (fun _ _ _ h => h) (Or.inl ⟨by rfl, fun w hSw => by go_simp⟩) h0 ?_
        try simp only [List.getElem_toArray, List.getElem_cons_zero, List.getElem_cons_succ, Act.put, List.setIfInBounds_toArray, List.set_cons_zero, List.set_cons_succ]
        refine wpAnyH_take (i := 4) (v := .int .u8 (y.toNat : Nat)) rfl (by kernel_rfl) (by kernel_rfl) (by kernel_rfl) (fun _ _ _ h => h) (Or.inl ⟨by rfl, fun w hSw => by have c := Kept.cellOf hSw HCY.out HB2.out; go_simp⟩) h0 ?_
        try simp only [List.getElem_toArray, List.getElem_cons_zero, List.getElem_cons_succ, Act.put, List.setIfInBounds_toArray, List.set_cons_zero, List.set_cons_succ]
        refine wpAnyH_take (i := 6) (v := .slice (some ⟨qb, ob, none⟩) n2 cb) rfl (by kernel_rfl) (by kernel_rfl) (by kernel_rfl) (fun _ _ _ h => h) (Or.inl ⟨by rfl, fun w hSw => by go_simp⟩) h0 ?_
        try simp only [List.getElem_toArray, List.getElem_cons_zero, List.getElem_cons_succ, Act.put, List.setIfInBounds_toArray, List.set_cons_zero, List.set_cons_succ]
        refine wpAnyH_take (i := 7) (v := .pointer (some ⟨qb, ob, none⟩)) rfl (by kernel_rfl) (by kernel_rfl) (by kernel_rfl) (fun _ _ _ h => h) (Or.inl ⟨by rfl, fun w hSw => by go_simp⟩) h0 ?_
        try simp only [List.getElem_toArray, List.getElem_cons_zero, List.getElem_cons_succ, Act.put, List.setIfInBounds_toArray, List.set_cons_zero, List.set_cons_succ]
        refine wpAnyH_take (i := 8) (v := .int .u8 (x.toNat : Nat)) rfl (by kernel_rfl) (by kernel_rfl) (by kernel_rfl) (fun _ _ _ h => h) (Or.inl ⟨by rfl, fun w hSw => by have c := Kept.cellOf hSw HCA.out HQN.out; go_simp⟩) h0 ?_
        try simp only [List.getElem_toArray, List.getElem_cons_zero, List.getElem_cons_succ, Act.put, List.setIfInBounds_toArray, List.set_cons_zero, List.set_cons_succ]
        refine wpAnyH_ready (rs := [5]) (by kernel_rfl) (by simp) (AllReadyH.cons (i := 5) rfl (fun K hK => ?_) AllReadyH.nil)
        rw [if_pos (by rfl)]
        go_simp
        refine (rollPush_ok hro y).mono ?_
        rintro e u1 ⟨rfl, hro1, hq⟩
        refine hK.out _ _ (h0.trans hq (by simp)) (fun h1 => ?_)
        clear hK K hq h0 hro
        try simp only [List.getElem_toArray, List.getElem_cons_zero, List.getElem_cons_succ, Act.put, List.setIfInBounds_toArray, List.set_cons_zero, List.set_cons_succ]
        refine wpAnyH_take (i := 9) (v := .bool false) rfl (by kernel_rfl) (by kernel_rfl) (by kernel_rfl) (fun _ _ _ h => h) (Or.inl ⟨by rfl, fun w hSw => by go_simp⟩) h1 ?_
        try simp only [List.getElem_toArray, List.getElem_cons_zero, List.getElem_cons_succ, Act.put, List.setIfInBounds_toArray, List.set_cons_zero, List.set_cons_succ]
        refine wpAnyH_done (by kernel_rfl) ?_ _
        have HPU := hide (HT.out.push2 h1 hro1)
        have HY1 : Hid (u1.cell? ⟨b, off + i, none⟩ = some (.int .u8 y.toNat)) := h1.cellOf HCY.out HB2.out
        have HG := hide HT.out.ge
        have HD1 := hide HT.out.d1
        have HD2 := hide HT.out.d2
        have HD3 := hide HT.out.d3
        clear h1 hro1 HT HRO HCA hx256 HCY
        obtain ⟨oo, hcut, hsl, hoo⟩ := HPU.out.2.2.2.1.cut1
        have HSL := hide hsl
        have HOO := hide hoo
        clear hsl hoo
        go_upto_region 18 with (fail)
        refine wp_region_held_drew (S := fun w' => Kept [qb] u1 w') (by kernel_rfl) ((Kept.refl [qb] u1).drew) (fun h0 => ?_)
        have hra0 : Ra u1.drew qb ob n2 cb (x :: rest) := HPU.out.2.2.2.1.kept ((Kept.refl [] u1).drew) (by simp)
        have hsl0 : Sl u1.drew (some ⟨qb, oo, none⟩) rest := HSL.out.kept ((Kept.refl [] u1).drew) (by simp)
        have hsz0 : u1.heap.size ≤ u1.drew.heap.size := Nat.le_refl _
        generalize World.drew u1 = u2 at h0 hra0 hsl0 hsz0 ⊢
        refine wpAnyH_take (i := 0) (v := .slice (some ⟨qb, ob, none⟩) n2 cb) rfl (by kernel_rfl) (by kernel_rfl) (by kernel_rfl) (fun _ _ _ h => h) (Or.inl ⟨by rfl, fun w hSw => by go_simp⟩) h0 ?_
        try simp only [List.getElem_toArray, List.getElem_cons_zero, List.getElem_cons_succ, Act.put, List.setIfInBounds_toArray, List.set_cons_zero, List.set_cons_succ]
        refine wpAnyH_take (i := 1) (v := .slice (some ⟨qb, oo, none⟩) (n2 - 1) (cb - 1)) rfl (by kernel_rfl) (by kernel_rfl) (by kernel_rfl) (fun _ _ _ h => h) (Or.inl ⟨by rfl, fun w hSw => by go_simp⟩) h0 ?_
        try simp only [List.getElem_toArray, List.getElem_cons_zero, List.getElem_cons_succ, Act.put, List.setIfInBounds_toArray, List.set_cons_zero, List.set_cons_succ]
        refine wpAnyH_take (i := 2) (v := .slice (some ⟨b, off, none⟩) m cap3) rfl (by kernel_rfl) (by kernel_rfl) (by kernel_rfl) (fun _ _ _ h => h) (Or.inl ⟨by rfl, fun w hSw => by go_simp⟩) h0 ?_
        try simp only [List.getElem_toArray, List.getElem_cons_zero, List.getElem_cons_succ, Act.put, List.setIfInBounds_toArray, List.set_cons_zero, List.set_cons_succ]
        refine wpAnyH_take (i := 3) (v := .int .i64 (i : Nat)) rfl (by kernel_rfl) (by kernel_rfl) (by kernel_rfl) (fun _ _ _ h => h) (Or.inl ⟨by rfl, fun w hSw => by go_simp⟩) h0 ?_
        try simp only [List.getElem_toArray, List.getElem_cons_zero, List.getElem_cons_succ, Act.put, List.setIfInBounds_toArray, List.set_cons_zero, List.set_cons_succ]
        refine wpAnyH_take (i := 4) (v := .pointer (some ⟨b, off + i, none⟩)) rfl (by kernel_rfl) (by kernel_rfl) (by kernel_rfl) (fun _ _ _ h => h) (Or.inl ⟨by rfl, fun w hSw => by go_simp⟩) h0 ?_
        try simp only [List.getElem_toArray, List.getElem_cons_zero, List.getElem_cons_succ, Act.put, List.setIfInBounds_toArray, List.set_cons_zero, List.set_cons_succ]
        refine wpAnyH_take (i := 5) (v := .int .u8 (y.toNat : Nat)) rfl (by kernel_rfl) (by kernel_rfl) (by kernel_rfl) (fun _ _ _ h => h) (Or.inl ⟨by rfl, fun w hSw => by have c := Kept.cellOf hSw HY1.out HBQ.out; go_simp⟩) h0 ?_
        try simp only [List.getElem_toArray, List.getElem_cons_zero, List.getElem_cons_succ, Act.put, List.setIfInBounds_toArray, List.set_cons_zero, List.set_cons_succ]
        refine wpAnyH_ready (rs := [6]) (by kernel_rfl) (by simp) (AllReadyH.cons (i := 6) rfl (fun K hK => ?_) AllReadyH.nil)
        rw [if_pos (by rfl)]
        go_simp
        have hka : Kept [] u2 (u2.alloc (.cells #[.int .u8 y.toNat] 5)) := (Kept.refl [] u2).alloc _
        have hya := (Var1.new u2 (.int .u8 y.toNat) 5).cell
        refine hK.out _ _ ((h0.trans hka (by simp))) (fun h1 => ?_)
        clear hK K h0
        try simp only [List.getElem_toArray, List.getElem_cons_zero, List.getElem_cons_succ, Act.put, List.setIfInBounds_toArray, List.set_cons_zero, List.set_cons_succ]
        obtain ⟨q', o', c', w5, hrun, hra5, hk5, hq5⟩ := run_append_ring (u2.alloc (.cells #[.int .u8 y.toNat] 5)) qb ob n2 cb oo x rest y (hra0.kept hka (by simp)) (hsl0.kept hka (by simp)) HOO.out u2.heap.size hya (by omega)
        have hsz1 := hka.size
        generalize World.alloc u2 _ = u3 at h1 hrun hk5 hq5 hsz1 ⊢
        clear hra0 hsl0 hya hka
        refine wpAnyH_ready (rs := [7]) (by kernel_rfl) (by simp) (AllReadyH.cons (i := 7) rfl (fun K hK => ?_) AllReadyH.nil)
        rw [if_pos (by rfl)]
        refine wp_append_run (.tmp 115) (.tmp 120) 23 rfl _ _ rfl rfl _ _ hrun ?_
        refine hK.out _ _ (h1.trans hk5 (by simp)) (fun h2 => ?_)
        clear hK K h1 hrun
        try simp only [List.getElem_toArray, List.getElem_cons_zero, List.getElem_cons_succ, Act.put, List.setIfInBounds_toArray, List.set_cons_zero, List.set_cons_succ]
        refine wpAnyH_take (i := 8) (v := .slice (some ⟨q', o', none⟩) n2 c') rfl (by kernel_rfl) (by kernel_rfl) (by kernel_rfl) (fun _ _ _ h => h) (Or.inl ⟨by rfl, fun w hSw => by go_simp⟩) h2 ?_
        try simp only [List.getElem_toArray, List.getElem_cons_zero, List.getElem_cons_succ, Act.put, List.setIfInBounds_toArray, List.set_cons_zero, List.set_cons_succ]
        refine wpAnyH_done (by kernel_rfl) ?_ _
        have hk6 : Kept [qb] u1 w5 := h2
        have hqn : q' = qb ∨ u1.heap.size ≤ q' := by rcases hq5 with h | h; exact .inl h; exact .inr (by omega)
        have l1 := HPU.out.1.ltp
        have l2 := HPU.out.1.ltg
        have l3 := HPU.out.2.1.ltp
        have l4 := HPU.out.2.1.ltg
        have l5 := HPU.out.2.2.1.lt
        have l6 := HPU.out.2.2.2.1.lt
        have l7 := HPU.out.2.2.2.2.size
        have hge := HG.out
        have e1 := HD1.out
        have e2 := HD2.out
        have e3 := HD3.out
        have HT5 : Hid (Tw w w5 p1 g1 p2 g2 qa oa ca q' o' c' n1 n2 A (rest ++ [y])) := by
          refine ⟨HPU.out.1.kept hk6 (by simp; exact Ne.symm e3.1) (by simp; exact Ne.symm e3.2.1), HPU.out.2.1.kept hk6 (by simp; exact Ne.symm e3.2.2.1) (by simp; exact Ne.symm e3.2.2.2.1), HPU.out.2.2.1.kept hk6 (by simp; exact e3.2.2.2.2), hra5, HPU.out.2.2.2.2.trans hk6 (by simp; omega), ?_, e1, e2, ?_⟩
          · rcases hqn with rfl | h
            · exact hge
            · omega
          · rcases hqn with rfl | h
            · exact e3
            · exact ⟨by omega, by omega, by omega, by omega, by omega⟩
        clear hra5 hk5 hq5 hk6 h2 hqn hsz0 hsz1 HPU HSL HOO HY1 HBQ HG HD1 HD2 HD3 hge e1 e2 e3 l1 l2 l3 l4 l5 l6 l7 hcut HQN
        have hA1 := HT5.out.ra1.len
        have hB1 := HT5.out.ra2.len
        have HA1 := hide hA1
        have HB1' := hide hB1
        clear hA1 hB1
        go_wp2_with (fail)
        refine (rollSum_ok HT5.out.ro1).mono ?_
        rintro e w6 ⟨rfl, hk6⟩
        have HT6 := hide (HT5.out.same hk6)
        clear hk6 HT5
        go_wp2_with (fail)
        refine (refsum_n _ n1 _ _ _ HA1.out (by omega) HT6.out.ra1.sl).mono ?_
        rintro e w6' ⟨rfl, hw6⟩
        obtain rfl := hw6.symm
        generalize Rol.sum A = sA at *
        go_wp2_with (fail)
        refine (rollSum_ok HT6.out.ro2).mono ?_
        rintro e w7 ⟨rfl, hk7⟩
        have HT7 := hide (HT6.out.same hk7)
        clear hk7 HT6
        go_wp2_with (fail)
        refine (refsum_n _ n2 _ _ _ HB1'.out (by omega) HT7.out.ra2.sl).mono ?_
        rintro e w7' ⟨rfl, hw7⟩
        obtain rfl := hw7.symm
        by_cases hi3 : i = 3
        · subst hi3
          obtain ⟨hd, tl, hh⟩ : ∃ hd tl, rest ++ [y] = hd :: tl := by
            cases rest with
            | nil => exact ⟨y, [], rfl⟩
            | cons a l => exact ⟨a, l ++ [y], rfl⟩
          have HSB : Hid (∀ W, Sl W (some ⟨q', o', none⟩) (rest ++ [y]) → Calls Try.prog 11 #[.slice (some ⟨q', o', none⟩) n2 c'] W fun e w' => e = .returned (.int .i64 (Rol.sum (rest ++ [y]))) ∧ w' = W) := fun W h => refsum_n _ n2 _ _ _ HB1'.out (by omega) h
          have HHH := hide hh
          clear hh
          go_wp2_with (fail)
          refine (begun_ok (some ⟨q', o', none⟩) n2 c' (rest ++ [y]) _ HB1'.out hn2 hn2' HT7.out.ra2.sl).mono ?_
          rintro e w8 ⟨pt, gt, rfl, hrt, hpt, hgt, hk8⟩
          have HT8 := hide (HT7.out.same hk8)
          have HRT := hide hrt
          have l1 := HT7.out.ro1.ltp
          have l2 := HT7.out.ro1.ltg
          have l3 := HT7.out.ro2.ltp
          have l4 := HT7.out.ro2.ltg
          have l5 := HT7.out.ra1.lt
          have l6 := HT7.out.ra2.lt
          have l7 := HT7.out.kept.size
          have hfar : ∀ i, i < w7.heap.size → i ∉ [pt, gt] := fun i hi => by simp; omega
          have F1 := hide (hfar _ l1)
          have F2 := hide (hfar _ l2)
          have F3 := hide (hfar _ l3)
          have F4 := hide (hfar _ l4)
          have F5 := hide (hfar _ l5)
          have F6 := hide (hfar _ l6)
          have F7 := hide (show ∀ i, i ∈ [pt, gt] → i < w.heap.size → i ∈ ([] : List Nat) from by simp; omega)
          clear hrt hk8 HT7 hfar l1 l2 l3 l4 l5 l6 l7 hpt hgt
          go_wp2_with (fail)
          refine (rollSum_ok HRT.out).mono ?_
          rintro e w9 ⟨rfl, hk9⟩
          have HT9 := hide (HT8.out.same hk9)
          have HRT9 := hide (HRT.out.kept hk9 (by simp) (by simp))
          clear hk9 HT8 HRT
          go_wp2_with (fail)
          refine (HSB.out _ HT9.out.ra2.sl).mono ?_
          rintro e w9' ⟨rfl, hw9⟩
          obtain rfl := hw9.symm
          have HRTc : Hid (Ro w9 pt gt (hd :: tl)) := by have := HRT9.out; rw [HHH.out] at this; exact this
          have HTS := hide HT9.out
          clear HRT9
          generalize Rol.sum (rest ++ [y]) = sB at *
          go_wp2_with (fail)
          refine (rollPush_ok HRTc.out 9).mono ?_
          rintro e w10 ⟨rfl, _, hk10⟩
          have HT10 : Hid (Tw w w10 p1 g1 p2 g2 qa oa ca q' o' c' n1 n2 A (rest ++ [y])) := ⟨HT9.out.ro1.kept hk10 F1.out F2.out, HT9.out.ro2.kept hk10 F3.out F4.out, HT9.out.ra1.kept hk10 F5.out, HT9.out.ra2.kept hk10 F6.out, HT9.out.kept.trans hk10 F7.out, HT9.out.ge, HT9.out.d1, HT9.out.d2, HT9.out.d3⟩
          clear hk10 HT9 HTS HRTc HSB F1 F2 F3 F4 F5 F6 F7
          go_wp2
          go_roundw
          case rel => exact ⟨3 + 1, qa, oa, ca, q', o', c', A, rest ++ [y], by omega, by go_num, rfl, rfl, HT10⟩
          case measure => simp [intOf]; omega
        · have hi3' : ((i : Int) == 3) = false := by simp; omega
          generalize Rol.sum (rest ++ [y]) = sB at *
          go_wp2
          go_roundw
          case rel => exact ⟨i + 1, qa, oa, ca, q', o', c', A, rest ++ [y], by omega, by go_num, rfl, rfl, HT7⟩
          case measure => simp [intOf]; omega
    · have hK := HT.out.kept
      clear HT
      go_wp2_with (go_at_call 13; refine (known_any _).mono ?_; rintro e wk ⟨rfl, hkk⟩)
      go_ret
      exact ⟨rfl, hK.trans hkk (by simp)⟩

set_option maxHeartbeats 4000000 in
set_option maxRecDepth 100000 in
theorem two_walk (ao : Option Addr) (n1 cap1 : Nat) (bo : Option Addr) (n2 cap2 : Nat) (co : Option Addr) (m cap3 : Nat) (xs ys zs : List UInt8) (w : World) (hi : InB w ao n1 cap1 xs) (hj : InB w bo n2 cap2 ys) (hz : InB w co m cap3 zs) :
    Calls Try.prog 5 #[.slice ao n1 cap1, .slice bo n2 cap2, .slice co m cap3] w fun e w' => e = .returned (.bool true) ∧ Below w.heap.size w w' := by
  by_cases k1 : 100000 < n1
  · clear hi hj hz
    go_enter Try.func5, Try.ntmps5
    go_wp2
    go_ret
    exact ⟨rfl, Below.refl _ _⟩
  by_cases k2 : 100000 < n2
  · clear hi hj hz
    go_enter Try.func5, Try.ntmps5
    go_wp2
    go_ret
    exact ⟨rfl, Below.refl _ _⟩
  by_cases k3 : 3000 < m
  · clear hi hj hz
    go_enter Try.func5, Try.ntmps5
    go_wp2
    go_ret
    exact ⟨rfl, Below.refl _ _⟩
  have hmn : (m : Int) * ((n1 : Int) + (n2 : Int)) ≤ 600000000 := by
    have h1 : (m : Int) * ((n1 : Int) + (n2 : Int)) ≤ 3000 * ((n1 : Int) + (n2 : Int)) := Int.mul_le_mul_of_nonneg_right (by omega) (by omega)
    omega
  have hmn0 : 0 ≤ (m : Int) * ((n1 : Int) + (n2 : Int)) := Int.mul_nonneg (by omega) (by omega)
  by_cases k4 : 3000000 < (m : Int) * ((n1 : Int) + (n2 : Int))
  · clear hi hj hz
    go_enter Try.func5, Try.ntmps5
    go_wp2
    go_ret
    exact ⟨rfl, Below.refl _ _⟩
  have HI := hide hi
  have HJ := hide hj
  by_cases hb1 : n1 < 1 ∨ 4096 < n1
  · clear hi hj hz
    by_cases hb2 : n2 < 1 ∨ 4096 < n2
    · go_enter Try.func5, Try.ntmps5
      go_wp2_with (fail)
      refine (begun_bad ao n1 cap1 xs _ HI.out.len hb1 (by omega) HI.out.sl).mono ?_
      rintro e w1 ⟨rfl, hk1⟩
      have HK1 := hide hk1
      clear hk1
      go_wp2_with (fail)
      refine (begun_bad bo n2 cap2 ys _ HJ.out.len hb2 (by omega) (HJ.out.sl.kept HK1.out (by simp))).mono ?_
      rintro e w2 ⟨rfl, hk2⟩
      have HK2 := hide (HK1.out.trans hk2 (by simp))
      clear hk2
      go_wp2_with (go_at_call 13; refine (known_any _).mono ?_; rintro e wk ⟨rfl, hkk⟩)
      go_ret
      exact ⟨rfl, (HK2.out.trans hkk (by simp)).below (Nat.le_refl _) (by simp)⟩
    · go_enter Try.func5, Try.ntmps5
      go_wp2_with (fail)
      refine (begun_bad ao n1 cap1 xs _ HI.out.len hb1 (by omega) HI.out.sl).mono ?_
      rintro e w1 ⟨rfl, hk1⟩
      have HK1 := hide hk1
      clear hk1
      go_wp2_with (fail)
      refine (begun_ok bo n2 cap2 ys _ HJ.out.len (by omega) (by omega) (HJ.out.sl.kept HK1.out (by simp))).mono ?_
      rintro e w2 ⟨p2, g2, rfl, _, _, _, hk2⟩
      have HK2 := hide (HK1.out.trans hk2 (by simp))
      clear hk2
      go_wp2_with (go_at_call 13; refine (known_any _).mono ?_; rintro e wk ⟨rfl, hkk⟩)
      go_ret
      exact ⟨rfl, (HK2.out.trans hkk (by simp)).below (Nat.le_refl _) (by simp)⟩
  · by_cases hb2 : n2 < 1 ∨ 4096 < n2
    · clear hi hj hz
      go_enter Try.func5, Try.ntmps5
      go_wp2_with (fail)
      refine (begun_ok ao n1 cap1 xs _ HI.out.len (by omega) (by omega) HI.out.sl).mono ?_
      rintro e w1 ⟨p1, g1, rfl, _, _, _, hk1⟩
      have HK1 := hide hk1
      clear hk1
      go_wp2_with (fail)
      refine (begun_bad bo n2 cap2 ys _ HJ.out.len hb2 (by omega) (HJ.out.sl.kept HK1.out (by simp))).mono ?_
      rintro e w2 ⟨rfl, hk2⟩
      have HK2 := hide (HK1.out.trans hk2 (by simp))
      clear hk2
      go_wp2_with (go_at_call 13; refine (known_any _).mono ?_; rintro e wk ⟨rfl, hkk⟩)
      go_ret
      exact ⟨rfl, (HK2.out.trans hkk (by simp)).below (Nat.le_refl _) (by simp)⟩
    · exact (two_good ao bo co n1 cap1 n2 cap2 m cap3 xs ys zs w hi hj hz (by omega) (by omega) (by omega) (by omega) (by omega) k4).mono fun e w' ⟨he, hk⟩ => ⟨he, hk.below (Nat.le_refl _) (by simp)⟩

end Go.Proofs.Ytjfekdcghgpchaa
