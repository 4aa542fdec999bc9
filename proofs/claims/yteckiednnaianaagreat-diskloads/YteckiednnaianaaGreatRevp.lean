import Derived.Test.YteckiednnaianaaGreatIf0p
import Derived.Test.YteckiednnaianaaGreatRetp
namespace Go.Proofs.YteckiednnaianaaGreat
open Go.RowKit Dsk
set_option linter.unusedVariables false
set_option linter.unusedSimpArgs false
theorem units_mem {r : List Ch} {j : Nat} {c : Ch} (h : r[j]? = some c) : c.units ≤ unitsOf r := by
 induction r generalizing j with
 | nil => simp at h
 | cons x r ih =>
  cases j with
  | zero => simp only [List.getElem?_cons_zero, Option.some.injEq] at h; subst h; simp only [unitsOf]; omega
  | succ j => simp only [List.getElem?_cons_succ] at h; have := ih h; simp only [unitsOf]; omega
theorem RTh.relab2 {w w' : World} {o o' : Lab} {l b : Nat} {sv hv rv : Value} {R : List (Ch × Value)} {t : Th} (h' : RTh w' o l b sv hv rv R t) (ho : ∀ g, g < w.heap.size → o g = l → o' g = l) (h : RTh w o l b sv hv rv R t) : RTh w' o' l b sv hv rv R t :=
 ⟨h'.cells, h'.safe, h'.shown, h'.eq, h'.row, h'.data, ho b h.lt h.lb, fun g hg => ho g (h.safe.lt hg) (h.ls g hg), fun g hg => ho g (h.shown.lt hg) (h.lh g hg), fun g hg => ho g (h.row.lt g hg).2 (h.lr g hg), fun p hp g hg => ho g ((h.data p hp).lt hg) (h.ld p hp g hg)⟩
section
variable {w wb : World} {X : Nat} {S : Ds} {A B : Nat → Nat} {K : List Nat} {oN : Lab} {n : Nat} {oo mo : Option Addr} {oc mc : Nat} {sv : Value}
def TwinEnd (w w' : World) (X : Nat) (S : Ds) (A : Nat → Nat) (K : List Nat) (sv : Value) (e : Ending) : Prop := ∃ ov mv n, e = .returned (.tuple #[ov, mv]) ∧ (∃ oo oc, ov = .slice oo n oc) ∧ (∃ mo mc, mv = .slice mo n mc) ∧ ∃ B oN, Tws w w' X S A B K oN n ov mv sv
set_option maxHeartbeats 1600000 in
set_option maxRecDepth 100000 in
theorem twinNil_ok (h : Tws w wb X S A B K oN n (.slice oo n oc) (.slice mo n mc) sv) : Calls Tryz.prog 108 #[.slice oo n oc, .slice mo n mc, .pointer none] wb fun e w' => e = .returned (.tuple #[.slice oo n oc, .slice mo n mc]) ∧ w' = wb := by
 clear h
 go_enter Tryz.func108, Tryz.ntmps108
 go_wp2
 go_ret2
 exact ⟨rfl, rfl⟩
set_option maxHeartbeats 1600000 in
set_option maxRecDepth 100000 in
theorem twinSame_ok (h : Tws w wb X S A B K oN n (.slice oo n oc) (.slice mo n mc) sv) (hn : n ≤ 536870912) {k : Nat} (hk : k ∈ K) (hinj : ∀ j ∈ K, A j = A k → j = k) (hbl : ∀ j ∈ S.lives, ∃ cs, wb.heap[A j]? = some (.cells cs 78 (0, 0))) : Calls Tryz.prog 108 #[.slice oo n oc, .slice mo n mc, .pointer (some ⟨A k, 0, none⟩)] wb fun e w' => e = .returned (.tuple #[.slice oo n oc, .slice mo n mc]) ∧ w' = wb := by
 have hot := rother_walk oo mo n oc mc A B K (some ⟨A k, 0, none⟩) (some ⟨B k, 0, none⟩) wb h.len (by omega) (.inr ⟨k, hk, rfl, rfl, hinj⟩) h.old h.made (fun j hj => hbl j (h.sub j hj)) (fun a e => by injection e with e; subst e; obtain ⟨cs, hc⟩ := hbl k (h.sub k hk); exact ⟨cs, _, hc⟩)
 generalize A k = a0 at *
 generalize B k = b0 at *
 clear h hinj hk hbl
 go_enter Tryz.func108, Tryz.ntmps108
 go_wp2_with (go_at_call 109; refine hot.mono ?_; rintro e w' ⟨rfl, hw⟩; obtain rfl := hw.symm; clear hot)
 go_ret2
 exact ⟨rfl, rfl⟩
set_option maxHeartbeats 6400000 in
set_option maxRecDepth 100000 in
theorem twinNew_ok (h : Tws w wb X S A B K oN n (.slice oo n oc) (.slice mo n mc) sv) (hn : n ≤ 268435456) {k : Nat} (hk : k ∉ K) (hkl : k ∈ S.lives) (hne : ∀ j ∈ K, A j ≠ A k) {o : Lab} {l : Nat} (ht : Rg wb o l (A k) (S.th k)) (hb : (S.th k).safe.length + unitsOf (S.th k).row + (S.th k).row.length ≤ 268435456) (hok : (S.th k).ok) (hbl : ∀ j ∈ S.lives, ∃ cs, wb.heap[A j]? = some (.cells cs 78 (0, 0))) :
  Calls Tryz.prog 108 #[.slice oo n oc, .slice mo n mc, .pointer (some ⟨A k, 0, none⟩)] wb fun e w' => TwinEnd w w' X S A (K ++ [k]) sv e := by
 have hot := rother_walk oo mo n oc mc A B K (some ⟨A k, 0, none⟩) none wb h.len (by omega) (.inl ⟨rfl, fun j hj e => hne j hj (by injection e with e; injection e with e; exact e.symm)⟩) h.old h.made (fun j hj => hbl j (h.sub j hj)) (fun a e => by injection e with e; subst e; obtain ⟨cs, hc⟩ := hbl k hkl; exact ⟨cs, _, hc⟩)
 obtain ⟨s1, h1, r1, R1, ht⟩ := ht
 have hshl : (S.th k).shown.length ≤ 268435456 := by
  rw [hok.2]
  have := runs_len _ _ hok.1
  omega
 have hRl : R1.length = (S.th k).row.length := by rw [← ht.eq]; simp
 obtain ⟨so, sc, rfl, _⟩ := ht.safe.shape
 obtain ⟨ho, hc, rfl, _⟩ := ht.shown.shape
 obtain ⟨ro, rc, rfl, _⟩ := own_shape ht.row
 obtain ⟨rn, hrn⟩ : ∃ rn, R1.length = rn := ⟨_, rfl⟩
 obtain ⟨zs, hzs⟩ : ∃ zs, (S.th k).safe.length = zs := ⟨_, rfl⟩
 obtain ⟨zh, hzh⟩ : ∃ zh, (S.th k).shown.length = zh := ⟨_, rfl⟩
 have HC0 : Hid (∀ v, Kept [] wb v → _) := hide (fun v (hv : Kept [] wb v) => copiedB_ok (.slice so (S.th k).safe.length sc) (S.th k).safe.length (S.th k).safe v (ht.safe.kept hv) (by omega))
 have HC1 : Hid (∀ v, Kept [] wb v → _) := hide (fun v (hv : Kept [] wb v) => copiedB_ok (.slice ho (S.th k).shown.length hc) (S.th k).shown.length (S.th k).shown v (ht.shown.kept hv) (by omega))
 have t0 : wb.cell? ⟨A k, 0, none⟩ = some (.slice so (S.th k).safe.length sc) := by rw [cell_of_row wb _ 0 _ _ _ ht.cells]; rfl
 have t1 : wb.cell? ⟨A k, 1, none⟩ = some (.slice ho (S.th k).shown.length hc) := by rw [cell_of_row wb _ 1 _ _ _ ht.cells]; rfl
 have t2 : wb.cell? ⟨A k, 2, none⟩ = some (.slice ro R1.length rc) := by rw [cell_of_row wb _ 2 _ _ _ ht.cells]; rfl
 have hrow3 : ∀ (j : Nat) (p : Ch × Value), R1[j]? = some p → ∃ gr, ro = some ⟨gr, 0, none⟩ ∧ wb.cell? ⟨gr, j * 3, none⟩ = some (.bool (isCut p.1)) ∧ wb.cell? ⟨gr, j * 3 + 1, none⟩ = some (.int .i64 p.1.place) ∧ wb.cell? ⟨gr, j * 3 + 2, none⟩ = some p.2 := fun j p hj => by
  have hjl := (List.getElem?_eq_some_iff.1 hj).1
  obtain ⟨gr, e⟩ : ∃ gr, ro = some ⟨gr, 0, none⟩ := by
   rcases ht.row.2 with ⟨e, e2⟩ | ⟨gr, cap, cur, e, _⟩
   ·omega
   ·injection e with e _ _; exact ⟨gr, e⟩
  subst e
  refine ⟨gr, rfl, ?_, ?_, ?_⟩
  ·have := ht.row.cells (g := gr) rfl _ _ (chsV_at R1 j 0 p _ hj rfl); rw [add0, Nat.mul_comm] at this; exact this
  ·have := ht.row.cells (g := gr) rfl _ _ (chsV_at R1 j 1 p _ hj rfl); rw [add0, Nat.mul_comm] at this; exact this
  ·have := ht.row.cells (g := gr) rfl _ _ (chsV_at R1 j 2 p _ hj rfl); rw [add0, Nat.mul_comm] at this; exact this
 have HR3 := hide hrow3
 have HRD : Hid (∀ p ∈ R1, ChD wb p) := hide ht.data
 have HEQ : Hid (R1.map (·.1) = (S.th k).row) := hide ht.eq
 rw [hzs] at t0 HC0
 rw [hzh] at t1 HC1 hshl
 rw [hrn] at t2 hRl
 have HZS := hide hzs
 have HZH := hide hzh
 have HRN := hide hrn
 have HRL := hide hRl
 have HBD := hide hb
 have HW := hide h
 have HK := hide hk
 have HKL := hide hkl
 have HLM := hide h.rd.lim
 have hrnb : rn ≤ 268435456 := by omega
 have hzsb : zs ≤ 268435456 := by omega
 obtain ⟨a0, ha0⟩ : ∃ a0, A k = a0 := ⟨_, rfl⟩
 have HA0 := hide ha0
 rw [ha0] at t0 t1 t2 hot ⊢
 have HT2 := hide t2
 clear h hk hkl hne ht hb hok hbl hRl hrn hzs hzh hrow3 ha0 t2
 go_enter Tryz.func108, Tryz.ntmps108
 go_upto_region 3 with (go_at_call 109; refine hot.mono ?_; rintro e w' ⟨rfl, hw⟩; obtain rfl := hw.symm; clear hot)
 refine wp_region_late (fun w' => Kept [] wb w') (fun i => i == 99) (by kernel_rfl) ?_
 have h0 : Kept [] wb wb.drew := (Kept.refl [] wb).drew
 generalize World.drew wb = v0 at h0  ⊢
 refine wpAnyL_free (i := 0) (v := .pointer (some ⟨a0, 0, none⟩)) rfl (by kernel_rfl) (by kernel_rfl) (by kernel_rfl) (fun _ _ _ h => h) (Or.inl ⟨by rfl, fun w _ => by go_simp⟩) ?_
 try simp only [z1, z2, z3, z4, z5, z6, z7, z8]
 refine wpAnyL_free (i := 1) (v := .pointer (some ⟨a0, 0, none⟩)) rfl (by kernel_rfl) (by kernel_rfl) (by kernel_rfl) (fun _ _ _ h => h) (Or.inl ⟨by rfl, fun w _ => by go_simp⟩) ?_
 try simp only [z1, z2, z3, z4, z5, z6, z7, z8]
 refine wpAnyL_free (i := 2) (v := .pointer (some ⟨a0, 0, none⟩)) rfl (by kernel_rfl) (by kernel_rfl) (by kernel_rfl) (fun _ _ _ h => h) (Or.inl ⟨by rfl, fun w _ => by go_simp⟩) ?_
 try simp only [z1, z2, z3, z4, z5, z6, z7, z8]
 refine wpAnyL_take (i := 3) (v := .slice so zs sc) rfl (by kernel_rfl) (by kernel_rfl) (by kernel_rfl) (by kernel_rfl) (by kernel_rfl) (fun _ _ _ h => h) (Or.inl ⟨by rfl, fun w hSw => by have q0 := Kept.cellOf hSw t0 (by simp); go_simp⟩) h0 ?_
 try simp only [z1, z2, z3, z4, z5, z6, z7, z8]
 refine wpAnyL_free (i := 5) (v := .pointer (some ⟨a0, 0, none⟩)) rfl (by kernel_rfl) (by kernel_rfl) (by kernel_rfl) (fun _ _ _ h => h) (Or.inl ⟨by rfl, fun w _ => by go_simp⟩) ?_
 try simp only [z1, z2, z3, z4, z5, z6, z7, z8]
 refine wpAnyL_free (i := 6) (v := .pointer (some ⟨a0, 0, none⟩)) rfl (by kernel_rfl) (by kernel_rfl) (by kernel_rfl) (fun _ _ _ h => h) (Or.inl ⟨by rfl, fun w _ => by go_simp⟩) ?_
 try simp only [z1, z2, z3, z4, z5, z6, z7, z8]
 refine wpAnyL_free (i := 7) (v := .pointer (some ⟨a0, 1, none⟩)) rfl (by kernel_rfl) (by kernel_rfl) (by kernel_rfl) (fun _ _ _ h => h) (Or.inl ⟨by rfl, fun w _ => by go_simp⟩) ?_
 try simp only [z1, z2, z3, z4, z5, z6, z7, z8]
 refine wpAnyL_take (i := 8) (v := .slice ho zh hc) rfl (by kernel_rfl) (by kernel_rfl) (by kernel_rfl) (by kernel_rfl) (by kernel_rfl) (fun _ _ _ h => h) (Or.inl ⟨by rfl, fun w hSw => by have q0 := Kept.cellOf hSw t1 (by simp); go_simp⟩) h0 ?_
 try simp only [z1, z2, z3, z4, z5, z6, z7, z8]
 refine wpAnyL_one (i := 4) (by kernel_rfl) rfl (fun K hK => ?_)
 rw [if_pos (by rfl)]
 go_simp
 refine (HC0.out v0 h0).mono ?_
 rintro e w4 ⟨g4, c4, rfl, hr4, hk4, hg4⟩
 refine hK.out _ _ (fun _ _ => h0.trans hk4 (by simp)) ?_
 clear hK K
 try simp only [z1, z2, z3, z4, z5, z6, z7, z8]
 have h4 : Kept [] wb w4 := h0.trans hk4 (by simp)
 refine wpAnyL_one (i := 9) (by kernel_rfl) rfl (fun K hK => ?_)
 rw [if_pos (by rfl)]
 go_simp
 refine (HC1.out w4 h4).mono ?_
 rintro e w5 ⟨g5, c5, rfl, hr5, hk5, hg5⟩
 refine hK.out _ _ (fun _ _ => h4.trans hk5 (by simp)) ?_
 clear hK K
 try simp only [z1, z2, z3, z4, z5, z6, z7, z8]
 have h5 : Kept [] wb w5 := h4.trans hk5 (by simp)
 refine wpAnyL_free (i := 10) (v := .agg #[.slice (some ⟨g4, 0, none⟩) zs c4, .slice (some ⟨g5, 0, none⟩) zh c5, .slice none 0 0]) rfl (by kernel_rfl) (by kernel_rfl) (by kernel_rfl) (fun _ _ _ h => h) (Or.inl ⟨by rfl, fun w _ => by go_simp⟩) ?_
 try simp only [z1, z2, z3, z4, z5, z6, z7, z8]
 refine wpAnyL_one (i := 11) (by kernel_rfl) rfl (fun K hK => ?_)
 rw [if_pos (by rfl)]
 go_simp
 refine hK.out _ _ (fun _ _ => h5.alloc _) ?_
 clear hK K
 try simp only [z1, z2, z3, z4, z5, z6, z7, z8]
 refine wpAnyL_free (i := 12) (v := .pointer (some ⟨w5.heap.size, 0, none⟩)) rfl (by kernel_rfl) (by kernel_rfl) (by kernel_rfl) (fun _ _ _ h => h) (Or.inl ⟨by rfl, fun w _ => by go_simp⟩) ?_
 try simp only [z1, z2, z3, z4, z5, z6, z7, z8]
 refine wpAnyL_done (by kernel_rfl) ?_ _
 obtain ⟨w6, hw6⟩ : ∃ w6, w6 = w5.alloc (.cells #[.slice (some ⟨g4, 0, none⟩) zs c4, .slice (some ⟨g5, 0, none⟩) zh c5, .slice none 0 0] 78) := ⟨_, rfl⟩
 have hk6 : Kept [] w5 w6 := by rw [hw6]; exact (Kept.refl [] w5).alloc _
 have hb6 : w6.heap[w5.heap.size]? = some (.cells #[.slice (some ⟨g4, 0, none⟩) zs c4, .slice (some ⟨g5, 0, none⟩) zh c5, .slice none 0 0] 78 (0, 0)) := by rw [hw6]; exact (MapKept.heap_alloc w5 _).1
 have hs6 : w5.heap.size < w6.heap.size := by rw [hw6]; simp
 rw [← hw6]
 clear hw6
 have h6 : Kept [] wb w6 := h5.trans hk6 (by simp)
 have hn5 : wb.heap.size ≤ w5.heap.size := h5.size
 generalize w5.heap.size = bk at hb6 hs6 hn5 ⊢
 have HL0 : Hid (Kept [] wb w6 ∧ ∃ o1 : Lab, (∀ b, b < wb.heap.size → o1 b = oN b) ∧ (∀ b, o1 b ≠ 0 → b < w6.heap.size) ∧ RTh w6 o1 (k + 2) bk (.slice (some ⟨g4, 0, none⟩) zs c4) (.slice (some ⟨g5, 0, none⟩) zh c5) (.slice none 0 0) [] ⟨(S.th k).safe, (S.th k).row.take 0, (S.th k).shown⟩) := hide (by
  refine ⟨h6, oN.ext wb w6 (k + 2), fun b hb => Lab.ext_old hb, lim_ext2 HLM.out h6.size (Nat.le_refl _), ?_⟩
  have q4 : OwnB w6 (.slice (some ⟨g4, 0, none⟩) zs c4) zs (S.th k).safe := ((OwnB.of hr4).kept hk5).kept hk6
  have q5 : OwnB w6 (.slice (some ⟨g5, 0, none⟩) zh c5) zh (S.th k).shown := (OwnB.of hr5).kept hk6
  have l4 : ∀ g, (Value.slice (some ⟨g4, 0, none⟩) zs c4).ownBlock = some g → wb.heap.size ≤ g := fun g e => by simp only [Value.ownBlock] at e; injection e with e; rw [← e]; exact Nat.le_trans h0.size hg4
  have l5 : ∀ g, (Value.slice (some ⟨g5, 0, none⟩) zh c5).ownBlock = some g → wb.heap.size ≤ g := fun g e => by simp only [Value.ownBlock] at e; injection e with e; rw [← e]; exact Nat.le_trans h4.size hg5
  exact ⟨hb6, by rw [HZS.out]; exact q4, by rw [HZH.out]; exact q5, rfl, World.ownsRow_nil _ _ _ _, by simp, Lab.ext_new hn5 hs6, fun g hg => Lab.ext_new (l4 g hg) (q4.lt hg), fun g hg => Lab.ext_new (l5 g hg) (q5.lt hg), by simp [Value.ownBlock], by simp⟩)
 clear hr4 hr5 hg4 hg5 hk4 hk5 hk6 h0 h4 h5 h6 hb6 t0 t1 HC0 HC1
 go_wp2
 go_loopw [9, 10] (fun i _ wr => ∃ j : Nat, j ≤ rn ∧ i = .int .i64 j ∧ Hid (Kept [] wb wr ∧ ∃ o1 : Lab, (∀ b, b < wb.heap.size → o1 b = oN b) ∧ (∀ b, o1 b ≠ 0 → b < wr.heap.size) ∧ ∃ xo xc R, R.length = j ∧ (∀ x, (Value.slice xo j xc).ownBlock = some x → wb.heap.size ≤ x) ∧ RTh wr o1 (k + 2) bk (.slice (some ⟨g4, 0, none⟩) zs c4) (.slice (some ⟨g5, 0, none⟩) zh c5) (.slice xo j xc) R ⟨(S.th k).safe, (S.th k).row.take j, (S.th k).shown⟩)) (fun i _ wr => rn - (intOf i).toNat)
 case atStart =>
  refine ⟨0, by omega, rfl, hide ?_⟩
  obtain ⟨q1, o1, q2, q3, q4⟩ := HL0.out
  exact ⟨q1, o1, q2, q3, none, 0, [], rfl, by simp [Value.ownBlock], q4⟩
 case round =>
  clear HL0
  obtain ⟨j, hj, rfl, HQ⟩ := hrel
  obtain ⟨hkl', o1, ho1, hl1, xo, xc, R, hRj, hrlt, hth⟩ := HQ.out
  clear HQ
  have t2 := hkl'.cellOf HT2.out (by simp)
  by_cases hlt : j < rn
  ·obtain ⟨⟨c, dv⟩, hck⟩ : ∃ p, R1[j]? = some p := ⟨R1[j]'(by rw [HRN.out]; exact hlt), List.getElem?_eq_getElem _⟩
   obtain ⟨gr, rfl, r0, r1', r2⟩ := HR3.out j _ hck
   replace r0 := hkl'.cellOf r0 (by simp)
   replace r1' := hkl'.cellOf r1' (by simp)
   replace r2 := hkl'.cellOf r2 (by simp)
   have hrc : (S.th k).row[j]? = some c := by rw [← HEQ.out]; simp [hck]
   have hts : (S.th k).row.take (j + 1) = (S.th k).row.take j ++ [c] := by rw [List.take_add_one, hrc]; rfl
   have hdl := (HRD.out _ (List.mem_of_getElem? hck)).keep (Keep.ofNone (F := fun _ => False) hkl') (fun _ _ h => h)
   obtain ⟨dO, dc, e, _⟩ := OwnB.shape (show OwnB wr dv (chD c).length (chD c) from hdl)
   subst e
   obtain ⟨zd, hzd⟩ : ∃ zd, (chD c).length = zd := ⟨_, rfl⟩
   have hzdb : zd ≤ 268435456 := by
    have h1 := units_mem hrc
    have h2 : (chD c).length ≤ c.units := by cases c <;> simp [chD, Ch.units]
    have := HBD.out
    omega
   rw [hzd] at r2
   simp only at r0 r1' r2
   obtain ⟨wC, hwC⟩ : ∃ wC, wC = wr.alloc (.cells #[.bool (isCut c), .int .i64 c.place, .slice dO zd dc] 143) := ⟨_, rfl⟩
   have hkC : Kept [] wr wC := by rw [hwC]; exact (Kept.refl [] wr).alloc _
   have hbC : wC.heap[wr.heap.size]? = some (.cells #[.bool (isCut c), .int .i64 c.place, .slice dO zd dc] 143 (0, 0)) := by rw [hwC]; exact (MapKept.heap_alloc wr _).1
   have hdC : OwnB wC (.slice dO zd dc) zd (chD c) := by
    have : OwnB wr (.slice dO (chD c).length dc) (chD c).length (chD c) := hdl
    rw [hzd] at this
    exact this.kept hkC
   have hcp := copiedB_ok (.slice dO zd dc) zd (chD c) wC hdC (by omega)
   have x2 : wC.cell? ⟨wr.heap.size, 2, none⟩ = some (.slice dO zd dc) := by rw [cell_of_row wC _ 2 _ _ _ hbC]; rfl
   have hCs : wr.heap.size < wC.heap.size := by rw [hwC]; simp
   have HSTEP : Hid (∀ g8 c8 w8, w8.ownsRow 0 5 1 (.slice (some ⟨g8, 0, none⟩) zd c8) zd (bys (chD c)) → Kept [] wC w8 → wC.heap.size ≤ g8 → ∃ gA cA wA, (Builtin.append_ #[76, 76] 76 #[.slice xo j xc, .slice (some ⟨(w8.setCell ⟨wr.heap.size, 2, none⟩ (.slice (some ⟨g8, 0, none⟩) zd c8)).drew.heap.size, 0, none⟩) 1 1]).run Tryz.prog ((w8.setCell ⟨wr.heap.size, 2, none⟩ (.slice (some ⟨g8, 0, none⟩) zd c8)).drew.alloc (.cells #[.bool (isCut c), .int .i64 c.place, .slice (some ⟨g8, 0, none⟩) zd c8] 143)) = .ok (.slice (some ⟨gA, 0, none⟩) (j + 1) cA) wA ∧ wA.cell? ⟨bk, 2, none⟩ = some (.slice xo j xc) ∧ wA.frozen? ⟨bk, 2, none⟩ = false ∧ w8.cell? ⟨wr.heap.size, 2, none⟩ = some (.slice dO zd dc) ∧ w8.frozen? ⟨wr.heap.size, 2, none⟩ = false ∧ (w8.setCell ⟨wr.heap.size, 2, none⟩ (.slice (some ⟨g8, 0, none⟩) zd c8)).cell? ⟨bk, 2, none⟩ = some (.slice xo j xc) ∧ (w8.setCell ⟨wr.heap.size, 2, none⟩ (.slice (some ⟨g8, 0, none⟩) zd c8)).heap[wr.heap.size]? = some (.cells #[.bool (isCut c), .int .i64 c.place, .slice (some ⟨g8, 0, none⟩) zd c8] 143 (0, 0)) ∧ (Kept [] wb (wA.setCell ⟨bk, 2, none⟩ (.slice (some ⟨gA, 0, none⟩) (j + 1) cA)) ∧ ∃ o2 : Lab, (∀ b, b < wb.heap.size → o2 b = oN b) ∧ (∀ b, o2 b ≠ 0 → b < (wA.setCell ⟨bk, 2, none⟩ (.slice (some ⟨gA, 0, none⟩) (j + 1) cA)).heap.size) ∧ ∃ xo xc R, R.length = j + 1 ∧ (∀ x, (Value.slice xo (j + 1) xc).ownBlock = some x → wb.heap.size ≤ x) ∧ RTh (wA.setCell ⟨bk, 2, none⟩ (.slice (some ⟨gA, 0, none⟩) (j + 1) cA)) o2 (k + 2) bk (.slice (some ⟨g4, 0, none⟩) zs c4) (.slice (some ⟨g5, 0, none⟩) zh c5) (.slice xo (j + 1) xc) R ⟨(S.th k).safe, (S.th k).row.take (j + 1), (S.th k).shown⟩)) := hide (fun g8 c8 w8 a1 a2 a3 => by
    have hb8 := (Keep.ofNone (F := fun _ => False) a2).heapOf hbC (fun h => h)
    have hkl8 : Kept [] wr w8 := hkC.trans a2 (by simp)
    have hk9 : Kept [] wr (w8.setCell ⟨wr.heap.size, 2, none⟩ (.slice (some ⟨g8, 0, none⟩) zd c8)) := hkl8.setCell (p := ⟨wr.heap.size, 2, none⟩) (fun hlt => by simp at hlt) _
    have hk9d := hk9.drew
    have hb9 : (w8.setCell ⟨wr.heap.size, 2, none⟩ (.slice (some ⟨g8, 0, none⟩) zd c8)).heap[wr.heap.size]? = some (.cells #[.bool (isCut c), .int .i64 c.place, .slice (some ⟨g8, 0, none⟩) zd c8] 143 (0, 0)) := by rw [heap_setCell_same _ _ 2 _ _ _ hb8]; simp
    have hd8 : OwnB w8 (.slice (some ⟨g8, 0, none⟩) zd c8) zd (chD c) := OwnB.of a1
    have hd9 : OwnB (w8.setCell ⟨wr.heap.size, 2, none⟩ (.slice (some ⟨g8, 0, none⟩) zd c8)).drew (.slice (some ⟨g8, 0, none⟩) zd c8) zd (chD c) := (hd8.keep (((Keep.refl (· = wr.heap.size) w8).setCell (p := ⟨wr.heap.size, 2, none⟩) (fun _ => rfl) _).drew) (fun g hg e => hd8.ne hb8 (by decide) (by rw [hg, show g = wr.heap.size from e])))
    have hth9 : RTh (w8.setCell ⟨wr.heap.size, 2, none⟩ (.slice (some ⟨g8, 0, none⟩) zd c8)).drew (o1.ext wr w8 (k + 2)) (k + 2) bk (.slice (some ⟨g4, 0, none⟩) zs c4) (.slice (some ⟨g5, 0, none⟩) zh c5) (.slice xo j xc) R ⟨(S.th k).safe, (S.th k).row.take j, (S.th k).shown⟩ :=
     (hth.keep (Keep.ofNone (F := fun _ => False) hk9d) (fun _ _ h => h)).relab2 (fun g hg e => by rw [Lab.ext_old hg]; exact e) hth
    obtain ⟨gA, cA, wA, p1, p2, p3, p4, p5, p6, p7⟩ := hth9.addRow hRj (by omega) c (.slice (some ⟨g8, 0, none⟩) zd c8) (by show OwnB _ _ (chD c).length (chD c); rw [hzd]; exact hd9) (fun g hg => by
     refine Lab.ext_new ?_ (hd8.lt hg)
     simp only [Value.ownBlock] at hg
     injection hg with hg
     rw [← hg]; omega) rfl
    have hbkl : wb.heap.size ≤ bk := hn5
    refine ⟨gA, cA, wA, p1, p2, p3, by rw [cell_of_row w8 _ 2 _ _ _ hb8]; rfl, frozen_of_row _ _ _ _ _ hb8, ?_, hb9, ?_, (o1.ext wr w8 (k + 2)).ext _ wA (k + 2), fun b hb => ?_, ?_, some ⟨gA, 0, none⟩, cA, R ++ [(c, .slice (some ⟨g8, 0, none⟩) zd c8)], by simp [hRj], fun x e => by
     simp only [Value.ownBlock, Option.some.injEq] at e
     subst e
     rcases p7 with e' | e'
     ·exact hrlt _ e'.symm
     ·have := hkl'.size; have := hk9d.size; omega, by rw [hts]; exact p4⟩
    ·exact hk9.cellOf (by rw [cell_of_row wr _ 2 _ _ _ hth.cells]; rfl) (by simp)
    ·have hkw9 := hkl'.trans hk9d (by simp)
     exact ⟨p5.os.trans hkw9.os, p5.tape.trans hkw9.tape, p5.output.trans hkw9.output, Nat.le_trans hkw9.size p5.size, fun b hb _ => (p5.block b (Nat.lt_of_lt_of_le hb hkw9.size) (fun e => by
      rcases e with e | e
      ·omega
      ·have := hrlt b e; omega)).trans (hkw9.block b hb (by simp))⟩
    ·have hb1 : b < wr.heap.size := Nat.lt_of_lt_of_le hb hkl'.size
     rw [Lab.ext_old (show b < (w8.setCell _ _).drew.heap.size from Nat.lt_of_lt_of_le hb1 hk9d.size), Lab.ext_old hb1]
     exact ho1 b hb
    ·exact lim_ext2 (lim_ext2 hl1 hkl8.size (by show w8.heap.size ≤ (w8.setCell _ _).heap.size; simp [World.setCell])) (by have := p5.size; rw [p6]; exact this) (by rw [p6]; exact Nat.le_refl _))
   obtain ⟨C, hC⟩ : ∃ C, C = wr.heap.size := ⟨_, rfl⟩
   rw [← hC] at x2 HSTEP hCs
   generalize isCut c = ic at r0 HSTEP hwC
   generalize c.place = pl at r1' HSTEP hwC
   clear hck hrc hts hdl hzd hkC hbC hdC hth hl1 ho1 hRj hrlt
   go_upto_region 8 with (fail)
   rw [← hwC, ← hC]
   clear hwC hC r0 r1' r2
   go_upto_region 9 with (go_at_call 20; refine hcp.mono ?_; rintro e w8 ⟨g8, c8, rfl, a1, a2, a3⟩; obtain ⟨gA, cA, wA, hap, p2, p3, z2, f2, y2, hb9, hfin⟩ := HSTEP.out g8 c8 w8 a1 a2 a3; have HFIN := hide hfin; have HB9 := hide hb9; clear hcp a1 a2 a3 hfin hb9 x2)
   clear z2 f2
   have hb9 := HB9.out
   generalize w8.setCell _ _ = w9 at hap y2 hb9 ⊢
   have x0 := cell_of_row w9 _ 0 _ _ _ hb9
   have x1 := cell_of_row w9 _ 1 _ _ _ hb9
   have x2 := cell_of_row w9 _ 2 _ _ _ hb9
   simp only [List.getElem?_toArray, List.getElem?_cons_zero, List.getElem?_cons_succ] at x0 x1 x2
   clear hb9 HB9 HSTEP t2
   refine wp_region_late (fun w' => Kept [] w9 w') (fun i => i == 7 || i == 10) (by kernel_rfl) ?_
   have h9 : Kept [] w9 w9.drew := (Kept.refl [] w9).drew
   generalize World.drew w9 = v9 at h9 hap HFIN ⊢
   refine wpAnyL_free (i := 0) (v := .pointer (some ⟨bk, 0, none⟩)) rfl (by kernel_rfl) (by kernel_rfl) (by kernel_rfl) (fun _ _ _ h => h) (Or.inl ⟨by rfl, fun w _ => by go_simp⟩) ?_
   try simp only [z1, z2, z3, z4, z5, z6, z7, z8]
   refine wpAnyL_free (i := 1) (v := .pointer (some ⟨bk, 0, none⟩)) rfl (by kernel_rfl) (by kernel_rfl) (by kernel_rfl) (fun _ _ _ h => h) (Or.inl ⟨by rfl, fun w _ => by go_simp⟩) ?_
   try simp only [z1, z2, z3, z4, z5, z6, z7, z8]
   refine wpAnyL_free (i := 2) (v := .pointer (some ⟨bk, 0, none⟩)) rfl (by kernel_rfl) (by kernel_rfl) (by kernel_rfl) (fun _ _ _ h => h) (Or.inl ⟨by rfl, fun w _ => by go_simp⟩) ?_
   try simp only [z1, z2, z3, z4, z5, z6, z7, z8]
   refine wpAnyL_free (i := 3) (v := .pointer (some ⟨bk, 2, none⟩)) rfl (by kernel_rfl) (by kernel_rfl) (by kernel_rfl) (fun _ _ _ h => h) (Or.inl ⟨by rfl, fun w _ => by go_simp⟩) ?_
   try simp only [z1, z2, z3, z4, z5, z6, z7, z8]
   refine wpAnyL_take (i := 4) (v := .slice xo j xc) rfl (by kernel_rfl) (by kernel_rfl) (by kernel_rfl) (by kernel_rfl) (by kernel_rfl) (fun _ _ _ h => h) (Or.inl ⟨by rfl, fun w hSw => by have q0 := Kept.cellOf hSw y2 (by simp); go_simp⟩) h9 ?_
   try simp only [z1, z2, z3, z4, z5, z6, z7, z8]
   refine wpAnyL_take (i := 5) (v := .agg #[.bool ic, .int .i64 pl, .slice (some ⟨g8, 0, none⟩) zd c8]) rfl (by kernel_rfl) (by kernel_rfl) (by kernel_rfl) (by kernel_rfl) (by kernel_rfl) (fun _ _ _ h => h) (Or.inl ⟨by rfl, fun w hSw => by have q0 := Kept.cellOf hSw x0 (by simp); have q1 := Kept.cellOf hSw x1 (by simp); have q2 := Kept.cellOf hSw x2 (by simp); go_simp⟩) h9 ?_
   try simp only [z1, z2, z3, z4, z5, z6, z7, z8]
   refine wpAnyL_one (i := 6) (by kernel_rfl) rfl (fun K hK => ?_)
   rw [if_pos (by rfl)]
   go_simp
   refine hK.out _ _ (fun _ _ => h9.alloc _) ?_
   clear hK K
   try simp only [z1, z2, z3, z4, z5, z6, z7, z8]
   refine wpAnyL_one (i := 7) (by kernel_rfl) rfl (fun K hK => ?_)
   rw [if_pos (by rfl)]
   refine wp_append_run (.tmp 58) (.tmp 60) 76 76 rfl (.slice xo j xc) (.slice (some ⟨v9.heap.size, 0, none⟩) 1 1) rfl rfl (.slice (some ⟨gA, 0, none⟩) (j + 1) cA) wA hap ?_
   refine hK.out _ _ (fun _ h => by cases h) ?_
   clear hK K
   try simp only [z1, z2, z3, z4, z5, z6, z7, z8]
   refine wpAnyL_free (i := 8) (v := .pointer (some ⟨bk, 0, none⟩)) rfl (by kernel_rfl) (by kernel_rfl) (by kernel_rfl) (fun _ _ _ h => h) (Or.inl ⟨by rfl, fun w _ => by go_simp⟩) ?_
   try simp only [z1, z2, z3, z4, z5, z6, z7, z8]
   refine wpAnyL_free (i := 9) (v := .pointer (some ⟨bk, 2, none⟩)) rfl (by kernel_rfl) (by kernel_rfl) (by kernel_rfl) (fun _ _ _ h => h) (Or.inl ⟨by rfl, fun w _ => by go_simp⟩) ?_
   try simp only [z1, z2, z3, z4, z5, z6, z7, z8]
   refine wpAnyL_one (i := 10) (by kernel_rfl) rfl (fun K hK => ?_)
   rw [if_pos (by rfl)]
   go_simp
   refine hK.out _ _ (fun _ h => by cases h) ?_
   clear hK K
   try simp only [z1, z2, z3, z4, z5, z6, z7, z8]
   refine wpAnyL_done (by kernel_rfl) ?_ _
   go_wp2
   go_roundw
   case rel => exact ⟨j + 1, by omega, by go_num, HFIN⟩
   case measure => simp [intOf]; omega
  ·have hjr : j = rn := by omega
   have htt : (⟨(S.th k).safe, (S.th k).row.take j, (S.th k).shown⟩ : Th) = S.th k := by rw [List.take_of_length_le (by rw [← HRL.out]; omega)]
   rw [htt] at hth
   obtain ⟨g1, c1, w1, e1, g2, c2, w2, e2, hT⟩ := HW.out.push HK.out HKL.out (by omega) hkl' ho1 hl1 ⟨_, _, _, _, hth⟩
   rw [HA0.out] at e1
   have HT := hide hT
   clear hth htt hT hkl' ho1 hl1 hrlt
   go_wp2_with (first
    | (at_builtin; have Ha := e1; refine wpList_app_run rfl _ _ 179 179 rfl _ _ rfl rfl _ _ e1 ?_; clear Ha e1)
    | (at_builtin; refine wpList_app_run rfl _ _ 179 179 rfl _ _ rfl rfl _ _ e2 ?_))
   go_ret2
   exact ⟨_, _, n + 1, rfl, ⟨_, _, rfl⟩, ⟨_, _, rfl⟩, _, _, HT.out⟩
end
end Go.Proofs.YteckiednnaianaaGreat
