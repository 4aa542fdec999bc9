import Derived.Test.YtngaimahhgmciabGreatDoorK9cv
import Derived.Deep.RegionHeld
namespace Go.Proofs.YtngaimahhgmciabGreatDoor
section
open Go.RowKit Go.Lib Go.Sort
set_option linter.unusedVariables false
set_option linter.unusedSimpArgs false

theorem idz_of {w : World} {g : Nat} {L : List (List UInt8)} (h : Ids w (some ⟨g, 0, none⟩) L) : ∃ M : List I32, M.map (·.xs) = L ∧ M.length = L.length ∧ Idz w (some ⟨g, 0, none⟩) M := by
  have hx : ∀ L : List (List UInt8), (∀ i ∈ L, i.length = 32) → ∃ M : List I32, M.map (·.xs) = L := fun L => by
    induction L with
    | nil => exact fun _ => ⟨[], rfl⟩
    | cons a r ih =>
      intro h
      obtain ⟨M, hM⟩ := ih (fun x hx => h x (by simp [hx]))
      exact ⟨⟨a, h a (by simp)⟩ :: M, by simp [hM]⟩
  obtain ⟨M, hM⟩ := hx L h.2
  have hl : M.length = L.length := by rw [← hM]; simp
  refine ⟨M, hM, hl, fun i hi => ?_⟩
  obtain ⟨b, off, e, hr⟩ := h.1 i (by omega)
  refine ⟨b, off, e, ?_⟩
  have : L.getD i [] = (M.getD i i320).xs := by rw [← hM]; simp [List.getElem?_eq_getElem hi]
  rw [this] at hr
  exact hr

theorem ids_of {w : World} {g : Nat} {M : List I32} (h : Idz w (some ⟨g, 0, none⟩) M) : Ids w (some ⟨g, 0, none⟩) (M.map (·.xs)) := by
  refine ⟨fun k hk => ?_, fun i hi => ?_⟩
  · have hk' : k < M.length := by simpa using hk
    obtain ⟨b, off, e, hr⟩ := h k hk'
    refine ⟨b, off, e, ?_⟩
    have : (M.map (·.xs)).getD k [] = (M.getD k i320).xs := by simp [List.getElem?_eq_getElem hk']
    rw [this]
    exact hr
  · obtain ⟨x, _, rfl⟩ := List.mem_map.1 hi
    exact x.h

theorem OwnI.row {w : World} {base g n cap : Nat} {L : List (List UInt8)} (h : OwnI w base (.slice (some ⟨g, 0, none⟩) n cap) L) : ∃ cur, w.heap[g]? = some (.cells cur 36 (0, 0)) ∧ n = L.length ∧ n ≤ cap ∧ cap ≤ maxLen ∧ cur.size = cap * 32 ∧ base ≤ g ∧ cur.toList.take (L.length * 32) = idrows L := by
  rcases h.1.2 with ⟨h0, _⟩ | ⟨g', cap', cur, hv, hb, hg, hn, hc, hs, ht⟩
  · cases h0
  · cases hv
    exact ⟨cur, hg, rfl, hn, hc, hs, hb, ht⟩

theorem there_row {w : World} {g n : Nat} {cur : Array Value} {t : TypeId} (hg : w.heap[g]? = some (.cells cur t (0, 0))) (hn : n ≤ cur.size) : w.there g 0 n := fun j hj => ⟨by rw [cell_of_row _ _ _ _ _ _ hg, Nat.zero_add, Array.getElem?_eq_getElem (by omega)]; rfl, frozen_of_row _ _ _ _ _ hg⟩

/-- A row whose block is still a row of as many cells, with these ids at its head. -/
theorem OwnI.again {w w' : World} {base g cap : Nat} {L R : List (List UInt8)} (h : OwnI w base (.slice (some ⟨g, 0, none⟩) L.length cap) L) (hk : Kept [g] w w') (hl : R.length = L.length) (hR : Ids w' (some ⟨g, 0, none⟩) R) (hrow : ∃ cur, w'.heap[g]? = some (.cells cur 36 (0, 0)) ∧ cur.size = cap * 32) : OwnI w' base (.slice (some ⟨g, 0, none⟩) R.length cap) R := by
  obtain ⟨cur0, hg0, _, hn, hm, hs0, hb, ht0⟩ := h.row
  obtain ⟨cur, hg, hs⟩ := hrow
  refine ⟨⟨idrows_len hR.2, .inr ⟨g, cap, cur, rfl, hb, hg, by omega, hm, hs, ?_⟩⟩, hR.2⟩
  apply List.ext_getElem?
  intro q
  rw [List.getElem?_take]
  by_cases hq : q < R.length * 32
  · rw [if_pos hq]
    have hk1 : q / 32 < R.length := Nat.div_lt_of_lt_mul (by omega)
    have h32 := hR.2 _ (getD_memI hk1)
    have e1 := idrows_at hR.2 (j := q % 32) hk1 (by omega)
    rw [show q / 32 * 32 + q % 32 = q by omega] at e1
    rw [e1]
    obtain ⟨b, off, e, hr⟩ := hR.1 _ hk1
    cases e
    have hq2 : q % 32 < (bys (R.getD (q / 32) [])).length := by rw [bys_length, h32]; omega
    have := hr (q % 32) _ (List.getElem?_eq_getElem hq2)
    rw [cell_of_row _ _ _ _ _ _ hg, Nat.zero_add, show q / 32 * 32 + q % 32 = q by omega] at this
    rw [List.getElem?_eq_getElem hq2, ← this]
    simp
  · rw [if_neg hq, List.getElem?_eq_none (by rw [idrows_len hR.2]; omega)]

theorem row_src {w : World} {g : Nat} {cs : List Value} {t : TypeId} (h : w.heap[g]? = some (.cells cs.toArray t (0, 0))) : ∀ (j : Nat) (u : Value), cs[j]? = some u → w.cell? ((⟨g, 0, none⟩ : Addr).add j) = some u := fun j u hu => by
  rw [Addr.add_mid, Nat.zero_add, cell_of_row _ _ _ _ _ _ h]; simpa using hu

theorem zip_fst (K : List (List UInt8)) : (K.zip (K.map fun _ => unitv)).map (·.1) = K := by
  induction K with
  | nil => rfl
  | cons a r ih => simp only [List.map_cons, List.zip_cons_cons, ih]

set_option maxHeartbeats 1600000 in
set_option maxRecDepth 100000 in
theorem rising_ok (b : Nat) (K : List (List UInt8)) (w : World) (hs : Is w b K) (hn : K.length ≤ 4398046511104) :
    Calls Tryz.prog 25 #[.map (some b)] w fun e w' => ∃ v R, e = .returned v ∧ OwnI w' w.heap.size v R ∧ R.Perm K ∧ Up R ∧ Kept [] w w' := by
  obtain ⟨i0, hi0, hz0, hz1, hz2⟩ := info_parts Tryz.infoIdx
  have hlen := hs.size Tryz.underlying77 3
  have HS := hide hs
  have HND := hide hs.nodup
  have H32 := hide (Im.ids hs)
  have hz := Tryz.zeroId
  obtain ⟨n, hnn⟩ : ∃ n, K.length = n := ⟨_, rfl⟩
  have HN := hide hnn
  rw [hnn] at hlen hn
  clear hs hnn
  go_enter Tryz.func25, Tryz.ntmps25
  go_upto_region 2 with (first
    | refine wpList_lenI rfl 77 (.tmp 5) rfl _ rfl _ _ hlen ?_
    | refine wpList_make_own _ rfl _ _ 28 rfl w.heap.size 36 i0 (.agg zeroI) 32 Tryz.underlying28 hi0 hz0 hz1 .i64 .i64 _ n rfl rfl rfl (by rw [hz2]; omega) (by unfold maxLen; omega) (Nat.le_refl _) ?_)
  intro w1 hown hgrow
  have HK1 : Hid (Kept [] w w1) := hide ((Kept.refl [] w).grown hgrow (by simp))
  have HO1 : Hid (OwnI w1 w.heap.size (.slice (some ⟨w.heap.size, 0, none⟩) 0 n) []) := hide ⟨hown, by simp⟩
  obtain ⟨g, hg⟩ : ∃ g, w.heap.size = g := ⟨_, rfl⟩
  have HG : Hid (w.heap.size = g) := hide hg
  rw [hg] at HO1 ⊢
  clear hown hgrow hg hlen
  obtain ⟨w2, hrr, hk2, hir⟩ := (HS.out.kept HK1.out (by simp)).range Tryz.underlying77
  have HK2 := hide (HK1.out.trans hk2 (by simp))
  have HO2 : Hid (OwnI w2 g (.slice (some ⟨g, 0, none⟩) 0 n) []) := hide (HO1.out.kept hk2 (by simp))
  have HI2 := hide hir
  obtain ⟨r, hr⟩ : ∃ r, w1.heap.size = r := ⟨_, rfl⟩
  have HR : Hid (w.heap.size ≤ r) := hide (by rw [← hr]; exact HK1.out.size)
  have HRG : Hid (g < r) := hide (by rw [← hr]; obtain ⟨cur, hh, _⟩ := HO1.out.row; exact (Array.getElem?_eq_some_iff.1 hh).1)
  rw [hr] at hrr HI2
  clear hk2 hir hr HK1 HO1
  go_wp2_with (refine wpList_rangeI rfl 77 (.tmp 8) rfl _ rfl _ _ hrr ?_)
  clear hrr
  go_frame
  go_loopw [3] (fun v wr => ∃ (got : List (List UInt8)) (left : List (List UInt8 × Value)), v = .slice (some ⟨g, 0, none⟩) got.length n ∧ Hid (OwnI wr g v got ∧ Ir wr b r K (K.map fun _ => unitv) left ∧ (got ++ left.map (·.1)).Perm K ∧ Kept [] w wr)) (fun v wr => wr.rangeLeft b r)
  case atStart => exact ⟨[], _, rfl, hide ⟨HO2.out, HI2.out, by rw [List.nil_append, zip_fst], HK2.out⟩⟩
  case round =>
    clear HO2 HI2 HK2
    obtain ⟨got, left, rfl, HI⟩ := hrel
    have HM : Hid (got.length = got.length) := hide rfl
    rcases HI.out.2.1.next 0 with ⟨hl, hnx⟩ | ⟨j, p, w3, hj, hnx, hk3, hs3, hi3, hen⟩
    · have hgp : got.Perm K := by have := HI.out.2.2.1; rw [hl] at this; simpa using this
      have hmn : got.length = n := by rw [← HM.out, ← HN.out]; exact hgp.length_eq
      have HGP := hide hgp
      obtain ⟨hids, _, _⟩ := HI.out.1.ids
      obtain ⟨cur, hcur, _, _, _, hcs, _, _⟩ := HI.out.1.row
      obtain ⟨M, hM, hMl, hMz⟩ := idz_of hids
      have HMM := hide hM
      have hst := isort_ok g n got.length M wr hMl hMz (there_row hcur (by rw [hcs]; omega)) (Array.getElem?_eq_some_iff.1 hcur).1 (by omega)
      have HCU := hide (And.intro hcur hcs)
      clear hl hgp hids hcur hcs hM hMl hMz hmn
      go_wp2_with (first
        | refine wpList_nextI rfl (.tmp 9) rfl _ rfl _ _ hnx ?_
        | (go_at_call 35; refine hst.mono ?_; rintro e w5 ⟨rfl, M2, hp2, hs2, hz2, ht2, hk5, hsh⟩; have H5 := hide (And.intro hp2 (And.intro hs2 (And.intro (ids_of hz2) (And.intro hk5 hsh)))); clear hst hp2 hs2 hz2 ht2 hk5 hsh hnx))
      go_ret
      obtain ⟨hp2, hs2, hi2, hk5, hsh⟩ := H5.out
      have hpm : (M2.map (·.xs)).Perm got := by rw [← HMM.out]; exact hp2.map _
      have hpk := hpm.trans HGP.out
      obtain ⟨cur', hc1, hc2⟩ := hsh _ _ _ HCU.out.1
      have hln : (M2.map (·.xs)).length = got.length := hpm.length_eq
      have hag := OwnI.again (L := got) (R := M2.map (·.xs)) HI.out.1 hk5 hln hi2 ⟨cur', hc1, by rw [hc2]; exact HCU.out.2⟩
      rw [hln] at hag
      refine ⟨_, M2.map (·.xs), rfl, ?_, hpk, up_of_sorted hs2 (hpk.nodup_iff.2 HND.out), HI.out.2.2.2.trans hk5 (fun i hi hlt => by simp at hi; have := HG.out; omega)⟩
      have := HG.out
      rw [this]
      exact hag
    · have hpl : p.1.length = 32 := by
        have : p.1 ∈ got ++ left.map (·.1) := List.mem_append_right _ (List.mem_map_of_mem (List.mem_of_getElem? hj))
        exact H32.out _ (HI.out.2.2.1.mem_iff.1 this)
      obtain ⟨i, u⟩ := p
      simp only at hpl hnx hen
      have HP3 : Hid (((got ++ [i]) ++ (left.eraseIdx j).map (·.1)).Perm K) := hide (by
        have h1 := perm_erase hj
        have h2 := (h1.map (·.1)).append_left got
        simp only [List.map_cons] at h2
        rw [List.append_assoc]
        exact h2.symm.trans HI.out.2.2.1)
      have hmn : got.length < n := by
        have := HP3.out.length_eq
        simp only [List.length_append, List.length_cons, List.length_nil] at this
        have h1 := HM.out
        have h2 := HN.out
        omega
      have hgr : g ≠ r := by have := HRG.out; omega
      have HI3 : Hid (OwnI w3 g (.slice (some ⟨g, 0, none⟩) got.length n) got ∧ Ir w3 b r K (K.map fun _ => unitv) (left.eraseIdx j) ∧ Kept [] w w3) := hide ⟨HI.out.1.kept hk3 (fun q hq => by simp [Value.ownBlock] at hq; subst hq; simpa using hgr), hi3, HI.out.2.2.2.trans hk3 (fun q hq hlt => by simp at hq; have := HR.out; omega)⟩
      have HLT : Hid (w3.rangeLeft b r < wr.rangeLeft b r) := hide (by
        rw [hi3.meas, HI.out.2.1.meas, List.length_eraseIdx]
        have := (List.getElem?_eq_some_iff.1 hj).1
        rw [if_pos this]
        omega)
      clear hk3 hs3 hi3 hj HI hgr
      have hil := idl i hpl
      have hia := ida i hpl
      have hiz := idz i hpl
      have hal := idall i
      have hnz := new_atK w3 (.cells zeroI 36)
      go_upto_region 5 with (first
        | refine wpList_nextI rfl (.tmp 9) rfl _ rfl _ _ hnx ?_
        | refine wpList_entryI rfl (.tmp 9) rfl _ rfl _ _ hen ?_
        | refine wpList_store_rowTo rfl 36 (.tmp 4) (.tmp 13) rfl rfl w3.heap.size (bys i).toArray rfl rfl 36 zeroI hnz hia hiz hal ?_)
      have hW : (w3.alloc (.cells zeroI 36)).setRow w3.heap.size (bys i).toArray = withId w3 i := rfl
      rw [hW]
      have HWK := hide (withId_kept w3 i)
      have hrW := row_rangeK (withId_row w3 i)
      clear hia hiz hal hnz hW hnx hen
      generalize withId w3 i = W at *
      generalize w3.heap.size = G at *
      have HO4 : Hid (OwnI W g (.slice (some ⟨g, 0, none⟩) got.length n) got) := hide (HI3.out.1.kept HWK.out (by simp))
      have hO1 := HO4.out.1.alloc (.cells (bys i).toArray 36)
      skip
      go_wp2_with (first
        | refine wpList_load_mid rfl 36 (.tmp 4) rfl G 0 rfl (bys i) _ hrW Tryz.underlying36 rfl hil ?_
        | refine wpList_buildI rfl (.tmp 15) rfl i rfl hpl ?_
        | (at_builtin; refine wpList_append_fits _ rfl _ _ 28 rfl g 36 i0 32 Tryz.underlying28 hi0 hz1 g got.length n _ rfl hO1 ⟨W.heap.size, 0, none⟩ 1 1 (bys i) rfl (by rw [bys_length, hpl]) (row_src (new_atK _ _)) (bys_oneCell i) (by omega) ?_))
      intro w6 hown6 hgrow6
      have HO6 : Hid (OwnI w6 g (.slice (some ⟨g, 0, none⟩) (got.length + 1) n) (got ++ [i])) := hide ⟨by rw [idrows_snoc, List.length_append]; exact hown6, fun x hx => by
        rw [List.mem_append, List.mem_singleton] at hx
        rcases hx with hx | rfl
        · exact HO4.out.2 x hx
        · exact hpl⟩
      have HK6 : Hid (Kept [g] W w6) := hide (((Kept.refl [g] W).alloc _).grown hgrow6 (by intro k hk hlt; cases hk; simp))
      have HIR6 : Hid (Ir w6 b r K (K.map fun _ => unitv) (left.eraseIdx j)) := hide ((HI3.out.2.1.kept HWK.out (by simp) (by simp)).kept HK6.out (by
        obtain ⟨cur, hh, _⟩ := HI3.out.1.row
        intro hbg
        simp at hbg
        subst hbg
        obtain ⟨es, clock, hb2, _⟩ := HI3.out.2.1.im
        rw [hb2] at hh
        cases hh) (by have := HRG.out; simp; omega))
      have HLT6 : Hid (w6.rangeLeft b r < wr.rangeLeft b r) := hide (by have := HLT.out; rw [HI3.out.2.1.meas] at this; rw [HIR6.out.meas]; exact this)
      clear hown6 hgrow6 hO1
      go_wp2
      go_roundw
      case rel =>
        refine ⟨got ++ [i], _, by rw [List.length_append]; rfl, hide ⟨HO6.out, HIR6.out, HP3.out, (HI3.out.2.2.trans HWK.out (by simp)).trans HK6.out (fun q hq hlt => by simp at hq; have := HG.out; omega)⟩⟩
      case measure => exact HLT6.out
end

section
open Go.RowKit Go.Lib Go.Sort
set_option linter.unusedVariables false
set_option linter.unusedSimpArgs false

/-- The walk's fields. -/
structure Wfd where
  op : List UInt8
  src : Value
  bA : Nat
  bN : Nat
  bL : Nat
  bB : Nat
  deep : Value
  bF : Nat
def Wfd.cells (x : Wfd) : Array Value := #[.string ⟨x.op.toArray⟩, x.src, .map (some x.bA), .map (some x.bN), .map (some x.bL), .map (some x.bB), x.deep, .map (some x.bF)]
def Wfd.maps (x : Wfd) : List Nat := [x.bA, x.bN, x.bL, x.bB, x.bF]

/-- The walk, since w0: what was asked for, the need, what lacks, what is no tree, the folders of what was read. -/
structure Wk (w0 w : World) (P : Nat) (x : Wfd) (A N L B : List (List UInt8)) (F : List (List UInt8 × List (List UInt8))) (V : List Value) : Prop where
  row : w.heap[P]? = some (.cells x.cells 80 (0, 0))
  a : Is w x.bA A
  n : Is w x.bN N
  l : Is w x.bL L
  b : Is w x.bB B
  f : Im w x.bF (F.map (·.1)) V
  rows : ∀ j, j < F.length → OwnI w w0.heap.size (V.getD j unitv) (F.getD j ([], [])).2
  apart : ∀ j k, j < k → k < F.length → (V.getD j unitv).ownBlock = none ∨ (V.getD j unitv).ownBlock ≠ (V.getD k unitv).ownBlock
  dist : x.maps.Nodup
  lo : w0.heap.size ≤ P ∧ ∀ g ∈ x.maps, w0.heap.size ≤ g

section
variable {w0 w w' : World} {P : Nat} {x : Wfd} {A N L B : List (List UInt8)} {F : List (List UInt8 × List (List UInt8))} {V : List Value}

theorem Wk.ltP (h : Wk w0 w P x A N L B F V) : P < w.heap.size := (Array.getElem?_eq_some_iff.1 h.row).1

theorem Wk.map_at (h : Wk w0 w P x A N L B F V) {g : Nat} (hg : g ∈ x.maps) : ∃ es clock, w.heap[g]? = some (.map es clock) := by
  simp only [Wfd.maps, List.mem_cons, List.mem_nil_iff, or_false] at hg
  rcases hg with rfl | rfl | rfl | rfl | rfl
  · obtain ⟨es, c, e, _⟩ := h.a; exact ⟨es, c, e⟩
  · obtain ⟨es, c, e, _⟩ := h.n; exact ⟨es, c, e⟩
  · obtain ⟨es, c, e, _⟩ := h.l; exact ⟨es, c, e⟩
  · obtain ⟨es, c, e, _⟩ := h.b; exact ⟨es, c, e⟩
  · obtain ⟨es, c, e, _⟩ := h.f; exact ⟨es, c, e⟩
theorem Wk.neP (h : Wk w0 w P x A N L B F V) {g : Nat} (hg : g ∈ x.maps) : P ≠ g := by
  rintro rfl
  obtain ⟨es, c, e⟩ := h.map_at hg
  rw [h.row] at e
  cases e
theorem own_ne_map {base g : Nat} {v : Value} {C : List (List UInt8)} {es : Array MapEntry} {c : Nat} (h : OwnI w base v C) (hg : w.heap[g]? = some (.map es c)) : v.ownBlock ≠ some g := by
  rcases h.1.2 with ⟨rfl, _⟩ | ⟨q, cap, cur, rfl, hb, hh, _⟩
  · simp [Value.ownBlock]
  · intro e
    simp only [Value.ownBlock, Option.some.injEq] at e
    subst e
    rw [hh] at hg
    cases hg
/-- It stands while none of its blocks turns. -/
theorem Wk.keepO {o : Nat → Prop} (h : Wk w0 w P x A N L B F V) (hb : ∀ k, k < w.heap.size → ¬ o k → w'.heap[k]? = w.heap[k]?) (h1 : ¬ o P) (h2 : ∀ g ∈ x.maps, ¬ o g) (h3 : ∀ j, j < F.length → ∀ g, (V.getD j unitv).ownBlock = some g → ¬ o g) : Wk w0 w' P x A N L B F V := by
  have hm : ∀ g ∈ x.maps, w'.heap[g]? = w.heap[g]? := fun g hg => by
    obtain ⟨es, c, e⟩ := h.map_at hg
    exact hb g (Array.getElem?_eq_some_iff.1 e).1 (h2 g hg)
  refine ⟨(hb P h.ltP h1).trans h.row, Im.same h.a (hm _ (by simp [Wfd.maps])), Im.same h.n (hm _ (by simp [Wfd.maps])), Im.same h.l (hm _ (by simp [Wfd.maps])), Im.same h.b (hm _ (by simp [Wfd.maps])), Im.same h.f (hm _ (by simp [Wfd.maps])), fun j hj => ?_, h.apart, h.dist, h.lo⟩
  have ho := h.rows j hj
  refine ⟨⟨ho.1.1, ?_⟩, ho.2⟩
  rcases ho.1.2 with h0 | ⟨g, cap, cur, hv, hbb, hg, rest⟩
  · exact .inl h0
  · refine .inr ⟨g, cap, cur, hv, hbb, ?_, rest⟩
    rw [hb g (Array.getElem?_eq_some_iff.1 hg).1 (h3 j hj g (by rw [hv]; rfl))]
    exact hg
theorem Wk.kept (h : Wk w0 w P x A N L B F V) (hk : Kept [] w w') : Wk w0 w' P x A N L B F V := h.keepO (o := fun _ => False) (fun k hk1 _ => hk.block k hk1 (by simp)) id (fun _ _ => id) (fun _ _ _ _ => id)
theorem Wk.other (h : Wk w0 w P x A N L B F V) {g : Nat} (hg : g ∈ x.maps) (hk : Kept [g] w w') {q : Nat} (hq : q ∈ x.maps) (hn : q ≠ g) : w'.heap[q]? = w.heap[q]? := by
  obtain ⟨es, c, e⟩ := h.map_at hq
  exact hk.block q (Array.getElem?_eq_some_iff.1 e).1 (by simpa using hn)
theorem Wk.rows1 (h : Wk w0 w P x A N L B F V) {g : Nat} (hg : g ∈ x.maps) (hk : Kept [g] w w') : ∀ j, j < F.length → OwnI w' w0.heap.size (V.getD j unitv) (F.getD j ([], [])).2 := fun j hj => by
  obtain ⟨es, c, e⟩ := h.map_at hg
  exact (h.rows j hj).kept hk (fun q hq hm => own_ne_map (h.rows j hj) e (by simp at hm; rw [← hm]; exact hq))
theorem Wk.setA {A' : List (List UInt8)} (h : Wk w0 w P x A N L B F V) (hk : Kept [x.bA] w w') (hs : Is w' x.bA A') : Wk w0 w' P x A' N L B F V := by
  have hd := h.dist
  simp only [Wfd.maps, List.nodup_cons, List.mem_cons, List.mem_nil_iff, or_false, not_or] at hd
  have o := fun {q : Nat} => h.other (g := x.bA) (q := q) (by simp [Wfd.maps]) hk
  exact ⟨(hk.block P h.ltP (by simpa using h.neP (by simp [Wfd.maps]))).trans h.row, hs, Im.same h.n (o (by simp [Wfd.maps]) (Ne.symm hd.1.1)), Im.same h.l (o (by simp [Wfd.maps]) (Ne.symm hd.1.2.1)), Im.same h.b (o (by simp [Wfd.maps]) (Ne.symm hd.1.2.2.1)), Im.same h.f (o (by simp [Wfd.maps]) (Ne.symm hd.1.2.2.2)), h.rows1 (by simp [Wfd.maps]) hk, h.apart, h.dist, h.lo⟩
theorem Wk.setN {N' : List (List UInt8)} (h : Wk w0 w P x A N L B F V) (hk : Kept [x.bN] w w') (hs : Is w' x.bN N') : Wk w0 w' P x A N' L B F V := by
  have hd := h.dist
  simp only [Wfd.maps, List.nodup_cons, List.mem_cons, List.mem_nil_iff, or_false, not_or] at hd
  have o := fun {q : Nat} => h.other (g := x.bN) (q := q) (by simp [Wfd.maps]) hk
  exact ⟨(hk.block P h.ltP (by simpa using h.neP (by simp [Wfd.maps]))).trans h.row, Im.same h.a (o (by simp [Wfd.maps]) hd.1.1), hs, Im.same h.l (o (by simp [Wfd.maps]) (Ne.symm hd.2.1.1)), Im.same h.b (o (by simp [Wfd.maps]) (Ne.symm hd.2.1.2.1)), Im.same h.f (o (by simp [Wfd.maps]) (Ne.symm hd.2.1.2.2)), h.rows1 (by simp [Wfd.maps]) hk, h.apart, h.dist, h.lo⟩
theorem Wk.setL {L' : List (List UInt8)} (h : Wk w0 w P x A N L B F V) (hk : Kept [x.bL] w w') (hs : Is w' x.bL L') : Wk w0 w' P x A N L' B F V := by
  have hd := h.dist
  simp only [Wfd.maps, List.nodup_cons, List.mem_cons, List.mem_nil_iff, or_false, not_or] at hd
  have o := fun {q : Nat} => h.other (g := x.bL) (q := q) (by simp [Wfd.maps]) hk
  exact ⟨(hk.block P h.ltP (by simpa using h.neP (by simp [Wfd.maps]))).trans h.row, Im.same h.a (o (by simp [Wfd.maps]) hd.1.2.1), Im.same h.n (o (by simp [Wfd.maps]) hd.2.1.1), hs, Im.same h.b (o (by simp [Wfd.maps]) (Ne.symm hd.2.2.1.1)), Im.same h.f (o (by simp [Wfd.maps]) (Ne.symm hd.2.2.1.2)), h.rows1 (by simp [Wfd.maps]) hk, h.apart, h.dist, h.lo⟩
theorem Wk.setB {B' : List (List UInt8)} (h : Wk w0 w P x A N L B F V) (hk : Kept [x.bB] w w') (hs : Is w' x.bB B') : Wk w0 w' P x A N L B' F V := by
  have hd := h.dist
  simp only [Wfd.maps, List.nodup_cons, List.mem_cons, List.mem_nil_iff, or_false, not_or] at hd
  have o := fun {q : Nat} => h.other (g := x.bB) (q := q) (by simp [Wfd.maps]) hk
  exact ⟨(hk.block P h.ltP (by simpa using h.neP (by simp [Wfd.maps]))).trans h.row, Im.same h.a (o (by simp [Wfd.maps]) hd.1.2.2.1), Im.same h.n (o (by simp [Wfd.maps]) hd.2.1.2.1), Im.same h.l (o (by simp [Wfd.maps]) hd.2.2.1.1), hs, Im.same h.f (o (by simp [Wfd.maps]) (Ne.symm hd.2.2.2.1)), h.rows1 (by simp [Wfd.maps]) hk, h.apart, h.dist, h.lo⟩
theorem Wk.cell (h : Wk w0 w P x A N L B F V) (j : Nat) : w.cell? ⟨P, j, none⟩ = x.cells[j]? := by rw [cell_of_row _ _ _ _ _ _ h.row]
/-- Its maps are new since w0. -/
theorem Wk.new1 (h : Wk w0 w P x A N L B F V) {g : Nat} (hg : g ∈ x.maps) {w9 : World} (hk : Kept [] w0 w) (h9 : Kept [g] w w9) : Kept [] w0 w9 := hk.trans h9 (fun i hi hlt => by simp at hi; subst hi; have := h.lo.2 i hg; omega)
end

theorem Wk.look {w0 w : World} {P : Nat} {x : Wfd} {A N L B : List (List UInt8)} {F : List (List UInt8 × List (List UInt8))} {V : List Value} (h : Wk w0 w P x A N L B F V) (i : List UInt8) (hi : i.length = 32) : (Instr.lookup 77 (.map (some x.bA)) (idv i) true).run Tryz.prog w = .ok (.tuple #[unitv, .bool (decide (i ∈ A))]) w := by
  have hz : ∀ W, (zeroValue 91).run Tryz.prog W = .ok unitv W := fun W => by kernel_rfl
  rcases Im.look h.a Tryz.underlying77 hz i hi true with ⟨g1, g2⟩ | ⟨j, v, g1, g2, g3⟩
  · rw [g2, decide_eq_false g1]; rfl
  · have : v = unitv := by
      rw [List.getElem?_map, g1] at g2
      exact (Option.some.inj g2).symm
    rw [g3, this, decide_eq_true (List.mem_of_getElem? g1)]; rfl

theorem Tryz.infoUnit : (Tryz.prog.info? 91).map (·.size) = some 0 := by kernel_rfl

set_option maxHeartbeats 1600000 in
set_option maxRecDepth 100000 in
theorem wasAsked_ok {w0 w : World} {P : Nat} {x : Wfd} {A N L B : List (List UInt8)} {F : List (List UInt8 × List (List UInt8))} {V : List Value} (h : Wk w0 w P x A N L B F V) (i : List UInt8) (hi : i.length = 32) :
    Calls Tryz.prog 45 #[.pointer (some ⟨P, 0, none⟩), .agg (bys i).toArray] w fun e w' => e = .returned (.bool (decide (i ∈ A))) ∧ Kept [] w w' := by
  obtain ⟨w1, hw1⟩ : ∃ w1, w1 = w.alloc (.cells (bys i).toArray 36) := ⟨_, rfl⟩
  have hk1 : Kept [] w w1 := by rw [hw1]; exact (Kept.refl [] w).alloc _
  have hrx : w1.rangeAt w.heap.size 0 (bys i) := by rw [hw1]; exact row_rangeK (new_atK _ _)
  have c2 : w1.cell? ⟨P, 2, none⟩ = some (.map (some x.bA)) := (h.kept hk1).cell 2
  have hil := idl i hi
  obtain ⟨lv, hlv⟩ : ∃ lv, lv = Value.tuple #[unitv, .bool (decide (i ∈ A))] := ⟨_, rfl⟩
  have hlk : ∀ W, Kept [] w1 W → (Instr.lookup 77 (.map (some x.bA)) (.agg (bys i).toArray) true).run Tryz.prog W = .ok lv W := fun W hW => by rw [hlv]; exact ((h.kept hk1).kept hW).look i hi
  have HK1 := hide hk1
  clear h hk1
  generalize decide (i ∈ A) = d at *
  go_enter Tryz.func45, Tryz.ntmps45
  go_upto_region 1 with (fail)
  rw [← hw1]
  clear hw1
  generalize w.heap.size = bx at hrx ⊢
  refine wp_region_held_drew (S := fun w' => Kept [] w1 w') (by kernel_rfl) ((Kept.refl [] w1).drew) (fun h0 => ?_)
  generalize World.drew w1 = v0 at h0  ⊢
  refine wpAnyH_take (i := 0) (v := .pointer (some ⟨P, 0, none⟩)) rfl (by kernel_rfl) (by kernel_rfl) (by kernel_rfl) (fun _ _ _ h => h) (Or.inl ⟨by rfl, fun w hSw => by go_simp⟩) h0 ?_
  try simp only [List.getElem_toArray, List.getElem_cons_zero, List.getElem_cons_succ, Act.put, List.setIfInBounds_toArray, List.set_cons_zero, List.set_cons_succ]
  refine wpAnyH_take (i := 1) (v := .pointer (some ⟨P, 0, none⟩)) rfl (by kernel_rfl) (by kernel_rfl) (by kernel_rfl) (fun _ _ _ h => h) (Or.inl ⟨by rfl, fun w hSw => by go_simp⟩) h0 ?_
  try simp only [List.getElem_toArray, List.getElem_cons_zero, List.getElem_cons_succ, Act.put, List.setIfInBounds_toArray, List.set_cons_zero, List.set_cons_succ]
  refine wpAnyH_take (i := 2) (v := .pointer (some ⟨P, 2, none⟩)) rfl (by kernel_rfl) (by kernel_rfl) (by kernel_rfl) (fun _ _ _ h => h) (Or.inl ⟨by rfl, fun w hSw => by go_simp⟩) h0 ?_
  try simp only [List.getElem_toArray, List.getElem_cons_zero, List.getElem_cons_succ, Act.put, List.setIfInBounds_toArray, List.set_cons_zero, List.set_cons_succ]
  refine wpAnyH_take (i := 3) (v := .map (some x.bA)) rfl (by kernel_rfl) (by kernel_rfl) (by kernel_rfl) (fun _ _ _ h => h) (Or.inl ⟨by rfl, fun w hSw => by have c0 := Kept.cellOf hSw c2 (by simp); go_simp⟩) h0 ?_
  try simp only [List.getElem_toArray, List.getElem_cons_zero, List.getElem_cons_succ, Act.put, List.setIfInBounds_toArray, List.set_cons_zero, List.set_cons_succ]
  refine wpAnyH_take (i := 4) (v := .agg (bys i).toArray) rfl (by kernel_rfl) (by kernel_rfl) (by kernel_rfl) (fun _ _ _ h => h) (yieldsIf_load_mid (by rfl) 36 (.tmp 3) rfl bx 0 rfl (bys i) _ (fun w hSw j v hv => Kept.cellOf hSw (hrx j v hv) (by simp)) Tryz.underlying36 rfl hil) h0 ?_
  try simp only [List.getElem_toArray, List.getElem_cons_zero, List.getElem_cons_succ, Act.put, List.setIfInBounds_toArray, List.set_cons_zero, List.set_cons_succ]
  refine wpAnyH_take (i := 5) (v := lv) rfl (by kernel_rfl) (by kernel_rfl) (by kernel_rfl) (fun _ _ _ h => h) (Or.inl ⟨by rfl, fun w hSw => by have c0 := hlk w hSw; go_simp⟩) h0 ?_
  try simp only [List.getElem_toArray, List.getElem_cons_zero, List.getElem_cons_succ, Act.put, List.setIfInBounds_toArray, List.set_cons_zero, List.set_cons_succ]
  refine wpAnyH_take (i := 6) (v := lv) rfl (by kernel_rfl) (by kernel_rfl) (by kernel_rfl) (fun _ _ _ h => h) (Or.inl ⟨by rfl, fun w hSw => by go_simp⟩) h0 ?_
  try simp only [List.getElem_toArray, List.getElem_cons_zero, List.getElem_cons_succ, Act.put, List.setIfInBounds_toArray, List.set_cons_zero, List.set_cons_succ]
  refine wpAnyH_take (i := 7) (v := unitv) rfl (by kernel_rfl) (by kernel_rfl) (by kernel_rfl) (fun _ _ _ h => h) (Or.inl ⟨by rfl, fun w hSw => by go_simp⟩) h0 ?_
  try simp only [List.getElem_toArray, List.getElem_cons_zero, List.getElem_cons_succ, Act.put, List.setIfInBounds_toArray, List.set_cons_zero, List.set_cons_succ]
  refine wpAnyH_take (i := 8) (v := .bool d) rfl (by kernel_rfl) (by kernel_rfl) (by kernel_rfl) (fun _ _ _ h => h) (Or.inl ⟨by rfl, fun w hSw => by go_simp⟩) h0 ?_
  try simp only [List.getElem_toArray, List.getElem_cons_zero, List.getElem_cons_succ, Act.put, List.setIfInBounds_toArray, List.set_cons_zero, List.set_cons_succ]
  refine wpAnyH_ready (rs := [9]) (by kernel_rfl) (by simp) (AllReadyH.cons (i := 9) rfl (fun K hK => ?_) AllReadyH.nil)
  rw [if_pos (by rfl)]
  go_simp
  refine hK.out _ _ (h0.alloc _) (fun h1 => ?_)
  clear hK K
  try simp only [List.getElem_toArray, List.getElem_cons_zero, List.getElem_cons_succ, Act.put, List.setIfInBounds_toArray, List.set_cons_zero, List.set_cons_succ]
  refine wpAnyH_ready (rs := [10]) (by kernel_rfl) (by simp) (AllReadyH.cons (i := 10) rfl (fun K hK => ?_) AllReadyH.nil)
  rw [if_pos (by rfl)]
  refine wp_store_mid 91 (.tmp 5) (.tmp 14) rfl v0.heap.size 0 #[] rfl rfl (fun j hj => by simp at hj) Tryz.infoUnit (by simp) ?_
  refine hK.out _ _ (show Kept [] w1 (v0.alloc _) from h0.alloc _) (fun h2 => ?_)
  clear hK K h1
  try simp only [List.getElem_toArray, List.getElem_cons_zero, List.getElem_cons_succ, Act.put, List.setIfInBounds_toArray, List.set_cons_zero, List.set_cons_succ]
  refine wpAnyH_take (i := 11) (v := .bool d) rfl (by kernel_rfl) (by kernel_rfl) (by kernel_rfl) (fun _ _ _ h => h) (Or.inl ⟨by rfl, fun w hSw => by go_simp⟩) h2 ?_
  try simp only [List.getElem_toArray, List.getElem_cons_zero, List.getElem_cons_succ, Act.put, List.setIfInBounds_toArray, List.set_cons_zero, List.set_cons_succ]
  refine wpAnyH_done (by kernel_rfl) ?_ _
  have HKZ : Hid (Kept [] w (World.setCells (v0.alloc (.cells #[] 91)) v0.heap.size 0 (#[] : Array Value).toList)) := hide (HK1.out.trans (show Kept [] w1 (v0.alloc _) from h0.alloc _) (by simp))
  generalize World.setCells _ _ _ _ = w9 at HKZ ⊢
  go_wp2
  go_ret
  exact ⟨rfl, HKZ.out⟩
end

end Go.Proofs.YtngaimahhgmciabGreatDoor
