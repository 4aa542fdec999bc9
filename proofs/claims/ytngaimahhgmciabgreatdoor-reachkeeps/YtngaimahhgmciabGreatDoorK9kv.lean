import Derived.Test.YtngaimahhgmciabGreatDoorK9jv
namespace Go.Proofs.YtngaimahhgmciabGreatDoor
section
open Go.RowKit Go.Lib Go.Sort
set_option linter.unusedVariables false
set_option linter.unusedSimpArgs false

theorem nodup_idx {K : List (List UInt8)} (h : K.Nodup) {a b : Nat} {i : List UInt8} (ha : K[a]? = some i) (hb : K[b]? = some i) : a = b := by
  obtain ⟨la, ea⟩ := List.getElem?_eq_some_iff.1 ha
  obtain ⟨lb, eb⟩ := List.getElem?_eq_some_iff.1 hb
  rcases Nat.lt_trichotomy a b with h1 | h1 | h1
  · exact absurd (ea.trans eb.symm) ((List.pairwise_iff_getElem.1 h) a b la lb h1)
  · exact h1
  · exact absurd (eb.trans ea.symm) ((List.pairwise_iff_getElem.1 h) b a lb la h1)
theorem Wk.lookF {w0 w : World} {P : Nat} {x : Wfd} {A N L B : List (List UInt8)} {F : List (List UInt8 × List (List UInt8))} {V : List Value} (h : Wk w0 w P x A N L B F V) (i : List UInt8) (hi : i.length = 32) :
    ∃ ao n c, (fget F i).length = n ∧ ∀ W, Wk w0 W P x A N L B F V → (Instr.lookup 78 (.map (some x.bF)) (.agg (bys i).toArray) false).run Tryz.prog W = .ok (.slice ao n c) W ∧ Ids W ao (fget F i) := by
  have hz : ∀ W, (zeroValue 28).run Tryz.prog W = .ok (.slice none 0 0) W := fun W => by kernel_rfl
  by_cases hin : i ∈ F.map (·.1)
  · obtain ⟨j, hKj⟩ := List.getElem?_of_mem hin
    have hKj0 := hKj
    rw [List.getElem?_map] at hKj
    obtain ⟨⟨i', l⟩, hFj, e1⟩ := Option.map_eq_some_iff.1 hKj
    have e1 : i' = i := e1
    subst e1
    have hj : j < F.length := (List.getElem?_eq_some_iff.1 hFj).1
    have hgl : fget F i' = l := fget_at h.f.nodup hFj
    have hFd : F.getD j ([], []) = (i', l) := by rw [List.getD_eq_getElem?_getD, hFj]; rfl
    have own : ∀ W, Wk w0 W P x A N L B F V → OwnI W w0.heap.size (V.getD j unitv) l := fun W hW => by have := hW.rows j hj; rw [hFd] at this; exact this
    have hsh : ∃ ao n c, V.getD j unitv = .slice ao n c := by
      rcases (own w h).1.2 with ⟨e, _⟩ | ⟨g, cap, cur, e, _⟩
      · exact ⟨_, _, _, e⟩
      · exact ⟨_, _, _, e⟩
    obtain ⟨ao, n, c, hv⟩ := hsh
    have hn : n = l.length := by have := own w h; rw [hv] at this; exact this.ids.2.1
    refine ⟨ao, n, c, by rw [hgl, hn], fun W hW => ⟨?_, ?_⟩⟩
    · rcases hW.f.look Tryz.underlying78 hz i' hi false with ⟨g1, _⟩ | ⟨j2, v, g1, g2, g3⟩
      · exact absurd hin g1
      · have e2 := nodup_idx hW.f.nodup g1 hKj0
        subst e2
        have : V.getD j2 unitv = v := by rw [List.getD_eq_getElem?_getD, g2]; rfl
        rw [hv] at this
        subst this
        exact g3
    · have := own W hW
      rw [hv] at this
      rw [hgl]
      exact this.ids.1
  · refine ⟨none, 0, 0, by rw [fget_none hin]; rfl, fun W hW => ⟨?_, ?_⟩⟩
    · rcases hW.f.look Tryz.underlying78 hz i hi false with ⟨_, g2⟩ | ⟨j2, v, g1, g2, g3⟩
      · exact g2
      · exact absurd (List.mem_of_getElem? g1) hin
    · rw [fget_none hin]
      exact ⟨fun k hk => by simp at hk, by simp⟩

set_option maxHeartbeats 3200000 in
set_option maxRecDepth 100000 in
theorem wnext_ok {w0 w : World} {P : Nat} {x : Wfd} {A N L B : List (List UInt8)} {F : List (List UInt8 × List (List UInt8))} {V : List Value} (h : Wk w0 w P x A N L B F V) (br : Nat) (K : List (List UInt8)) (hs : Is w br K) (hb : ∀ q, (fget F q).length ≤ 32) :
    Calls Tryz.prog 33 #[.pointer (some ⟨P, 0, none⟩), .map (some br)] w fun e w' => ∃ b' K', e = .returned (.map (some b')) ∧ Is w' b' K' ∧ (∀ q, q ∈ K' ↔ ∃ i ∈ K, q ∈ fget F i) ∧ Kept [] w w' ∧ w.heap.size ≤ b' := by
  have HW := hide h
  have HS := hide hs
  have H32 := hide (Im.ids hs)
  have HB := hide hb
  have hz := Tryz.zeroId
  have hmk : ∀ W : World, (Instr.makeMap 77 none).run Tryz.prog W = .ok (.map (some W.heap.size)) (W.alloc (.map #[] 0)) := fun _ => rfl
  clear h hs hb
  go_enter Tryz.func33, Tryz.ntmps33
  go_upto_region 2 with (fail)
  have HK1 : Hid (Kept [] w (w.alloc (.map #[] 0))) := hide ((Kept.refl [] w).alloc _)
  have HN1 : Hid (Is (w.alloc (.map #[] 0)) w.heap.size []) := hide (new_im w)
  obtain ⟨b9, hb9⟩ : ∃ b9, w.heap.size = b9 := ⟨_, rfl⟩
  have HB9 : Hid (w.heap.size = b9) := hide hb9
  rw [hb9] at HN1 ⊢
  generalize w.alloc (.map #[] 0) = w1 at HK1 HN1 ⊢
  clear hb9 hmk
  obtain ⟨w2, hrr, hk2, hir⟩ := (HS.out.kept HK1.out (by simp)).range Tryz.underlying77
  have HK2 := hide (HK1.out.trans hk2 (by simp))
  have HN2 := hide (HN1.out.kept hk2 (by simp))
  have HI2 := hide hir
  obtain ⟨r, hr⟩ : ∃ r, w1.heap.size = r := ⟨_, rfl⟩
  have HBB : Hid (br ≠ b9) := hide (by have := HS.out.lt; have := HB9.out; omega)
  have HR : Hid (w.heap.size ≤ r ∧ b9 < r) := hide ⟨by rw [← hr]; exact HK1.out.size, by rw [← hr]; exact HN1.out.lt⟩
  rw [hr] at hrr HI2
  clear hk2 hir hr HK1 HN1
  go_wp2_with (refine wpList_rangeI rfl 77 (.tmp 8) rfl _ rfl _ _ hrr ?_)
  clear hrr
  go_frame
  go_loopw [] (fun wr => ∃ (got K' : List (List UInt8)) (left : List (List UInt8 × Value)), Hid (Is wr b9 K' ∧ Ir wr br r K (K.map fun _ => unitv) left ∧ (got ++ left.map (·.1)).Perm K ∧ (∀ q, q ∈ K' ↔ ∃ i ∈ got, q ∈ fget F i) ∧ Kept [] w wr)) (fun wr => wr.rangeLeft br r)
  case atStart => exact ⟨[], [], _, hide ⟨HN2.out, HI2.out, by rw [List.nil_append, zip_fst], by simp, HK2.out⟩⟩
  case round =>
    clear HN2 HI2 HK2
    obtain ⟨got, K', left, HI⟩ := hrel
    rcases HI.out.2.1.next 0 with ⟨hl, hnx⟩ | ⟨j, p, w3, hj, hnx, hk3, hs3, hi3, hen⟩
    · have HGP : Hid (got.Perm K) := hide (by have := HI.out.2.2.1; rw [hl] at this; simpa using this)
      clear hl
      go_wp2_with (refine wpList_nextI rfl (.tmp 9) rfl _ rfl _ _ hnx ?_)
      go_ret
      exact ⟨b9, K', rfl, HI.out.1, fun q => by rw [HI.out.2.2.2.1 q]; exact ⟨fun ⟨i, h1, h2⟩ => ⟨i, HGP.out.mem_iff.1 h1, h2⟩, fun ⟨i, h1, h2⟩ => ⟨i, HGP.out.mem_iff.2 h1, h2⟩⟩, HI.out.2.2.2.2, by have := HB9.out; omega⟩
    · have hpl : p.1.length = 32 := by
        have : p.1 ∈ got ++ left.map (·.1) := List.mem_append_right _ (List.mem_map_of_mem (List.mem_of_getElem? hj))
        exact H32.out _ (HI.out.2.2.1.mem_iff.1 this)
      obtain ⟨i, u⟩ := p
      simp only at hpl hnx hen
      have HP3 : Hid (((got ++ [i]) ++ (left.eraseIdx j).map (·.1)).Perm K) := hide (by
        have h1 := perm_erase hj
        have h2 := (h1.map (·.1)).append_left got
        simp only [List.map_cons] at h2
        rw [List.append_assoc]
        exact h2.symm.trans HI.out.2.2.1)
      have hbr : b9 ≠ r := by have := HR.out.2; omega
      have HI3 : Hid (Is w3 b9 K' ∧ Ir w3 br r K (K.map fun _ => unitv) (left.eraseIdx j) ∧ Kept [] w w3 ∧ (∀ q, q ∈ K' ↔ ∃ i ∈ got, q ∈ fget F i)) := hide ⟨HI.out.1.kept hk3 (by simpa using hbr), hi3, HI.out.2.2.2.2.trans hk3 (fun q hq hlt => by simp at hq; have := HR.out.1; omega), HI.out.2.2.2.1⟩
      have HLT : Hid (w3.rangeLeft br r < wr.rangeLeft br r) := hide (by
        rw [hi3.meas, HI.out.2.1.meas, List.length_eraseIdx]
        have := (List.getElem?_eq_some_iff.1 hj).1
        rw [if_pos this]
        omega)
      clear hk3 hs3 hi3 hj HI hbr
      have hil := idl i hpl
      have hia := ida i hpl
      have hiz := idz i hpl
      have hal := idall i
      have hnz := new_atK w3 (.cells zeroI 36)
      go_upto_region 5 with (first
        | refine wpList_nextI rfl (.tmp 9) rfl _ rfl _ _ hnx ?_
        | refine wpList_entryI rfl (.tmp 9) rfl _ rfl _ _ hen ?_
        | refine wpList_store_rowTo rfl 36 (.tmp 6) (.tmp 13) rfl rfl w3.heap.size (bys i).toArray rfl rfl 36 zeroI hnz hia hiz hal ?_)
      have hW : (w3.alloc (.cells zeroI 36)).setRow w3.heap.size (bys i).toArray = withId w3 i := rfl
      rw [hW]
      have HWK := hide (withId_kept w3 i)
      have hrW := row_rangeK (withId_row w3 i)
      have hG9 : w3.heap.size ≠ b9 := by have := HI3.out.1.lt; omega
      clear hia hiz hal hnz hW hnx hen
      generalize withId w3 i = W5 at *
      generalize w3.heap.size = G9 at *
      have hGb := hG9
      have HK5 := hide (HI3.out.2.2.1.trans HWK.out (by simp))
      have HS5 := hide (HI3.out.1.kept HWK.out (by simp))
      have hwk5 := HW.out.kept HK5.out
      have hbo : w.heap.size = b9 := HB9.out
      have stay : ∀ W, Kept [b9] W5 W → Wk w0 W P x A N L B F V := fun W hW => hwk5.keepO (o := fun k => k = b9) (fun k hk hn => hW.block k hk (by simpa using hn)) (by have := HW.out.ltP; omega) (fun g hg e => by obtain ⟨es, c, e2⟩ := HW.out.map_at hg; have := (Array.getElem?_eq_some_iff.1 e2).1; omega) (fun j hj g hg e => by obtain ⟨cs, hc⟩ := own_row (HW.out.rows j hj) hg; have := (Array.getElem?_eq_some_iff.1 hc).1; omega)
      obtain ⟨ao, n, c, hnl, hall⟩ := hwk5.lookF i hpl
      have hlk : ∀ W, Kept [b9] W5 W → (Instr.lookup 78 (.map (some x.bF)) (.agg (bys i).toArray) false).run Tryz.prog W = .ok (.slice ao n c) W := fun W hW => (hall W (stay W hW)).1
      have hids : ∀ W, Kept [b9] W5 W → Ids W ao (fget F i) := fun W hW => (hall W (stay W hW)).2
      have hPb : P ≠ b9 := by have := HW.out.ltP; omega
      have cF : W5.cell? ⟨P, 7, none⟩ = some (.map (some x.bF)) := hwk5.cell 7
      have hn32 : n ≤ 32 := by rw [← hnl]; exact HB.out i
      clear hwk5 stay hbo hall
      have HSKz : Hid (Kept [] W5 W5.drew) := hide ((Kept.refl [] W5).drew)
      refine wp_region_held_drew (S := fun w' => Kept [b9] W5 w') (by kernel_rfl) ((Kept.refl [b9] W5).drew) (fun hz0 => ?_)
      generalize World.drew W5 = z0 at hz0 HSKz ⊢
      refine wpAnyH_take (i := 0) (v := .map (some b9)) rfl (by kernel_rfl) (by kernel_rfl) (by kernel_rfl) (fun _ _ _ h => h) (Or.inl ⟨by rfl, fun w hSw => by go_simp⟩) hz0 ?_
      try simp only [List.getElem_toArray, List.getElem_cons_zero, List.getElem_cons_succ, Act.put, List.setIfInBounds_toArray, List.set_cons_zero, List.set_cons_succ]
      refine wpAnyH_take (i := 1) (v := .pointer (some ⟨P, 0, none⟩)) rfl (by kernel_rfl) (by kernel_rfl) (by kernel_rfl) (fun _ _ _ h => h) (Or.inl ⟨by rfl, fun w hSw => by go_simp⟩) hz0 ?_
      try simp only [List.getElem_toArray, List.getElem_cons_zero, List.getElem_cons_succ, Act.put, List.setIfInBounds_toArray, List.set_cons_zero, List.set_cons_succ]
      refine wpAnyH_take (i := 2) (v := .pointer (some ⟨P, 0, none⟩)) rfl (by kernel_rfl) (by kernel_rfl) (by kernel_rfl) (fun _ _ _ h => h) (Or.inl ⟨by rfl, fun w hSw => by go_simp⟩) hz0 ?_
      try simp only [List.getElem_toArray, List.getElem_cons_zero, List.getElem_cons_succ, Act.put, List.setIfInBounds_toArray, List.set_cons_zero, List.set_cons_succ]
      refine wpAnyH_take (i := 3) (v := .pointer (some ⟨P, 7, none⟩)) rfl (by kernel_rfl) (by kernel_rfl) (by kernel_rfl) (fun _ _ _ h => h) (Or.inl ⟨by rfl, fun w hSw => by go_simp⟩) hz0 ?_
      try simp only [List.getElem_toArray, List.getElem_cons_zero, List.getElem_cons_succ, Act.put, List.setIfInBounds_toArray, List.set_cons_zero, List.set_cons_succ]
      refine wpAnyH_take (i := 4) (v := .map (some x.bF)) rfl (by kernel_rfl) (by kernel_rfl) (by kernel_rfl) (fun _ _ _ h => h) (Or.inl ⟨by rfl, fun w hSw => by have c0 := Kept.cellOf hSw cF (by simpa using hPb); go_simp⟩) hz0 ?_
      try simp only [List.getElem_toArray, List.getElem_cons_zero, List.getElem_cons_succ, Act.put, List.setIfInBounds_toArray, List.set_cons_zero, List.set_cons_succ]
      refine wpAnyH_take (i := 5) (v := .agg (bys i).toArray) rfl (by kernel_rfl) (by kernel_rfl) (by kernel_rfl) (fun _ _ _ h => h) (yieldsIf_load_mid (by rfl) 36 (.tmp 6) rfl G9 0 rfl (bys i) _ (fun w hSw j v hv => Kept.cellOf hSw (hrW j v hv) (by simpa using hGb)) Tryz.underlying36 rfl hil) hz0 ?_
      try simp only [List.getElem_toArray, List.getElem_cons_zero, List.getElem_cons_succ, Act.put, List.setIfInBounds_toArray, List.set_cons_zero, List.set_cons_succ]
      refine wpAnyH_take (i := 6) (v := .slice ao n c) rfl (by kernel_rfl) (by kernel_rfl) (by kernel_rfl) (fun _ _ _ h => h) (Or.inl ⟨by rfl, fun w hSw => by have c0 := hlk w hSw; go_simp⟩) hz0 ?_
      try simp only [List.getElem_toArray, List.getElem_cons_zero, List.getElem_cons_succ, Act.put, List.setIfInBounds_toArray, List.set_cons_zero, List.set_cons_succ]
      refine wpAnyH_ready (rs := [7]) (by kernel_rfl) (by simp) (AllReadyH.cons (i := 7) rfl (fun K hK => ?_) AllReadyH.nil)
      rw [if_pos (by rfl)]
      go_simp
      refine (sadd_ok b9 ao n c K' (fget F i) _ (HS5.out.kept HSKz.out (by simp)) hnl (hids _ hz0) (by omega)).mono ?_
      rintro e z1 ⟨rfl, hs2, hk2⟩
      have HS7 := hide hs2
      clear hs2
      refine hK.out _ _ (hz0.trans hk2 (fun j hj _ => hj)) (fun hz1 => ?_)
      clear hK K
      try simp only [List.getElem_toArray, List.getElem_cons_zero, List.getElem_cons_succ, Act.put, List.setIfInBounds_toArray, List.set_cons_zero, List.set_cons_succ]
      refine wpAnyH_done (by kernel_rfl) ?_ _
      have HIR7 : Hid (Ir z1 br r K (K.map fun _ => unitv) (left.eraseIdx j)) := hide ((HI3.out.2.1.kept HWK.out (by simp) (by simp)).kept hz1 (by simpa using HBB.out) (by have := HR.out.2; simp; omega))
      have HLT7 : Hid (z1.rangeLeft br r < wr.rangeLeft br r) := hide (by have := HLT.out; rw [HI3.out.2.1.meas] at this; rw [HIR7.out.meas]; exact this)
      have HK7 : Hid (Kept [] w z1) := hide (HK5.out.trans hz1 (fun q hq hlt => by simp at hq; have := HB9.out; omega))
      clear hlk hids hPb cF hn32 hnl hrW hGb hil hG9 hz0 hz1
      go_wp2
      go_roundw
      case rel => exact ⟨got ++ [i], _, _, hide ⟨HS7.out, HIR7.out, HP3.out, fun q => by
        rw [mem_insA, HI3.out.2.2.2 q]
        constructor
        · rintro (⟨i', h1, h2⟩ | h1)
          · exact ⟨i', List.mem_append_left _ h1, h2⟩
          · exact ⟨i, by simp, h1⟩
        · rintro ⟨i', h1, h2⟩
          rw [List.mem_append, List.mem_singleton] at h1
          rcases h1 with h1 | rfl
          · exact .inl ⟨i', h1, h2⟩
          · exact .inr h2, HK7.out⟩⟩
      case measure => exact HLT7.out
end

section
open Go.RowKit Go.Lib Go.Sort
set_option linter.unusedVariables false
set_option linter.unusedSimpArgs false

/-- A result. -/
structure Rz where
  act : List UInt8
  root : List UInt8
  code : Int
  ha : act.length = 32
  hr : root.length = 32
def rz0 : Rz := ⟨List.replicate 32 0, List.replicate 32 0, 0, rfl, rfl⟩
instance : Inhabited Rz := ⟨rz0⟩
def Rz.cells (e : Rz) : List Value := bys e.act ++ (bys e.root ++ [.int .i64 e.code])
theorem Rz.len (e : Rz) : e.cells.length = 65 := by simp [Rz.cells, bys_length, e.ha, e.hr]
def Rss (w : World) (ao : Option Addr) (L : List Rz) : Prop :=
  ∀ i, i < L.length → ∃ b off, ao = some ⟨b, off, none⟩ ∧ w.rangeAt b (off + i * 65) (L.getD i rz0).cells
theorem Rss.kept {l : List Nat} {w w' : World} {ao : Option Addr} {L : List Rz} (h : Rss w ao L) (hk : Kept l w w') (hn : L ≠ [] → ∀ a, ao = some a → a.block ∉ l) : Rss w' ao L := fun i hi => by
  obtain ⟨g, off, e, hr⟩ := h i hi
  exact ⟨g, off, e, fun j v hv => hk.cellOf (hr j v hv) (show g ∉ l from hn (by rintro rfl; simp at hi) ⟨g, off, none⟩ e)⟩
def zeroRz : Array Value := rz0.cells.toArray
theorem Tryz.zeroRes9 (W : World) : (zeroValue 49).run Tryz.prog W = .ok (.agg zeroRz) W := by kernel_rfl
theorem Tryz.infoRes9 : (Tryz.prog.info? 49).map (·.size) = some 65 := by kernel_rfl
theorem rz_one (e : Rz) : ∀ u ∈ e.cells, u.oneCell' = true := fun u hu => by
  simp only [Rz.cells, List.mem_append, List.mem_singleton] at hu
  rcases hu with hu | hu | rfl
  · exact bys_oneCell _ u hu
  · exact bys_oneCell _ u hu
  · rfl
theorem rz_all (e : Rz) : e.cells.toArray.all (·.oneCell') = true := by
  simp only [List.all_toArray, List.all_eq_true]
  exact rz_one e
def withRz (w : World) (e : Rz) : World := (w.alloc (.cells zeroRz 49)).setRow w.heap.size e.cells.toArray
theorem withRz_kept (w : World) (e : Rz) : Kept [] w (withRz w e) := kept_rowK ((Kept.refl [] w).alloc _) (fun h => absurd h (Nat.lt_irrefl _)) _
theorem withRz_row (w : World) (e : Rz) : (withRz w e).heap[w.heap.size]? = some (.cells e.cells.toArray 49 (0, 0)) := setRow_heap _ _ _ _ _ _ (new_atK _ _)
theorem rz_root {w : World} {g : Nat} {e : Rz} (h : w.heap[g]? = some (.cells e.cells.toArray 49 (0, 0))) : w.rangeAt g 32 (bys e.root) := fun j v hv => by
  have hj : j < 32 := by have := (List.getElem?_eq_some_iff.1 hv).1; rw [bys_length, e.hr] at this; exact this
  rw [cell_of_row _ _ _ _ _ _ h, List.getElem?_toArray]
  unfold Rz.cells
  rw [List.getElem?_append_right (by rw [bys_length, e.ha]; omega), bys_length, e.ha, show 32 + j - 32 = j by omega, List.getElem?_append_left (by rw [bys_length, e.hr]; exact hj)]
  exact hv

set_option maxHeartbeats 1600000 in
set_option maxRecDepth 100000 in
theorem roots_ok (ao : Option Addr) (n c : Nat) (L : List Rz) (w : World) (hl : L.length = n) (hL : Rss w ao L) (hn : n ≤ 4611686018427387904) (hfar : L ≠ [] → ∀ a, ao = some a → a.block < w.heap.size) :
    Calls Tryz.prog 31 #[.slice ao n c] w fun e w' => ∃ b', e = .returned (.map (some b')) ∧ Is w' b' (insA [] (L.map (·.root))) ∧ Kept [] w w' ∧ w.heap.size ≤ b' := by
  have HL := hide hL
  have HN := hide hl
  have HF := hide hfar
  have hz := Tryz.zeroRes9
  have hmk : ∀ W : World, (Instr.makeMap 77 none).run Tryz.prog W = .ok (.map (some W.heap.size)) (W.alloc (.map #[] 0)) := fun _ => rfl
  clear hL hl hfar
  go_enter Tryz.func31, Tryz.ntmps31
  go_upto_region 2 with (fail)
  have HK1 : Hid (Kept [] w (w.alloc (.map #[] 0))) := hide ((Kept.refl [] w).alloc _)
  have HN1 : Hid (Is (w.alloc (.map #[] 0)) w.heap.size []) := hide (new_im w)
  obtain ⟨b9, hb9⟩ : ∃ b9, w.heap.size = b9 := ⟨_, rfl⟩
  have HB9 : Hid (w.heap.size = b9) := hide hb9
  rw [hb9] at HN1 ⊢
  generalize w.alloc (.map #[] 0) = w1 at HK1 HN1 ⊢
  clear hb9 hmk
  go_wp2
  go_loopw [9] (fun x wr => ∃ k : Nat, k ≤ n ∧ x = .int .i64 k ∧ Hid (Is wr b9 (insA [] ((L.take k).map (·.root))) ∧ Kept [] w wr)) (fun x wr => n - (intOf x).toNat)
  case atStart => exact ⟨0, Nat.zero_le _, rfl, hide ⟨HN1.out, HK1.out⟩⟩
  case round =>
    clear HN1 HK1
    obtain ⟨k, hk, rfl, HI⟩ := hrel
    by_cases hlt : k < n
    · have hkl : k < L.length := by rw [HN.out]; exact hlt
      obtain ⟨g, off, rfl, hrg⟩ := (HL.out.kept HI.out.2 (by simp)) k hkl
      have HT : Hid (insA [] ((L.take (k + 1)).map (·.root)) = insI (insA [] ((L.take k).map (·.root))) (L.getD k rz0).root) := hide (by
        have e : L.getD k rz0 = L[k] := by simp [List.getElem?_eq_getElem hkl]
        rw [List.take_succ_eq_append_getElem hkl, e]
        unfold insA
        rw [List.map_append, List.foldl_append]
        rfl)
      generalize L.getD k rz0 = rz at *
      have hil : (Tryz.prog.info? 49).map (·.size) = some rz.cells.length := by rw [rz.len]; exact Tryz.infoRes9
      have hia : (Tryz.prog.info? 49).map (·.size) = some rz.cells.toArray.size := by rw [List.size_toArray, rz.len]; exact Tryz.infoRes9
      have hzs : zeroRz.size = rz.cells.toArray.size := by
        have : rz.cells.toArray.size = 65 := by rw [List.size_toArray, rz.len]
        rw [this]; rfl
      have hal := rz_all rz
      have hnz := new_atK wr (.cells zeroRz 49)
      have HWK := hide (withRz_kept wr rz)
      have hrR := rz_root (withRz_row wr rz)
      go_upto_region 5 with (first
        | refine wpList_load_mid rfl 49 (.tmp 11) rfl g (off + k * 65) rfl rz.cells _ hrg Tryz.underlying49 rfl hil ?_
        | refine wpList_store_rowTo rfl 49 (.tmp 5) (.tmp 12) rfl rfl wr.heap.size rz.cells.toArray rfl rfl 49 zeroRz hnz hia hzs hal ?_)
      have hW : (wr.alloc (.cells zeroRz 49)).setRow wr.heap.size rz.cells.toArray = withRz wr rz := rfl
      rw [hW]
      clear hrg hil hia hzs hal hnz hW hkl
      have HS5 := hide (HI.out.1.kept HWK.out (by simp))
      have HK5 := hide (HI.out.2.trans HWK.out (by simp))
      clear HI HWK
      generalize withRz wr rz = W at *
      generalize wr.heap.size = G9 at *
      have hi := rz.hr
      obtain ⟨i, hii⟩ : ∃ i, rz.root = i := ⟨_, rfl⟩
      rw [hii] at hi hrR HT
      have hilk := idl i hi
      have hsd := sadd_ok b9 (some ⟨W.heap.size, 0, none⟩) 1 1 _ [i] (W.alloc (.cells (bys i).toArray 36)) (HS5.out.kept ((Kept.refl [] W).alloc _) (by simp)) rfl (ids_one hi (new_atK _ _)) (by omega)
      clear hii
      go_wp2_with (first
        | refine wpList_load_mid rfl 36 (.tmp 14) rfl G9 32 rfl (bys i) _ hrR Tryz.underlying36 rfl hilk ?_
        | refine wpList_buildI rfl (.tmp 15) rfl i rfl hi ?_
        | (go_at_call 44; refine hsd.mono ?_; rintro e w6 ⟨rfl, hs6, hk6⟩; have H6 : Hid (Is w6 b9 (insA [] ((L.take (k + 1)).map (·.root))) ∧ Kept [] w w6) := hide ⟨by rw [HT.out]; exact hs6, (HK5.out.alloc _).trans hk6 (fun q hq hlt => by simp at hq; have := HB9.out; omega)⟩; clear hsd hs6 hk6))
      go_roundw
      case rel => exact ⟨k + 1, by omega, by go_num, H6⟩
      case measure => simp [intOf]; omega
    · go_wp2
      go_ret
      have : L.take k = L := List.take_of_length_le (by have := HN.out; omega)
      have h9 := HI.out
      rw [this] at h9
      exact ⟨b9, rfl, h9.1, h9.2, by have := HB9.out; omega⟩
end

section
open Go.RowKit Go.Lib Go.Sort
set_option linter.unusedVariables false
set_option linter.unusedSimpArgs false

/-- What a walk has found out. -/
structure Ws where
  ord : List (List UInt8)
  A : List (List UInt8)
  N : List (List UInt8)
  L : List (List UInt8)
  B : List (List UInt8)
  fl : List UInt8 → List (List UInt8)
def Ws.asked (s : Ws) (i : List UInt8) : Ws := { s with ord := s.ord ++ [i], A := insI s.A i }
/-- What comes of an id that is there. -/
def Ws.readE (s : Ws) (i : List UInt8) : Option (List Ent) → Ws
  | none => { s with B := insI s.B i }
  | some E => { s with N := insA s.N (E.map (·.id)), fl := fun q => if q = i then fldsE E else s.fl q }
/-- An id is asked for as a tree: false: the source cannot look. -/
def Ws.tree (f : List UInt8 → An) (s : Ws) (i : List UInt8) : Bool × Ws :=
  if i ∈ s.A then (true, s) else match f i with
    | .fail => (false, s.asked i)
    | .lack => (true, { s.asked i with L := insI s.L i })
    | .data xs => (true, (s.asked i).readE i (Tn.parse xs))
/-- Ids, one behind the other: in the end the one at which it ended. -/
def Ws.trees (f : List UInt8 → An) : Ws → List (List UInt8) → Option (List UInt8) × Ws
  | s, [] => (none, s)
  | s, i :: r => if (s.tree f i).1 = true then Ws.trees f (s.tree f i).2 r else (some i, (s.tree f i).2)
theorem nodup_leA : ∀ {l m : List (List UInt8)}, l.Nodup → (∀ q ∈ l, q ∈ m) → l.length ≤ m.length
  | [], m, _, _ => Nat.zero_le _
  | a :: l, m, hn, h => by
    rw [List.nodup_cons] at hn
    have ha := h a (by simp)
    have h1 := nodup_leA (m := m.erase a) hn.2 (fun q hq => by
      have hne : q ≠ a := fun e => hn.1 (by rw [← e]; exact hq)
      exact (List.mem_erase_of_ne hne).2 (h q (by simp [hq])))
    have h2 := List.length_erase_of_mem ha
    have h3 := List.length_pos_of_mem ha
    simp only [List.length_cons]
    omega
/-- What was asked is within U, each once. -/
def OrU (U : List (List UInt8)) (s : Ws) : Prop := s.ord.length ≤ s.A.length ∧ s.A.Nodup ∧ ∀ q ∈ s.A, q ∈ U
theorem OrU.len {U : List (List UInt8)} {s : Ws} (h : OrU U s) {n : Nat} (hn : U.length ≤ n) : s.ord.length ≤ n := by
  have := nodup_leA h.2.1 h.2.2
  have := h.1
  omega
theorem OrU.asked {U : List (List UInt8)} {s : Ws} (h : OrU U s) {i : List UInt8} (hi : i ∈ U) (hn : i ∉ s.A) : OrU U (s.asked i) := by
  have e : insI s.A i = s.A ++ [i] := by unfold insI; rw [if_neg hn]
  refine ⟨?_, ?_, fun q hq => ?_⟩
  · show (s.ord ++ [i]).length ≤ (insI s.A i).length
    rw [e, List.length_append, List.length_append]
    have := h.1
    simp only [List.length_singleton]
    omega
  · show (insI s.A i).Nodup
    rw [e]
    exact List.nodup_append.2 ⟨h.2.1, by simp, fun a ha b hb => by simp only [List.mem_singleton] at hb; subst hb; rintro rfl; exact hn ha⟩
  · rcases mem_insI.1 (show q ∈ insI s.A i from hq) with h1 | rfl
    · exact h.2.2 q h1
    · exact hi
theorem trees_app (f : List UInt8 → An) : ∀ (l : List (List UInt8)) (s s' : Ws) (r : List (List UInt8)), Ws.trees f s l = (none, s') → Ws.trees f s (l ++ r) = Ws.trees f s' r
  | [], s, s', r, h => by simp only [Ws.trees, Prod.mk.injEq, true_and] at h; rw [h]; rfl
  | i :: l, s, s', r, h => by
    simp only [List.cons_append, Ws.trees] at h ⊢
    by_cases hc : (s.tree f i).1 = true
    · rw [if_pos hc] at h ⊢
      exact trees_app f l _ s' r h
    · rw [if_neg hc] at h
      cases h

theorem one_true_orU {f : List UInt8 → An} {U : List (List UInt8)} {s : Ws} {i : List UInt8} (h : OrU U s) (hi : i ∈ U) : OrU U (s.tree f i).2 := by
  unfold Ws.tree
  by_cases hA : i ∈ s.A
  · rw [if_pos hA]; exact h
  · rw [if_neg hA]
    have k := h.asked hi hA
    cases f i with
    | fail => exact k
    | lack => exact k
    | data xs => first
      | exact k
      | (show OrU U ((s.asked i).readE i (Tn.parse xs)); cases Tn.parse xs <;> exact k)
theorem trees_orU {f : List UInt8 → An} {U : List (List UInt8)} : ∀ (R : List (List UInt8)) {s : Ws}, OrU U s → (∀ q ∈ R, q ∈ U) → OrU U (Ws.trees f s R).2
  | [], s, h, _ => h
  | i :: r, s, h, hR => by
    have h1 : OrU U (s.tree f i).2 := one_true_orU h (hR i (by simp))
    show OrU U (if (s.tree f i).1 = true then Ws.trees f (s.tree f i).2 r else (some i, (s.tree f i).2)).2
    split
    · exact trees_orU r h1 (fun q hq => hR q (by simp [hq]))
    · exact h1

/-- The walk in memory, with what it has found out. -/
def Wz (w0 : World) (o0 : Nat → Prop) (wb : World) (ub : Nat → Prop) (T : TypeId) (sv : Value) (G : List (List UInt8) → (Nat → Prop) → World → Prop) (P : Nat) (x : Wfd) (s : Ws) (w : World) : Prop :=
  ∃ F V o, Wx w0 o0 wb ub T sv G w P x s.ord s.A s.N s.L s.B F V o ∧ (∀ q, fget F q = s.fl q) ∧ (∀ q, q ∉ s.A → s.fl q = []) ∧ ∀ q, (s.fl q).length ≤ 32

section
variable {w0 : World} {o0 : Nat → Prop} {wb : World} {ub : Nat → Prop} {T : TypeId} {sv : Value} {fn : Nat} {rv : Value} {f : List UInt8 → An} {Er : List UInt8 → World → Value → Prop} {G : List (List UInt8) → (Nat → Prop) → World → Prop} {w w' : World} {P : Nat} {x : Wfd} {s : Ws}

theorem Wz.kept (S : Src T sv fn rv f Er G) (h : Wz w0 o0 wb ub T sv G P x s w) (hk : Kept [] w w') : Wz w0 o0 wb ub T sv G P x s w' := by
  obtain ⟨F, V, o, h1, h2⟩ := h
  exact ⟨F, V, o, h1.kept S hk, h2⟩
theorem notA {s : Ws} {i q : List UInt8} (h : q ∉ insI s.A i) : q ∉ s.A := fun hm => h (mem_insI.2 (.inl hm))

/-- walk.ask, by what the walk has found out. -/
theorem zask_lack (S : Src T sv fn rv f Er G) (h : Wz w0 o0 wb ub T sv G P x s w) (i : List UInt8) (hi : i.length = 32) (hf : f i = .lack) (hol : s.ord.length ≤ 4398046511104) :
    Calls Tryz.prog 46 #[.pointer (some ⟨P, 0, none⟩), .agg (bys i).toArray] w fun e w' => e = .returned (.tuple #[.slice none 0 0, .bool false, .nilIface]) ∧ Wz w0 o0 wb ub T sv G P x { s.asked i with L := insI s.L i } w' := by
  obtain ⟨F, V, o, h1, h2, h3, h4⟩ := h
  refine (ask_lack S h1 i hi hf hol).mono ?_
  rintro e w' ⟨o', rfl, hx⟩
  exact ⟨rfl, F, V, o', hx, h2, fun q hq => h3 q (notA hq), h4⟩
theorem zask_fail (S : Src T sv fn rv f Er G) (h : Wz w0 o0 wb ub T sv G P x s w) (i : List UInt8) (hi : i.length = 32) (hf : f i = .fail) (hol : s.ord.length ≤ 4398046511104) :
    Calls Tryz.prog 46 #[.pointer (some ⟨P, 0, none⟩), .agg (bys i).toArray] w fun e w' => ∃ eb ev, e = .returned (.tuple #[.slice none 0 0, .bool false, faultV eb]) ∧ FltAt w' eb x.op i ev ∧ Er i w' ev ∧ Wz w0 o0 wb ub T sv G P x (s.asked i) w' := by
  obtain ⟨F, V, o, h1, h2, h3, h4⟩ := h
  refine (ask_fail S h1 i hi hf hol).mono ?_
  rintro e w' ⟨eb, ev, o', rfl, g1, g2, hx⟩
  exact ⟨eb, ev, rfl, g1, g2, F, V, o', hx, h2, fun q hq => h3 q (notA hq), h4⟩
theorem zask_data (S : Src T sv fn rv f Er G) (h : Wz w0 o0 wb ub T sv G P x s w) (i : List UInt8) (hi : i.length = 32) (xs : List UInt8) (hf : f i = .data xs) (hol : s.ord.length ≤ 4398046511104) :
    Calls Tryz.prog 46 #[.pointer (some ⟨P, 0, none⟩), .agg (bys i).toArray] w fun e w' => ∃ ao n c, e = .returned (.tuple #[.slice ao n c, .bool true, .nilIface]) ∧ (xs.length = n ∧ n ≤ 140737488355328 ∧ Sl w' ao xs ∧ (ao = none → xs = [] ∧ c = 0)) ∧ Wz w0 o0 wb ub T sv G P x (s.asked i) w' := by
  obtain ⟨F, V, o, h1, h2, h3, h4⟩ := h
  refine (ask_data S h1 i hi xs hf hol).mono ?_
  rintro e w' ⟨ao, n, c, o', rfl, g1, hx⟩
  exact ⟨ao, n, c, rfl, g1, F, V, o', hx, h2, fun q hq => h3 q (notA hq), h4⟩
/-- walk.read. -/
theorem zread_ok (S : Src T sv fn rv f Er G) (s0 : Ws) (i : List UInt8) (hi : i.length = 32) (hno : i ∉ s0.A) (h : Wz w0 o0 wb ub T sv G P x (s0.asked i) w) (h00 : ∀ q, q ∉ s0.A → s0.fl q = []) (ao : Option Addr) (n c : Nat) (xs : List UInt8) (hn : xs.length = n) (hm : n ≤ 140737488355328) (hs : Sl w ao xs) (h0 : ao = none → xs = [] ∧ c = 0) :
    Calls Tryz.prog 47 #[.pointer (some ⟨P, 0, none⟩), .agg (bys i).toArray, .slice ao n c] w fun e w' => e = .returned (.tuple #[]) ∧ Wz w0 o0 wb ub T sv G P x ((s0.asked i).readE i (Tn.parse xs)) w' := by
  obtain ⟨F, V, o, h1, h2, h3, h4⟩ := h
  have hfi : fget F i = [] := by rw [h2 i]; exact h00 i hno
  cases hp : Tn.parse xs with
  | none =>
    refine (wread_bad S h1 i hi ao n c xs hn hm hs h0 hp).mono ?_
    rintro e w' ⟨rfl, hx⟩
    exact ⟨rfl, F, V, o, hx, h2, h3, h4⟩
  | some E =>
    refine (wread_ok S h1 i hi ao n c xs hn hm hs h0 E hp hfi).mono ?_
    rintro e w' ⟨rfl, F', V', hx, hg⟩
    refine ⟨rfl, F', V', o, hx, fun q => ?_, fun q hq => ?_, fun q => ?_⟩
    · rw [hg q]
      show _ = if q = i then fldsE E else (s0.asked i).fl q
      by_cases e : q = i
      · rw [if_pos e, if_pos e]
      · rw [if_neg e, if_neg e]; exact h2 q
    · show (if q = i then fldsE E else (s0.asked i).fl q) = []
      have hne : q ≠ i := fun e => hq (by show q ∈ insI s0.A i; rw [e]; exact mem_insI.2 (.inr rfl))
      rw [if_neg hne]
      exact h3 q hq
    · show (if q = i then fldsE E else (s0.asked i).fl q).length ≤ 32
      by_cases e : q = i
      · rw [if_pos e]
        exact Nat.le_trans (fldsE_len E) (parse_lenK hp)
      · rw [if_neg e]; exact h4 q
end
end

end Go.Proofs.YtngaimahhgmciabGreatDoor
