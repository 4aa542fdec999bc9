import Derived.Test.YtngaimahhgmciaaGreatDoorQsas
import Derived.Deep.DeepAppendWide
namespace Go.Proofs.YtngaimahhgmciaaGreatDoor
section
open Go.RowKit Go.Lib Go.Sort
set_option linter.unusedVariables false
set_option linter.unusedSimpArgs false
theorem run_appIW {w : World} {base : Nat} {v : Value} {C : List (List UInt8)} (h : OwnI w base v C) (hb : base ≤ w.heap.size) (A : List UInt8) (hA : A.length = 32) (g : Nat) (hg : w.heap[g]? = some (.cells (bys A).toArray 25 (0, 0))) (hl : C.length ≤ 4398046511104) :
  ∃ v' w', (Builtin.append_ #[35, 35] 35 #[v, .slice (some ⟨g, 0, none⟩) 1 1]).run Tryz.prog w = .ok v' w' ∧ OwnI w' base v' (C ++ [A]) ∧ (∀ l, (∀ g, v.ownBlock = some g → g ∈ l) → Kept l w w') ∧ (∀ g, v'.ownBlock = some g → v.ownBlock = some g ∨ w.heap.size ≤ g) := by
 obtain ⟨i0, hi, hz0, hz1, hz2⟩ := info_parts Tryz.infoIdx
 have hnews : ∀ j u, (bys A)[j]? = some u → w.cell? ((⟨g, 0, none⟩ : Addr).add j) = some u := fun j u hj => by rw [Addr.add_mid, Nat.zero_add, cell_of_row _ _ _ _ _ _ hg]; simpa using hj
 have hlb : (bys A).length = 1 * 32 := by rw [bys_length, hA]
 have hbytes : ((C.length + 1) + (C.length + 1) / 4 + 192) * 32 ≤ 281474976710656 := by omega
 have hml : C.length + 1 ≤ maxLen := by unfold maxLen; omega
 obtain ⟨v', w', hrun, h1', h2, _⟩ := run_append_own_wide (P := Tryz.prog) w base 35 35 25 i0 (.agg zeroI) 32 32 Tryz.underlying35 hi hz0 hz1 hz2 rfl (by omega) v C.length (idrows C) h.1 ⟨g, 0, none⟩ 1 1 (bys A) hlb hnews (bys_oneCell A) hml hbytes hb
 refine ⟨v', w', hrun, ⟨?_, fun i hi => ?_⟩, fun l hl2 => (Kept.refl l w).grown h2 (fun k hk _ => hl2 k hk), fun k hk => ?_⟩
 ·rw [List.length_append, idrows_snoc]
  exact h1'
 ·simp only [List.mem_append, List.mem_singleton] at hi
  rcases hi with hi | rfl
  ·exact h.2 i hi
  ·exact hA
 ·rcases h.1.2 with ⟨rfl, e0⟩ | ⟨g0, cap, cur, rfl, hbg, hg0, hnc, hcm, hcs, htake⟩
  ·obtain ⟨v2, w2, hrun2, h12, _⟩ := run_append_own_wide (P := Tryz.prog) w w.heap.size 35 35 25 i0 (.agg zeroI) 32 32 Tryz.underlying35 hi hz0 hz1 hz2 rfl (by omega) (.slice none 0 0) C.length (idrows C) ⟨h.1.1, .inl ⟨rfl, e0⟩⟩ ⟨g, 0, none⟩ 1 1 (bys A) hlb hnews (bys_oneCell A) hml hbytes (Nat.le_refl _)
   rw [hrun] at hrun2
   injection hrun2 with e1 e2
   subst e1
   exact .inr (own_far9 h12 k hk)
  ·by_cases hroom : C.length + 1 ≤ cap
   ·have hfit : C.length * i0.size + (bys A).length ≤ cur.size := by rw [hlb, hcs, hz1, ← Nat.add_mul]; exact Nat.mul_le_mul_right _ hroom
    have hr := run_append_room (P := Tryz.prog) w 35 35 25 i0 Tryz.underlying35 hi g0 C.length cap cur hg0 ⟨g, 0, none⟩ 1 1 (bys A) (by rw [hlb, hz1]) hnews (bys_oneCell A) hroom hfit
    rw [hrun] at hr
    injection hr with e1 e2
    subst e1
    exact .inl hk
   ·have holds : ∀ j u, (idrows C)[j]? = some u → w.cell? ((⟨g0, 0, none⟩ : Addr).add j) = some u := h.1.cells (g := g0) rfl
    have hr := run_append_grow (P := Tryz.prog) w 35 35 25 i0 (.agg zeroI) Tryz.underlying35 hi hz0 ⟨g0, 0, none⟩ C.length cap (idrows C) (by rw [h.1.1, hz1]) holds ⟨g, 0, none⟩ 1 1 (bys A) (by rw [hlb, hz1]) hnews (by omega) (by omega) (growslice_fits_wide (by omega) (by rw [hz2]; exact hbytes))
    rw [hrun] at hr
    injection hr with e1 e2
    subst e1
    simp only [Value.ownBlock, Option.some.injEq] at hk
    exact .inr (by omega)
def St0 (w0 w : World) : Prop := ∀ b, b < w0.heap.size → w.heap[b]? = w0.heap[b]?
theorem St0.cell {w0 w : World} (h : St0 w0 w) {p : Addr} {v : Value} (hc : w0.cell? p = some v) : w.cell? p = some v := by
 rw [World.cell?_of_block (w := w0) (h p.block (World.block_lt_of_cell? _ _ hc))]
 exact hc
theorem St0.kept {w0 w w' : World} {l : List Nat} (h : St0 w0 w) (hs : w0.heap.size ≤ w.heap.size) (hk : Kept l w w') (hn : ∀ b ∈ l, w0.heap.size ≤ b) : St0 w0 w' := fun b hb => by
 rw [hk.block b (by omega) (fun hm => by have := hn b hm; omega)]
 exact h b hb
theorem Sl.st0 {w0 w : World} {ao : Option Addr} {xs : List UInt8} (h : Sl w0 ao xs) (hs : St0 w0 w) : Sl w ao xs := fun i hi => by
 obtain ⟨b, off, e, hc⟩ := h i hi
 exact ⟨b, off, e, hs.cell hc⟩
theorem ItsAt.st0 {w0 w : World} {lo : Option Addr} {L : List It9} (h : ItsAt w0 lo L) (hs : St0 w0 w) : ItsAt w lo L := fun i hi => by
 obtain ⟨⟨b, off, e, hr⟩, ho⟩ := h i hi
 exact ⟨⟨b, off, e, fun j u hu => hs.cell (hr j u hu)⟩, ⟨⟨ho.inb.len, ho.inb.le, ho.inb.max, ho.inb.sl.st0 hs, ho.inb.nil, ho.inb.spot⟩, ho.wf⟩⟩
end

section
open Go.RowKit Go.Lib Go.Sort
set_option linter.unusedVariables false
set_option linter.unusedSimpArgs false
structure SoAt (w0 w : World) (P : Nat) (io : Option Addr) (n cap : Nat) (va ve : Value) (asked : List (List UInt8)) : Prop where
 row : w.heap[P]? = some (.cells #[.slice io n cap, va, ve] 73 (0, 0))
 a : OwnI w (P + 1) va asked
 st : St0 w0 w
 far : w0.heap.size ≤ P
variable {w0 w w' : World} {P : Nat} {io : Option Addr} {n cap : Nat} {va ve : Value} {asked : List (List UInt8)}
theorem SoAt.lt (h : SoAt w0 w P io n cap va ve asked) : P < w.heap.size := (Array.getElem?_eq_some_iff.1 h.row).1
theorem SoAt.sz (h : SoAt w0 w P io n cap va ve asked) : w0.heap.size ≤ w.heap.size := by have := h.lt; have := h.far; omega
theorem SoAt.kept (h : SoAt w0 w P io n cap va ve asked) (hk : Kept [] w w') : SoAt w0 w' P io n cap va ve asked :=
 ⟨by rw [hk.block P h.lt (by simp)]; exact h.row, h.a.kept hk (fun _ _ => by simp), h.st.kept h.sz hk (fun b hb => by simp at hb), h.far⟩
theorem SoAt.grow {va' : Value} {i : List UInt8} (h : SoAt w0 w P io n cap va ve asked) (ho : OwnI w' (P + 1) va' (asked ++ [i])) (hk : Kept va.ownBlock.toList w w') : SoAt w0 (w'.setCell ⟨P, 1, none⟩ va') P io n cap va' ve (asked ++ [i]) := by
 have hbl : ∀ g ∈ va.ownBlock.toList, P + 1 ≤ g := fun g hg => own_far9 h.a.1 g (by simpa using hg)
 have hrow : w'.heap[P]? = some (.cells #[.slice io n cap, va, ve] 73 (0, 0)) := by
  rw [hk.block P h.lt (fun hm => by have := hbl P hm; omega)]
  exact h.row
 have hks : Kept [P] w' (w'.setCell ⟨P, 1, none⟩ va') := (Kept.refl [P] w').setCell (fun _ => by simp) _
 have h1 := h.st.kept h.sz hk (fun b hb => by have := hbl b hb; have := h.far; omega)
 refine ⟨?_, ho.kept hks (fun g hg => by have := own_far9 ho.1 g hg; simp only [List.mem_singleton]; omega), h1.kept (Nat.le_trans h.sz hk.size) hks (fun b hb => by simp only [List.mem_singleton] at hb; have := h.far; omega), h.far⟩
 rw [heap_setCell_same w' _ 1 _ _ _ hrow]
 rfl
theorem SoAt.said (h : SoAt w0 w P io n cap va ve asked) (u : Value) : SoAt w0 (w.setCell ⟨P, 2, none⟩ u) P io n cap va u asked := by
 have hks : Kept [P] w (w.setCell ⟨P, 2, none⟩ u) := (Kept.refl [P] w).setCell (fun _ => by simp) _
 refine ⟨?_, h.a.kept hks (fun g hg => by have := own_far9 h.a.1 g hg; simp only [List.mem_singleton]; omega), h.st.kept h.sz hks (fun b hb => by simp only [List.mem_singleton] at hb; have := h.far; omega), h.far⟩
 rw [heap_setCell_same w _ 2 _ _ _ h.row]
 rfl
theorem ErrA.said {L : List It9} {i : List UInt8} {ev : Value} {cs : Array Value} (h : ErrA w L i ev) (hr : w.heap[P]? = some (.cells cs 73 (0, 0))) (u : Value) : ErrA (w.setCell ⟨P, 2, none⟩ u) L i ev := by
 have hks : Kept [P] w (w.setCell ⟨P, 2, none⟩ u) := (Kept.refl [P] w).setCell (fun _ => by simp) _
 rcases h with h | ⟨h0, h | ⟨h1, h2, ⟨h3, eb, he, hf⟩ | h3⟩⟩
 ·exact .inl h
 ·exact .inr ⟨h0, .inl h⟩
 ·refine .inr ⟨h0, .inr ⟨h1, h2, .inl ⟨h3, eb, he, ?_⟩⟩⟩
  have hne : eb ≠ P := by
   rintro rfl
   unfold FltAt at hf
   rw [hr] at hf
   injection hf with hf
   injection hf with _ hf _
   exact absurd hf (by decide)
  unfold FltAt at *
  rw [hks.block eb (Array.getElem?_eq_some_iff.1 hf).1 (by simpa using hne)]
  exact hf
 ·exact .inr ⟨h0, .inr ⟨h1, h2, .inr h3⟩⟩
theorem ErrA.shape {L : List It9} {i : List UInt8} {ev : Value} (h : ErrA w L i ev) : ∃ T u, ev = .iface T u := by
 rcases h with ⟨_, rfl⟩ | ⟨_, ⟨_, rfl⟩ | ⟨_, _, ⟨_, eb, rfl, _⟩ | ⟨_, rfl⟩⟩⟩ <;> exact ⟨_, _, rfl⟩
set_option maxHeartbeats 6400000 in
set_option maxRecDepth 100000 in
theorem sget9_ok (L : List It9) (i : List UInt8) (h : SoAt w0 w P io n cap va ve asked) (hits : ItsAt w0 io L) (hlen : L.length = n) (hn : n ≤ 4611686018427387904) (hi : i.length = 32) (ha : asked.length ≤ 4398046511104) :
  Calls Tryz.prog 132 #[.pointer (some ⟨P, 0, none⟩), .agg (bys i).toArray] w fun e w' => ∃ v ev va' ve', e = .returned (.tuple #[v, ev]) ∧ SoAt w0 w' P io n cap va' ve' (asked ++ [i]) ∧ Kept (P :: va.ownBlock.toList) w w' ∧ (∀ g, va'.ownBlock = some g → va.ownBlock = some g ∨ w.heap.size ≤ g) ∧
   ((i ∈ ids9 L ∧ (fst9 L i).code = 0 ∧ ev = .nilIface ∧ OwnB w' w.heap.size v (fst9 L i).bs ∧ ve' = ve) ∨ (v = .slice none 0 0 ∧ ErrA w' L i ev ∧ ve' = ev)) := by
 obtain ⟨aa, ac, hva, _⟩ := own_shape h.a.1
 obtain ⟨nA, hnA⟩ : ∃ m, asked.length = m := ⟨_, rfl⟩
 rw [hnA] at hva
 subst hva
 clear hnA
 have HIT := hide hits
 have HLN := hide (And.intro hlen hn)
 obtain ⟨G, hG⟩ : ∃ r, r = w.heap.size := ⟨_, rfl⟩
 have hkA : Kept [] w (w.alloc (.cells (bys i).toArray 25)) := (Kept.refl [] w).alloc _
 have HR : Hid ((w.alloc (.cells (bys i).toArray 25)).heap[G]? = some (.cells (bys i).toArray 25 (0, 0))) := by rw [hG]; exact new_atK _ _
 have HK := hide hkA
 have HW1 := hide (h.kept hkA)
 have HGN : Hid (G ≠ P ∧ ∀ g, (Value.slice aa nA ac).ownBlock = some g → g ≠ G) := hide ⟨by have := h.lt; omega, fun g hg => by
  rcases h.a.1.2 with ⟨e, _⟩ | ⟨g2, c2, cur, e, hb, hg2, _⟩
  ·rw [e] at hg; simp [Value.ownBlock] at hg
  ·rw [e] at hg
   simp only [Value.ownBlock, Option.some.injEq] at hg
   subst hg
   have := (Array.getElem?_eq_some_iff.1 hg2).1
   omega⟩
 have HBP : Hid (∀ g, (Value.slice aa nA ac).ownBlock = some g → P + 1 ≤ g) := hide (fun g hg => own_far9 h.a.1 g hg)
 clear hits hlen hn h hkA
 go_enter Tryz.func132, Tryz.ntmps132
 go_upto_region 1 with (fail)
 rw [← hG]
 clear hG
 generalize w.alloc _ = w1 at HR HK HW1 ⊢
 have cA : w1.cell? ⟨P, 1, none⟩ = some (.slice aa nA ac) := by rw [cell_of_row _ _ _ _ _ _ HW1.out.row]; rfl
 have hri : w1.rangeAt G 0 (bys i) := row_rangeK HR.out
 have hil := idl i hi
 refine wp_region_late (fun w' => Kept [] w1 w') (fun i => i == 7 || i == 10) (by kernel_rfl) ?_
 have h0 : Kept [] w1 w1.drew := (Kept.refl [] w1).drew
 generalize World.drew w1 = v0 at h0 ⊢
 refine wpAnyL_free (i := 0) (v := .pointer (some ⟨P, 0, none⟩)) rfl (by kernel_rfl) (by kernel_rfl) (by kernel_rfl) (fun _ _ _ h => h) (Or.inl ⟨by rfl, fun w _ => by go_simp⟩) ?_
 try simp only [zk1, zk2, zk3, zk4, zk5, zk6, zk7, zk8]
 refine wpAnyL_free (i := 1) (v := .pointer (some ⟨P, 0, none⟩)) rfl (by kernel_rfl) (by kernel_rfl) (by kernel_rfl) (fun _ _ _ h => h) (Or.inl ⟨by rfl, fun w _ => by go_simp⟩) ?_
 try simp only [zk1, zk2, zk3, zk4, zk5, zk6, zk7, zk8]
 refine wpAnyL_free (i := 2) (v := .pointer (some ⟨P, 0, none⟩)) rfl (by kernel_rfl) (by kernel_rfl) (by kernel_rfl) (fun _ _ _ h => h) (Or.inl ⟨by rfl, fun w _ => by go_simp⟩) ?_
 try simp only [zk1, zk2, zk3, zk4, zk5, zk6, zk7, zk8]
 refine wpAnyL_free (i := 3) (v := .pointer (some ⟨P, 1, none⟩)) rfl (by kernel_rfl) (by kernel_rfl) (by kernel_rfl) (fun _ _ _ h => h) (Or.inl ⟨by rfl, fun w _ => by go_simp⟩) ?_
 try simp only [zk1, zk2, zk3, zk4, zk5, zk6, zk7, zk8]
 refine wpAnyL_take (i := 4) (v := .slice aa nA ac) rfl (by kernel_rfl) (by kernel_rfl) (by kernel_rfl) (by kernel_rfl) (by kernel_rfl) (fun _ _ _ h => h) (Or.inl ⟨by rfl, fun w hSw => by have c := Kept.cellOf hSw cA (by simp); go_simp⟩) h0 ?_
 try simp only [zk1, zk2, zk3, zk4, zk5, zk6, zk7, zk8]
 refine wpAnyL_take (i := 5) (v := .agg (bys i).toArray) rfl (by kernel_rfl) (by kernel_rfl) (by kernel_rfl) (by kernel_rfl) (by kernel_rfl) (fun _ _ _ h => h) (yieldsIf_load_mid (by rfl) _ _ rfl G (0) rfl (bys i) _ (fun W h => fun jj u hu => Kept.cellOf h (hri jj u hu) (by simp)) Tryz.underlying25 rfl hil) h0 ?_
 try simp only [zk1, zk2, zk3, zk4, zk5, zk6, zk7, zk8]
 have hV0 := HW1.out.kept h0
 have hk0 : Kept [] v0 (v0.alloc (.cells (bys i).toArray 25)) := (Kept.refl [] v0).alloc _
 have hV1 := hV0.kept hk0
 obtain ⟨va', w3, hrun, hown, hkeep, hblk⟩ := run_appIW hV1.a hV1.lt i hi v0.heap.size (new_atK _ _) ha
 obtain ⟨a', c', e', _⟩ := own_shape hown.1
 obtain ⟨n', hn'⟩ : ∃ n, (asked ++ [i]).length = n := ⟨_, rfl⟩
 rw [hn'] at e'
 clear hn'
 subst e'
 have hgn : Kept (Value.slice aa nA ac).ownBlock.toList (v0.alloc (.cells (bys i).toArray 25)) w3 := hkeep _ (fun k hk => by simp [hk])
 have hgnot : P ∉ (Value.slice aa nA ac).ownBlock.toList := fun hm => by have := own_far9 hV1.a.1 P (by simpa using hm); omega
 have hrow3 : w3.heap[P]? = _ := (hgn.block P hV1.lt hgnot).trans hV1.row
 have hcs : w3.cell? ⟨P, 1, none⟩ = some (.slice aa nA ac) := by rw [cell_of_row _ _ _ _ _ _ hrow3]; rfl
 have hfz : w3.frozen? ⟨P, 1, none⟩ = false := frozen_of_row _ _ _ _ _ hrow3
 refine wpAnyL_one (i := 6) (by kernel_rfl) rfl (fun K' hK => ?_)
 rw [if_pos (by rfl)]
 refine wp_buildI (.tmp 13) rfl i rfl hi ?_
 refine hK.out _ _ (fun _ _ => h0.alloc _) ?_
 clear hK K'
 try simp only [zk1, zk2, zk3, zk4, zk5, zk6, zk7, zk8]
 refine wpAnyL_one (i := 7) (by kernel_rfl) rfl (fun K' hK => ?_)
 rw [if_pos (by rfl)]
 refine wp_append_run (.tmp 12) (.tmp 14) 35 35 rfl (.slice aa nA ac) (.slice (some ⟨v0.heap.size, 0, none⟩) 1 1) rfl rfl _ _ hrun ?_
 refine hK.out _ _ (fun _ h => by cases h) ?_
 clear hK K' hrun
 try simp only [zk1, zk2, zk3, zk4, zk5, zk6, zk7, zk8]
 refine wpAnyL_free (i := 8) (v := .pointer (some ⟨P, 0, none⟩)) rfl (by kernel_rfl) (by kernel_rfl) (by kernel_rfl) (fun _ _ _ h => h) (Or.inl ⟨by rfl, fun w _ => by go_simp⟩) ?_
 try simp only [zk1, zk2, zk3, zk4, zk5, zk6, zk7, zk8]
 refine wpAnyL_free (i := 9) (v := .pointer (some ⟨P, 1, none⟩)) rfl (by kernel_rfl) (by kernel_rfl) (by kernel_rfl) (fun _ _ _ h => h) (Or.inl ⟨by rfl, fun w _ => by go_simp⟩) ?_
 try simp only [zk1, zk2, zk3, zk4, zk5, zk6, zk7, zk8]
 refine wpAnyL_one (i := 10) (by kernel_rfl) rfl (fun K' hK => ?_)
 rw [if_pos (by rfl)]
 go_simp
 refine hK.out _ _ (fun _ h => by cases h) ?_
 clear hK K'
 try simp only [zk1, zk2, zk3, zk4, zk5, zk6, zk7, zk8]
 refine wpAnyL_done (by kernel_rfl) ?_ _
 have hgr := hV1.grow hown hgn
 have hbl5 : ∀ g, (Value.slice a' n' c').ownBlock = some g → (Value.slice aa nA ac).ownBlock = some g ∨ w.heap.size ≤ g := fun g hg => (hblk g hg).imp id (fun h9 => Nat.le_trans (Nat.le_trans (Nat.le_trans HK.out.size h0.size) hk0.size) h9)
 have hks : Kept [P] w3 (w3.setCell ⟨P, 1, none⟩ (.slice a' n' c')) := (Kept.refl [P] w3).setCell (fun _ => by simp) _
 have hG5 : (w3.setCell ⟨P, 1, none⟩ (.slice a' n' c')).heap[G]? = some (.cells (bys i).toArray 25 (0, 0)) := by
  have e1 := (h0.block G (Array.getElem?_eq_some_iff.1 HR.out).1 (by simp)).trans HR.out
  have e2 := (hk0.block G (Array.getElem?_eq_some_iff.1 e1).1 (by simp)).trans e1
  have e3 := (hgn.block G (Array.getElem?_eq_some_iff.1 e2).1 (fun hm => HGN.out.2 G (by simpa using hm) rfl)).trans e2
  exact (hks.block G (Array.getElem?_eq_some_iff.1 e3).1 (by simpa using HGN.out.1)).trans e3
 have hk5 : Kept (P :: (Value.slice aa nA ac).ownBlock.toList) w (w3.setCell ⟨P, 1, none⟩ (.slice a' n' c')) := by
  have k1 := (HK.out.trans h0 (by simp)).trans hk0 (by simp)
  have k2 : Kept (P :: (Value.slice aa nA ac).ownBlock.toList) w w3 := (k1.mono (l2 := P :: (Value.slice aa nA ac).ownBlock.toList) (by simp)).trans hgn (fun j hj _ => by simp only [List.mem_cons]; exact .inr hj)
  exact k2.trans hks (fun j hj _ => by simp only [List.mem_singleton] at hj; simp [hj])
 clear hown hkeep hblk hgn hgnot hrow3 hcs hfz hV0 hV1 hks
 generalize w3.setCell ⟨P, 1, none⟩ (.slice a' n' c') = w5 at hgr hG5 hk5 ⊢
 have HS5 := hide hgr
 have HK5 := hide hk5
 have HBL := hide hbl5
 have hri5 : w5.rangeAt G 0 (bys i) := row_rangeK hG5
 have hfind := sfind9_ok P io n cap (.slice a' n' c') ve L i w5 hgr.row (HIT.out.st0 hgr.st) HLN.out.1 HLN.out.2 hi
 clear hgr hG5 hk5 hbl5 hk0 h0 hri cA ha hi HW1 HK HR HGN HBP
 go_upto_region 3 with (first
  | refine wpList_load_mid rfl 25 (.tmp 3) rfl G 0 rfl (bys i) _ hri5 Tryz.underlying25 rfl hil ?_
  | (go_at_call 133; refine hfind.mono ?_; rintro e w6 ⟨v, ev, rfl, hk6, hf⟩; have HS6 := hide (HS5.out.kept hk6); have HKF := hide (HK5.out.trans hk6 (by simp)); have HSZ := hide HK5.out.size; clear hfind hk6 hri5))
 clear HS5 HK5
 rcases hf with hf | hf
 ·as_aux_lemma =>
  obtain ⟨hin, hcd, rfl, hob⟩ := hf
  have HOB := hide hob
  obtain ⟨qa, qc, qe, _⟩ := own_shape hob
  subst qe
  clear hob
  go_wp2
  go_ret2
  exact ⟨_, _, _, _, rfl, HS6.out, HKF.out, HBL.out, .inl ⟨hin, hcd, rfl, HOB.out.mono9 HSZ.out, rfl⟩⟩
 ·as_aux_lemma =>
  obtain ⟨rfl, he⟩ := hf
  have HE := hide he
  obtain ⟨TT, uu, rfl⟩ := he.shape
  have hcs : w6.cell? ⟨P, 2, none⟩ = some ve := by rw [cell_of_row _ _ _ _ _ _ HS6.out.row]; rfl
  have hfz : w6.frozen? ⟨P, 2, none⟩ = false := frozen_of_row _ _ _ _ _ HS6.out.row
  clear he
  go_wp2
  go_ret2
  exact ⟨_, _, _, _, rfl, HS6.out.said _, HKF.out.setCell (fun _ => by simp) _, HBL.out, .inr ⟨rfl, HE.out.said HS6.out.row _, rfl⟩⟩
end

end Go.Proofs.YtngaimahhgmciaaGreatDoor
