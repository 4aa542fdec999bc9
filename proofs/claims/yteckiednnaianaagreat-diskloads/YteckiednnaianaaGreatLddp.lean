import Derived.Test.YteckiednnaianaaGreatRemp
import Derived.Test.YteckiednnaianaaGreatRehp
import Derived.Deep.RegionHeld3
namespace Go.Proofs.YteckiednnaianaaGreat
open Go.RowKit Dsk
set_option linter.unusedVariables false
set_option linter.unusedSimpArgs false
structure Rl3 (q b off k : Nat) (nv : Value) (x : By) (bo : Option Addr) (z bc : Nat) (v : World) : Prop where
 c2 : v.cell? ⟨q, 2, none⟩ = some nv
 e1 : v.cell? ⟨b, off + k * 2, none⟩ = some (encStr x)
 e2 : v.cell? ⟨b, off + k * 2 + 1, none⟩ = some (.slice bo z bc)
theorem Rl3.kept {q b off k : Nat} {nv : Value} {x : By} {bo : Option Addr} {z bc : Nat} {v v' : World} (h : Rl3 q b off k nv x bo z bc v) (hk : Kept [] v v') : Rl3 q b off k nv x bo z bc v' := ⟨hk.cellOf h.c2 (by simp), hk.cellOf h.e1 (by simp), hk.cellOf h.e2 (by simp)⟩
namespace Dsk
theorem ldn_keys (L : List (By × By)) (k : Nat) (hk : k ≤ L.length) (n : By) : n ∈ (ldn L k).keys ↔ n ∈ (L.take k).map (·.1) := by
 induction k with
 | zero => simp [ldn, Nm.keys]
 | succ k ih =>
  have hk' : k < L.length := hk
  show n ∈ ((ldn L k).put _ k).keys ↔ _
  rw [put_keys, ih (by omega), List.take_succ_eq_append_getElem hk', List.map_append, List.mem_append]
  simp [List.getD_eq_getElem?_getD, List.getElem?_eq_getElem hk', or_comm]
theorem fix_neg {l : Nm} (hu : l.Up) (n : By) : (fix l n < 0 ∧ n ∉ l.keys) ∨ (0 ≤ fix l n ∧ n ∈ l.keys) := by
 cases hg : l.get n with
 | none =>
  left
  rw [fix_get_none hg]
  exact ⟨by decide, fun h => by obtain ⟨c, hc⟩ := get_isSome.2 h; rw [hg] at hc; cases hc⟩
 | some k =>
  right
  obtain ⟨i, _, _, e⟩ := fix_get_some hu hg
  rw [e]
  exact ⟨by omega, get_isSome.1 ⟨k, hg⟩⟩
theorem take_nodup_bad {L : List (By × By)} {k : Nat} {f : By × By} (h : L[k]? = some f) (hm : f.1 ∈ (L.take k).map (·.1)) : ¬ (L.map (·.1)).Nodup := by
 intro hn
 have h2 : (L.map (·.1))[k]? = some f.1 := by rw [List.getElem?_map, h]; rfl
 rw [List.map_take] at hm
 exact absurd hm (by
  intro hm
  obtain ⟨i, hi, e⟩ := List.mem_iff_getElem.1 hm
  simp only [List.length_take, List.length_map] at hi
  have h1 : (L.map (·.1))[i]? = some f.1 := by rw [← e, List.getElem_take]; exact List.getElem?_eq_getElem _
  have := (List.getElem?_inj (by simp; omega : i < (L.map (·.1)).length) hn).1 (h1.trans h2.symm)
  omega)
theorem take_nodup_step {L : List (By × By)} {k : Nat} {f : By × By} (h : L[k]? = some f) (hn : ((L.take k).map (·.1)).Nodup) (hm : f.1 ∉ (L.take k).map (·.1)) : ((L.take (k + 1)).map (·.1)).Nodup := by
 rw [List.take_add_one, h]
 simp only [Option.toList_some, List.map_append, List.map_cons, List.map_nil]
 rw [List.nodup_append]
 exact ⟨hn, by simp, fun a ha b hb e => by simp only [List.mem_singleton] at hb; subst hb; subst e; exact hm ha⟩
end Dsk
theorem Rlg.qlt {w wr : World} {q : Nat} {r : Int} {L : List (By × By)} {k : Nat} {A : Nat → Nat} {o : Lab} {nv bv tv sv : Value} (h : Rlg w wr q r L k A o nv bv tv sv) : q < wr.heap.size := (h.lim q (by rw [h.lq]; decide)).2
set_option maxHeartbeats 6400000 in
set_option maxRecDepth 100000 in
theorem rload_ok (r : Int) (ao : Option Addr) (n c : Nat) (L : List (By × By)) (w : World) (hx : L.length = n) (hn : n ≤ 4611686018427387900) (hT : totalOf L ≤ 1000000) (hM : ∀ f ∈ L, f.1.length ≤ 4611686018427387900 ∧ f.2.length ≤ 1000000) (h1 : Fio w ao L) :
  Calls Tryz.prog 7 #[.int .i64 r, .slice ao n c] w fun e w' => (loadE r L ≠ 0 ∧ e = .returned (.tuple #[.pointer none, .int .i64 (loadE r L)]) ∧ Kept [] w w') ∨ (loadE r L = 0 ∧ ∃ q A o, e = .returned (.tuple #[.pointer (some ⟨q, 0, none⟩), .int .i64 0]) ∧ RD w' q (Ds.load r.toNat L) A o ∧ (∀ b, o b ≠ 0 → w.heap.size ≤ b) ∧ Kept [] w w') := by
 by_cases hr : 1 ≤ r ∧ r ≤ 1048576
 ·have hre : roomE r = 0 := by unfold roomE; rw [if_neg (by omega)]
  have hnew := rnew_ok r w hre
  obtain ⟨hr1, hr2⟩ := hr
  by_cases hn2 : n ≤ 256
  ·have HX := hide hx
   have H1 := hide h1
   have HM := hide hM
   have HT := hide hT
   have HE : Hid (loadE r L = if ¬ (∀ f ∈ L, isNm f.1 = true) then 51 else if ¬ (L.map (·.1)).Nodup then 52 else if r < (totalOf L : Int) then 55 else 0) := hide (by unfold loadE; rw [if_neg (by simp [hr1, hr2]), if_neg (by omega)])
   clear hx h1 hM hT hre
   go_enter Tryz.func7, Tryz.ntmps7
   go_wp2_with (go_at_call 17; refine hnew.mono ?_; rintro e w1 ⟨q, rfl, A, o, hR, hno, hk1⟩; have HS : Hid (∃ A o nv bv tv sv, Rlg w w1 q r L 0 A o nv bv tv sv) := hide ⟨A, o, Rlg.start hr1 hR hno hk1⟩; have HK1 := hide hk1; clear hnew hR hno hk1)
   go_loopw [8] (fun i wr => ∃ k : Nat, k ≤ n ∧ i = .int .i64 k ∧ wr = w1 ∧ Hid (∀ f ∈ L.take k, isNm f.1 = true)) (fun i wr => n - (intOf i).toNat)
   case atStart => exact ⟨0, Nat.zero_le _, rfl, by first | rfl | trivial, hide (by simp)⟩
   case round =>
    obtain ⟨k, hk, rfl, hww, HNM⟩ := hrel
    obtain rfl := hww.symm
    by_cases hlt : k < n
    ·obtain ⟨b1, off, rfl, ⟨x, d⟩, hs, e1, bo1, bc1, e2, s1, _⟩ := H1.out k (by rw [HX.out]; exact hlt)
     replace e1 := HK1.out.cellOf e1 (by simp)
     have hxl := (HM.out _ (List.mem_of_getElem? hs)).1
     dsimp only at e1 hxl
     have hin := risName_ok x w1 (by omega)
     by_cases hnm : isNm x = true
     ·rw [hnm] at hin
      have HN2 : Hid (∀ f ∈ L.take (k + 1), isNm f.1 = true) := hide (fun f hf => by
       rw [List.take_add_one, hs] at hf
       rcases List.mem_append.1 hf with hf | hf
       ·exact HNM.out f hf
       ·simp only [Option.toList_some, List.mem_singleton] at hf; rw [hf]; exact hnm)
      clear hs s1 e2 hnm HNM
      go_wp2_with (go_at_call 18; refine hin.mono ?_; rintro e w' ⟨rfl, hww⟩; obtain rfl := hww.symm; clear hin)
      go_roundw
      case rel => exact ⟨k + 1, by omega, by go_num, by first | rfl | trivial, HN2⟩
      case measure => simp [intOf]; omega
     ·have hnf : isNm x = false := by simpa using hnm
      rw [hnf] at hin
      have HEE : Hid (loadE r L = 51) := hide (by rw [HE.out, if_pos (fun h => hnm (h _ (List.mem_of_getElem? hs)))])
      clear hs s1 e2 hnm HNM hnf
      go_wp2_with (go_at_call 18; refine hin.mono ?_; rintro e w' ⟨rfl, hww⟩; obtain rfl := hww.symm; clear hin)
      go_ret2
      exact .inl ⟨by rw [HEE.out]; decide, by rw [HEE.out]; rfl, HK1.out⟩
    ·have hkn : k = n := by omega
     subst hkn
     have HNA : Hid (∀ f ∈ L, isNm f.1 = true) := hide (by have h2 := HNM.out; rwa [List.take_of_length_le (by rw [HX.out]; exact Nat.le_refl _)] at h2)
     have HE2 : Hid (loadE r L = if ¬ (L.map (·.1)).Nodup then 52 else if r < (totalOf L : Int) then 55 else 0) := hide (by rw [HE.out, if_neg (not_not_intro HNA.out)])
     clear HNM HE
     generalize k = n at *
     go_wp2
     go_loopw [9, 10] (fun u i wr => ∃ k : Nat, k ≤ n ∧ i = .int .i64 k ∧ u = .int .i64 (totalOf (L.take k) : Nat) ∧ Hid (((L.take k).map (·.1)).Nodup ∧ ∃ A o nv bv tv sv, Rlg w wr q r L k A o nv bv tv sv)) (fun u i wr => n - (intOf i).toNat)
     case atStart => exact ⟨0, Nat.zero_le _, rfl, rfl, hide ⟨by simp, HS.out⟩⟩
     case round =>
      obtain ⟨k, hk, rfl, rfl, HR⟩ := hrel
      have htl := totalOf_le L k
      have hTb := HT.out
      by_cases hlt : k < n
      ·obtain ⟨b1, off, rfl, ⟨x, d⟩, hs, e1w, bo1, bc1, e2w, s1, hzn⟩ := H1.out k (by rw [HX.out]; exact hlt)
       obtain ⟨hnd, A, o, nv, bv, tv, sv, hG⟩ := HR.out
       have htk := totalOf_take L k _ hs
       have htl2 := totalOf_le L (k + 1)
       have hdl := (HM.out _ (List.mem_of_getElem? hs)).2
       dsimp only at htk e1w e2w s1 hdl
       obtain ⟨vo, vc, rfl, _⟩ := own_shape hG.now
       obtain ⟨m, hml⟩ : ∃ m, (ldn L k).length = m := ⟨_, rfl⟩
       have hmk : m ≤ 256 := by rw [← hml]; have := ldn_len L k; omega
       have HML := hide hml
       rw [hml] at hG
       have HNI : Hid (bo1 = none → d.length = 0 ∧ bc1 = 0) := hide hzn
       have HC3 : Hid (Rl3 q b1 off k (.slice vo m vc) x bo1 d.length bc1 wr) := hide ⟨by rw [cell_of_row wr q 2 _ _ _ hG.cells]; rfl, hG.kept.cellOf e1w (by simp), hG.kept.cellOf e2w (by simp)⟩
       have HSD : Hid (Sl wr bo1 d) := hide (s1.kept hG.kept (by simp))
       have HE2W := hide e2w
       have HG := hide hG
       have HPT : Hid (ldn L (k + 1) = (ldn L k).put x k) := hide (by show (ldn L k).put (L.getD k ([], [])).1 k = _; rw [List.getD_eq_getElem?_getD, hs]; rfl)
       have HTH : Hid (thL L k = ⟨d, [], d⟩) := hide (by unfold thL; rw [List.getD_eq_getElem?_getD, hs]; rfl)
       have hkeys := ldn_keys L k (by rw [HX.out]; exact hk) x
       have HZD0 : Hid (d.length ≤ 1000000) := hide hdl
       obtain ⟨z, hzd⟩ : ∃ z, d.length = z := ⟨_, rfl⟩
       have HZD := hide hzd
       have hz1 : z ≤ 1000000 := by rw [← hzd]; exact hdl
       rw [hzd] at HNI HC3 htk HE2W
       have hfx := fix_neg (ldn_up L k) x
       have HKEY := hide hkeys
       have HSX := hide hs
       have HND := hide hnd
       clear hG hs e1w e2w s1 HR hml hzd hdl hkeys hnd hzn
       rcases hfx with ⟨hE, hmem⟩ | ⟨hE, hmem⟩
       ·have HNEW : Hid (x ∉ (L.take k).map (·.1)) := hide (fun h => hmem (HKEY.out.2 h))
        clear hmem
        generalize hfe : fix (ldn L k) x = E at hE
        go_upto_region 15 with (fail)
        have HG0 : Hid (Rlg w wr.drew q r L k A o (.slice vo m vc) bv tv sv) := hide (HG.out.kept' ((Kept.refl [] wr).drew))
        have HD0 : Hid (Sl wr.drew bo1 d) := hide (HSD.out.kept ((Kept.refl [] wr).drew) (by simp))
        clear HG HSD
        refine wp_region_held_drew (S := (Rl3 q b1 off k (.slice vo m vc) x bo1 z bc1)) (by kernel_rfl) (HC3.out.kept ((Kept.refl [] wr).drew)) (fun h0 => ?_)
        generalize World.drew wr = v0 at h0 HG0 HD0 ⊢
        refine wpAnyH_take (i := 0) (v := .pointer (some ⟨q, 0, none⟩)) rfl (by kernel_rfl) (by kernel_rfl) (by kernel_rfl) (fun _ _ _ h => h) (Or.inl ⟨by rfl, fun w hSw => by go_simp⟩) h0 ?_
        try simp only [z1, z2, z3, z4, z5, z6, z7, z8]
        refine wpAnyH_take (i := 1) (v := .pointer (some ⟨q, 0, none⟩)) rfl (by kernel_rfl) (by kernel_rfl) (by kernel_rfl) (fun _ _ _ h => h) (Or.inl ⟨by rfl, fun w hSw => by go_simp⟩) h0 ?_
        try simp only [z1, z2, z3, z4, z5, z6, z7, z8]
        refine wpAnyH_take (i := 2) (v := .pointer (some ⟨q, 2, none⟩)) rfl (by kernel_rfl) (by kernel_rfl) (by kernel_rfl) (fun _ _ _ h => h) (Or.inl ⟨by rfl, fun w hSw => by go_simp⟩) h0 ?_
        try simp only [z1, z2, z3, z4, z5, z6, z7, z8]
        refine wpAnyH_take (i := 3) (v := .slice vo m vc) rfl (by kernel_rfl) (by kernel_rfl) (by kernel_rfl) (fun _ _ _ h => h) (Or.inl ⟨by rfl, fun w hSw => by have c0 := hSw.c2; go_simp⟩) h0 ?_
        try simp only [z1, z2, z3, z4, z5, z6, z7, z8]
        refine wpAnyH_take (i := 4) (v := .slice (some ⟨b1, off, none⟩) n c) rfl (by kernel_rfl) (by kernel_rfl) (by kernel_rfl) (fun _ _ _ h => h) (Or.inl ⟨by rfl, fun w hSw => by go_simp⟩) h0 ?_
        try simp only [z1, z2, z3, z4, z5, z6, z7, z8]
        refine wpAnyH_take (i := 5) (v := .int .i64 k) rfl (by kernel_rfl) (by kernel_rfl) (by kernel_rfl) (fun _ _ _ h => h) (Or.inl ⟨by rfl, fun w hSw => by go_simp⟩) h0 ?_
        try simp only [z1, z2, z3, z4, z5, z6, z7, z8]
        refine wpAnyH_take (i := 6) (v := .pointer (some ⟨b1, off + k * 2, none⟩)) rfl (by kernel_rfl) (by kernel_rfl) (by kernel_rfl) (fun _ _ _ h => h) (Or.inl ⟨by rfl, fun w hSw => by go_simp⟩) h0 ?_
        try simp only [z1, z2, z3, z4, z5, z6, z7, z8]
        refine wpAnyH_take (i := 7) (v := .pointer (some ⟨b1, off + k * 2, none⟩)) rfl (by kernel_rfl) (by kernel_rfl) (by kernel_rfl) (fun _ _ _ h => h) (Or.inl ⟨by rfl, fun w hSw => by go_simp⟩) h0 ?_
        try simp only [z1, z2, z3, z4, z5, z6, z7, z8]
        refine wpAnyH_take (i := 8) (v := encStr x) rfl (by kernel_rfl) (by kernel_rfl) (by kernel_rfl) (fun _ _ _ h => h) (Or.inl ⟨by rfl, fun w hSw => by have c0 := hSw.e1; go_simp⟩) h0 ?_
        try simp only [z1, z2, z3, z4, z5, z6, z7, z8]
        refine wpAnyH_ready (rs := [9]) (by kernel_rfl) (by simp) (AllReadyH.cons (i := 9) rfl (fun K hK => ?_) AllReadyH.nil)
        rw [if_pos (by rfl)]
        go_simp
        refine (rfind_ok vo m vc A (ldn L k) x _ HML.out (by omega) (by have h9 := HG0.out.now; rw [HML.out] at h9; exact h9)).mono ?_
        rintro e v1 ⟨rfl, hw⟩
        obtain rfl := hw.symm
        refine hK.out _ _ (h0) (fun h1 => ?_)
        clear hK K
        try simp only [z1, z2, z3, z4, z5, z6, z7, z8]
        refine wpAnyH_take (i := 10) (v := .bool false) rfl (by kernel_rfl) (by kernel_rfl) (by kernel_rfl) (fun _ _ _ h => h) (Or.inl ⟨by rfl, fun w hSw => by go_simp⟩) h1 ?_
        try simp only [z1, z2, z3, z4, z5, z6, z7, z8]
        refine wpAnyH_done (by kernel_rfl) ?_ _
        go_upto_region 17 with (fail)
        have HG1 : Hid (Rlg w v0.drew q r L k A o (.slice vo m vc) bv tv sv) := hide (HG0.out.kept' ((Kept.refl [] v0).drew))
        have HD1 : Hid (Sl v0.drew bo1 d) := hide (HD0.out.kept ((Kept.refl [] v0).drew) (by simp))
        clear HG0 HD0
        refine wp_region_held_drew (S := (Rl3 q b1 off k (.slice vo m vc) x bo1 z bc1)) (by kernel_rfl) (h1.kept ((Kept.refl [] v0).drew)) (fun hu0 => ?_)
        generalize World.drew v0 = u0 at hu0 HG1 HD1 ⊢
        refine wpAnyH_take (i := 0) (v := .slice (some ⟨b1, off, none⟩) n c) rfl (by kernel_rfl) (by kernel_rfl) (by kernel_rfl) (fun _ _ _ h => h) (Or.inl ⟨by rfl, fun w hSw => by go_simp⟩) hu0 ?_
        try simp only [z1, z2, z3, z4, z5, z6, z7, z8]
        refine wpAnyH_take (i := 1) (v := .int .i64 k) rfl (by kernel_rfl) (by kernel_rfl) (by kernel_rfl) (fun _ _ _ h => h) (Or.inl ⟨by rfl, fun w hSw => by go_simp⟩) hu0 ?_
        try simp only [z1, z2, z3, z4, z5, z6, z7, z8]
        refine wpAnyH_take (i := 2) (v := .pointer (some ⟨b1, off + k * 2, none⟩)) rfl (by kernel_rfl) (by kernel_rfl) (by kernel_rfl) (fun _ _ _ h => h) (Or.inl ⟨by rfl, fun w hSw => by go_simp⟩) hu0 ?_
        try simp only [z1, z2, z3, z4, z5, z6, z7, z8]
        refine wpAnyH_take (i := 3) (v := .pointer (some ⟨b1, off + k * 2 + 1, none⟩)) rfl (by kernel_rfl) (by kernel_rfl) (by kernel_rfl) (fun _ _ _ h => h) (Or.inl ⟨by rfl, fun w hSw => by go_simp⟩) hu0 ?_
        try simp only [z1, z2, z3, z4, z5, z6, z7, z8]
        refine wpAnyH_take (i := 4) (v := .slice bo1 z bc1) rfl (by kernel_rfl) (by kernel_rfl) (by kernel_rfl) (fun _ _ _ h => h) (Or.inl ⟨by rfl, fun w hSw => by have c0 := hSw.e2; go_simp⟩) hu0 ?_
        try simp only [z1, z2, z3, z4, z5, z6, z7, z8]
        refine wpAnyH_take (i := 6) (v := .slice (some ⟨b1, off, none⟩) n c) rfl (by kernel_rfl) (by kernel_rfl) (by kernel_rfl) (fun _ _ _ h => h) (Or.inl ⟨by rfl, fun w hSw => by go_simp⟩) hu0 ?_
        try simp only [z1, z2, z3, z4, z5, z6, z7, z8]
        refine wpAnyH_take (i := 7) (v := .int .i64 k) rfl (by kernel_rfl) (by kernel_rfl) (by kernel_rfl) (fun _ _ _ h => h) (Or.inl ⟨by rfl, fun w hSw => by go_simp⟩) hu0 ?_
        try simp only [z1, z2, z3, z4, z5, z6, z7, z8]
        refine wpAnyH_take (i := 8) (v := .pointer (some ⟨b1, off + k * 2, none⟩)) rfl (by kernel_rfl) (by kernel_rfl) (by kernel_rfl) (fun _ _ _ h => h) (Or.inl ⟨by rfl, fun w hSw => by go_simp⟩) hu0 ?_
        try simp only [z1, z2, z3, z4, z5, z6, z7, z8]
        refine wpAnyH_take (i := 9) (v := .pointer (some ⟨b1, off + k * 2 + 1, none⟩)) rfl (by kernel_rfl) (by kernel_rfl) (by kernel_rfl) (fun _ _ _ h => h) (Or.inl ⟨by rfl, fun w hSw => by go_simp⟩) hu0 ?_
        try simp only [z1, z2, z3, z4, z5, z6, z7, z8]
        refine wpAnyH_take (i := 10) (v := .slice bo1 z bc1) rfl (by kernel_rfl) (by kernel_rfl) (by kernel_rfl) (fun _ _ _ h => h) (Or.inl ⟨by rfl, fun w hSw => by have c0 := hSw.e2; go_simp⟩) hu0 ?_
        try simp only [z1, z2, z3, z4, z5, z6, z7, z8]
        refine wpAnyH_ready (rs := [5]) (by kernel_rfl) (by simp) (AllReadyH.cons (i := 5) rfl (fun K hK => ?_) AllReadyH.nil)
        rw [if_pos (by rfl)]
        go_simp
        refine (copied_ok bo1 z bc1 d _ HZD.out HD1.out HNI.out (by omega)).mono ?_
        rintro e u1 ⟨g1, c1, rfl, ho1, hk1, hn1⟩
        have HO1 := hide ho1
        have HD2 : Hid (Sl u1 bo1 d) := hide (HD1.out.kept hk1 (by simp))
        have HK1' := hide (And.intro hk1 hn1)
        clear ho1
        refine hK.out _ _ (hu0.kept hk1) (fun hu1 => ?_)
        clear hK K
        try simp only [z1, z2, z3, z4, z5, z6, z7, z8]
        refine wpAnyH_ready (rs := [11]) (by kernel_rfl) (by simp) (AllReadyH.cons (i := 11) rfl (fun K hK => ?_) AllReadyH.nil)
        rw [if_pos (by rfl)]
        go_simp
        refine (copied_ok bo1 z bc1 d _ HZD.out HD2.out HNI.out (by omega)).mono ?_
        rintro e u2 ⟨g2, c2', rfl, ho2, hk2, hn2⟩
        have HO2 := hide ho2
        have HK2 := hide (And.intro hk2 hn2)
        clear ho2
        refine hK.out _ _ (hu1.kept hk2) (fun hu2 => ?_)
        clear hK K
        try simp only [z1, z2, z3, z4, z5, z6, z7, z8]
        refine wpAnyH_take (i := 12) (v := .agg #[.slice (some ⟨g1, 0, none⟩) z c1, .slice (some ⟨g2, 0, none⟩) z c2', .slice none 0 0]) rfl (by kernel_rfl) (by kernel_rfl) (by kernel_rfl) (fun _ _ _ h => h) (Or.inl ⟨by rfl, fun w hSw => by go_simp⟩) hu2 ?_
        try simp only [z1, z2, z3, z4, z5, z6, z7, z8]
        refine wpAnyH_ready (rs := [13]) (by kernel_rfl) (by simp) (AllReadyH.cons (i := 13) rfl (fun K hK => ?_) AllReadyH.nil)
        rw [if_pos (by rfl)]
        go_simp
        obtain ⟨u3, hu3e⟩ : ∃ x, x = u2.alloc (.cells #[.slice (some ⟨g1, 0, none⟩) z c1, .slice (some ⟨g2, 0, none⟩) z c2', .slice none 0 0] 78) := ⟨_, rfl⟩
        rw [← hu3e]
        have hk3 : Kept [] u2 u3 := by rw [hu3e]; exact (Kept.refl [] u2).alloc _
        have HT3 : Hid (u3.heap[u2.heap.size]? = some (.cells #[.slice (some ⟨g1, 0, none⟩) z c1, .slice (some ⟨g2, 0, none⟩) z c2', .slice none 0 0] 78 (0, 0))) := hide (by rw [hu3e]; exact (MapKept.heap_alloc u2 _).1)
        have HK3 := hide hk3
        clear hu3e
        refine hK.out _ _ (hu2.kept hk3) (fun hu3 => ?_)
        clear hK K
        try simp only [z1, z2, z3, z4, z5, z6, z7, z8]
        refine wpAnyH_take (i := 14) (v := .pointer (some ⟨u2.heap.size, 0, none⟩)) rfl (by kernel_rfl) (by kernel_rfl) (by kernel_rfl) (fun _ _ _ h => h) (Or.inl ⟨by rfl, fun w hSw => by go_simp⟩) hu3 ?_
        try simp only [z1, z2, z3, z4, z5, z6, z7, z8]
        refine wpAnyH_done (by kernel_rfl) ?_ _
        have hk03 : Kept [] u0 u3 := (HK1'.out.1.trans HK2.out.1 (by simp)).trans HK3.out (by simp)
        have HG3 := hide (HG1.out.kept' hk03)
        have ztb : u0.heap.size ≤ u2.heap.size := by have := HK1'.out.1.size; have := HK2.out.1.size; omega
        have z12 : u0.heap.size ≤ u1.heap.size := HK1'.out.1.size
        have HS1 : Hid (OwnB u3 (.slice (some ⟨g1, 0, none⟩) z c1) z d ∧ OwnB u3 (.slice (some ⟨g2, 0, none⟩) z c2') z d) := hide ⟨((OwnB.of HO1.out).kept HK2.out.1).kept HK3.out, (OwnB.of HO2.out).kept HK3.out⟩
        have HN12 : Hid (u0.heap.size ≤ g1 ∧ u0.heap.size ≤ g2) := hide ⟨HK1'.out.2, by have := HK2.out.2; omega⟩
        have c2 := hu3.c2
        have e1 := hu3.e1
        clear HO1 HO2
        generalize u2.heap.size = tb at HT3 ztb ⊢
        have hwt : Calls Tryz.prog 21 #[.slice vo m vc, encStr x, .pointer (some ⟨tb, 0, none⟩)] u3.drew fun e w' => ∃ v, e = .returned v ∧ Bl u3.drew w' (upd A k tb) v (ldn L (k + 1)) := by
         rw [HPT.out]
         exact with_ok vo m vc (upd A k tb) (ldn L k) x k tb (upd_same _ _ _) u3.drew HML.out (by omega) (by have h9 := (HG3.out.kept' ((Kept.refl [] u3).drew)).now' tb; rw [HML.out] at h9; exact h9)
        have HG4 : Hid (Rlg w u3.drew q r L k A o (.slice vo m vc) bv tv sv) := hide (HG3.out.kept' ((Kept.refl [] u3).drew))
        have HK4 : Hid (Kept [] u0 u3.drew) := hide (hk03.drew)
        have HT4 : Hid (u3.drew.heap[tb]? = some (.cells #[.slice (some ⟨g1, 0, none⟩) z c1, .slice (some ⟨g2, 0, none⟩) z c2', .slice none 0 0] 78 (0, 0))) := hide HT3.out
        have HS4 : Hid (OwnB u3.drew (.slice (some ⟨g1, 0, none⟩) z c1) z d ∧ OwnB u3.drew (.slice (some ⟨g2, 0, none⟩) z c2') z d) := hide ⟨HS1.out.1.kept ((Kept.refl [] u3).drew), HS1.out.2.kept ((Kept.refl [] u3).drew)⟩
        clear hk03 HK1' HK2 HK3 HT3 HS1
        go_upto_region 18 with (fail)
        refine wp_region_late (fun w' => Kept [] u3 w') (fun i => i == 11 || i == 14) (by kernel_rfl) ?_
        have hy0 : Kept [] u3 u3.drew := (Kept.refl [] u3).drew
        generalize World.drew u3 = y0 at hy0 HG4 hwt HK4 HT4 HS4 ⊢
        refine wpAnyL_free (i := 0) (v := .pointer (some ⟨q, 0, none⟩)) rfl (by kernel_rfl) (by kernel_rfl) (by kernel_rfl) (fun _ _ _ h => h) (Or.inl ⟨by rfl, fun w _ => by go_simp⟩) ?_
        try simp only [z1, z2, z3, z4, z5, z6, z7, z8]
        refine wpAnyL_free (i := 1) (v := .pointer (some ⟨q, 0, none⟩)) rfl (by kernel_rfl) (by kernel_rfl) (by kernel_rfl) (fun _ _ _ h => h) (Or.inl ⟨by rfl, fun w _ => by go_simp⟩) ?_
        try simp only [z1, z2, z3, z4, z5, z6, z7, z8]
        refine wpAnyL_free (i := 2) (v := .pointer (some ⟨q, 0, none⟩)) rfl (by kernel_rfl) (by kernel_rfl) (by kernel_rfl) (fun _ _ _ h => h) (Or.inl ⟨by rfl, fun w _ => by go_simp⟩) ?_
        try simp only [z1, z2, z3, z4, z5, z6, z7, z8]
        refine wpAnyL_free (i := 3) (v := .pointer (some ⟨q, 2, none⟩)) rfl (by kernel_rfl) (by kernel_rfl) (by kernel_rfl) (fun _ _ _ h => h) (Or.inl ⟨by rfl, fun w _ => by go_simp⟩) ?_
        try simp only [z1, z2, z3, z4, z5, z6, z7, z8]
        refine wpAnyL_take (i := 4) (v := .slice vo m vc) rfl (by kernel_rfl) (by kernel_rfl) (by kernel_rfl) (by kernel_rfl) (by kernel_rfl) (fun _ _ _ h => h) (Or.inl ⟨by rfl, fun w hSw => by have q0 := Kept.cellOf hSw c2 (by simp); go_simp⟩) hy0 ?_
        try simp only [z1, z2, z3, z4, z5, z6, z7, z8]
        refine wpAnyL_free (i := 5) (v := .slice (some ⟨b1, off, none⟩) n c) rfl (by kernel_rfl) (by kernel_rfl) (by kernel_rfl) (fun _ _ _ h => h) (Or.inl ⟨by rfl, fun w _ => by go_simp⟩) ?_
        try simp only [z1, z2, z3, z4, z5, z6, z7, z8]
        refine wpAnyL_free (i := 6) (v := .int .i64 k) rfl (by kernel_rfl) (by kernel_rfl) (by kernel_rfl) (fun _ _ _ h => h) (Or.inl ⟨by rfl, fun w _ => by go_simp⟩) ?_
        try simp only [z1, z2, z3, z4, z5, z6, z7, z8]
        refine wpAnyL_free (i := 7) (v := .pointer (some ⟨b1, off + k * 2, none⟩)) rfl (by kernel_rfl) (by kernel_rfl) (by kernel_rfl) (fun _ _ _ h => h) (Or.inl ⟨by rfl, fun w _ => by go_simp⟩) ?_
        try simp only [z1, z2, z3, z4, z5, z6, z7, z8]
        refine wpAnyL_free (i := 8) (v := .pointer (some ⟨b1, off + k * 2, none⟩)) rfl (by kernel_rfl) (by kernel_rfl) (by kernel_rfl) (fun _ _ _ h => h) (Or.inl ⟨by rfl, fun w _ => by go_simp⟩) ?_
        try simp only [z1, z2, z3, z4, z5, z6, z7, z8]
        refine wpAnyL_take (i := 9) (v := encStr x) rfl (by kernel_rfl) (by kernel_rfl) (by kernel_rfl) (by kernel_rfl) (by kernel_rfl) (fun _ _ _ h => h) (Or.inl ⟨by rfl, fun w hSw => by have q0 := Kept.cellOf hSw e1 (by simp); go_simp⟩) hy0 ?_
        try simp only [z1, z2, z3, z4, z5, z6, z7, z8]
        refine wpAnyL_free (i := 10) (v := .pointer (some ⟨tb, 0, none⟩)) rfl (by kernel_rfl) (by kernel_rfl) (by kernel_rfl) (fun _ _ _ h => h) (Or.inl ⟨by rfl, fun w _ => by go_simp⟩) ?_
        try simp only [z1, z2, z3, z4, z5, z6, z7, z8]
        refine wpAnyL_one (i := 11) (by kernel_rfl) rfl (fun K hK => ?_)
        rw [if_pos (by rfl)]
        go_simp
        refine hwt.mono ?_
        rintro e w4 ⟨v4, rfl, hB4⟩
        obtain ⟨vo4, vc4, hv4, _⟩ := own_shape hB4.row
        subst hv4
        have HB4 := hide hB4
        have c4 : w4.cell? ⟨q, 2, none⟩ = some (.slice vo m vc) := by rw [cell_of_row w4 q 2 _ _ _ ((HB4.out.keep.block q HG4.out.qlt (by simp)).trans HG4.out.cells)]; rfl
        have f4 : w4.frozen? ⟨q, 2, none⟩ = false := frozen_of_row _ _ _ _ _ ((HB4.out.keep.block q HG4.out.qlt (by simp)).trans HG4.out.cells)
        clear hwt hB4 c2 e1
        refine hK.out _ _ (fun _ h => by cases h) ?_
        clear hK K
        try simp only [z1, z2, z3, z4, z5, z6, z7, z8]
        refine wpAnyL_free (i := 12) (v := .pointer (some ⟨q, 0, none⟩)) rfl (by kernel_rfl) (by kernel_rfl) (by kernel_rfl) (fun _ _ _ h => h) (Or.inl ⟨by rfl, fun w _ => by go_simp⟩) ?_
        try simp only [z1, z2, z3, z4, z5, z6, z7, z8]
        refine wpAnyL_free (i := 13) (v := .pointer (some ⟨q, 2, none⟩)) rfl (by kernel_rfl) (by kernel_rfl) (by kernel_rfl) (fun _ _ _ h => h) (Or.inl ⟨by rfl, fun w _ => by go_simp⟩) ?_
        try simp only [z1, z2, z3, z4, z5, z6, z7, z8]
        refine wpAnyL_one (i := 14) (by kernel_rfl) rfl (fun K hK => ?_)
        rw [if_pos (by rfl)]
        go_simp
        refine hK.out _ _ (fun _ h => by cases h) ?_
        clear hK K
        try simp only [z1, z2, z3, z4, z5, z6, z7, z8]
        refine wpAnyL_done (by kernel_rfl) ?_ _
        obtain ⟨w5, hw5⟩ : ∃ x, x = w4.setCell ⟨q, 2, none⟩ (.slice vo4 (ldn L (k + 1)).length vc4) := ⟨_, rfl⟩
        rw [← hw5]
        have hR5 := HG1.out.step (bv := bv) (tv := tv) (sv := sv) HK4.out HT4.out ztb (by rw [HTH.out]; show OwnB y0 _ d.length d; rw [HZD.out]; exact HS4.out.1) (by rw [HTH.out]; show OwnB y0 _ d.length d; rw [HZD.out]; exact HS4.out.2) (fun g hg => by cases hg; exact HN12.out.1) (fun g hg => by cases hg; exact HN12.out.2) HB4.out hw5
        have e2 := hR5.kept.cellOf HE2W.out (by simp)
        have HZ5 : Hid (((L.take (k + 1)).map (·.1)).Nodup ∧ ∃ A o nv bv tv sv, Rlg w w5 q r L (k + 1) A o nv bv tv sv) := hide ⟨take_nodup_step HSX.out HND.out HNEW.out, _, _, _, _, _, _, hR5⟩
        clear hR5 HG1 HG3 HG4 HK4 HT4 HS4 HB4 hw5 c4 f4 HN12 ztb z12 hu0 hu1 hu2 hu3 h0 h1 HC3
        go_wp2
        go_roundw
        case rel => exact ⟨k + 1, by omega, by go_num, by rw [htk]; go_num, HZ5⟩
        case measure => simp [intOf]; omega
       ·have HEE : Hid (loadE r L = 52) := hide (by rw [HE2.out, if_pos (take_nodup_bad HSX.out (HKEY.out.1 hmem))])
        clear hmem
        generalize hfe : fix (ldn L k) x = E at hE
        go_upto_region 15 with (fail)
        have HG0 : Hid (Rlg w wr.drew q r L k A o (.slice vo m vc) bv tv sv) := hide (HG.out.kept' ((Kept.refl [] wr).drew))
        have HD0 : Hid (Sl wr.drew bo1 d) := hide (HSD.out.kept ((Kept.refl [] wr).drew) (by simp))
        clear HG HSD
        refine wp_region_held_drew (S := (Rl3 q b1 off k (.slice vo m vc) x bo1 z bc1)) (by kernel_rfl) (HC3.out.kept ((Kept.refl [] wr).drew)) (fun h0 => ?_)
        generalize World.drew wr = v0 at h0 HG0 HD0 ⊢
        refine wpAnyH_take (i := 0) (v := .pointer (some ⟨q, 0, none⟩)) rfl (by kernel_rfl) (by kernel_rfl) (by kernel_rfl) (fun _ _ _ h => h) (Or.inl ⟨by rfl, fun w hSw => by go_simp⟩) h0 ?_
        try simp only [z1, z2, z3, z4, z5, z6, z7, z8]
        refine wpAnyH_take (i := 1) (v := .pointer (some ⟨q, 0, none⟩)) rfl (by kernel_rfl) (by kernel_rfl) (by kernel_rfl) (fun _ _ _ h => h) (Or.inl ⟨by rfl, fun w hSw => by go_simp⟩) h0 ?_
        try simp only [z1, z2, z3, z4, z5, z6, z7, z8]
        refine wpAnyH_take (i := 2) (v := .pointer (some ⟨q, 2, none⟩)) rfl (by kernel_rfl) (by kernel_rfl) (by kernel_rfl) (fun _ _ _ h => h) (Or.inl ⟨by rfl, fun w hSw => by go_simp⟩) h0 ?_
        try simp only [z1, z2, z3, z4, z5, z6, z7, z8]
        refine wpAnyH_take (i := 3) (v := .slice vo m vc) rfl (by kernel_rfl) (by kernel_rfl) (by kernel_rfl) (fun _ _ _ h => h) (Or.inl ⟨by rfl, fun w hSw => by have c0 := hSw.c2; go_simp⟩) h0 ?_
        try simp only [z1, z2, z3, z4, z5, z6, z7, z8]
        refine wpAnyH_take (i := 4) (v := .slice (some ⟨b1, off, none⟩) n c) rfl (by kernel_rfl) (by kernel_rfl) (by kernel_rfl) (fun _ _ _ h => h) (Or.inl ⟨by rfl, fun w hSw => by go_simp⟩) h0 ?_
        try simp only [z1, z2, z3, z4, z5, z6, z7, z8]
        refine wpAnyH_take (i := 5) (v := .int .i64 k) rfl (by kernel_rfl) (by kernel_rfl) (by kernel_rfl) (fun _ _ _ h => h) (Or.inl ⟨by rfl, fun w hSw => by go_simp⟩) h0 ?_
        try simp only [z1, z2, z3, z4, z5, z6, z7, z8]
        refine wpAnyH_take (i := 6) (v := .pointer (some ⟨b1, off + k * 2, none⟩)) rfl (by kernel_rfl) (by kernel_rfl) (by kernel_rfl) (fun _ _ _ h => h) (Or.inl ⟨by rfl, fun w hSw => by go_simp⟩) h0 ?_
        try simp only [z1, z2, z3, z4, z5, z6, z7, z8]
        refine wpAnyH_take (i := 7) (v := .pointer (some ⟨b1, off + k * 2, none⟩)) rfl (by kernel_rfl) (by kernel_rfl) (by kernel_rfl) (fun _ _ _ h => h) (Or.inl ⟨by rfl, fun w hSw => by go_simp⟩) h0 ?_
        try simp only [z1, z2, z3, z4, z5, z6, z7, z8]
        refine wpAnyH_take (i := 8) (v := encStr x) rfl (by kernel_rfl) (by kernel_rfl) (by kernel_rfl) (fun _ _ _ h => h) (Or.inl ⟨by rfl, fun w hSw => by have c0 := hSw.e1; go_simp⟩) h0 ?_
        try simp only [z1, z2, z3, z4, z5, z6, z7, z8]
        refine wpAnyH_ready (rs := [9]) (by kernel_rfl) (by simp) (AllReadyH.cons (i := 9) rfl (fun K hK => ?_) AllReadyH.nil)
        rw [if_pos (by rfl)]
        go_simp
        refine (rfind_ok vo m vc A (ldn L k) x _ HML.out (by omega) (by have h9 := HG0.out.now; rw [HML.out] at h9; exact h9)).mono ?_
        rintro e v1 ⟨rfl, hw⟩
        obtain rfl := hw.symm
        refine hK.out _ _ (h0) (fun h1 => ?_)
        clear hK K
        try simp only [z1, z2, z3, z4, z5, z6, z7, z8]
        refine wpAnyH_take (i := 10) (v := .bool true) rfl (by kernel_rfl) (by kernel_rfl) (by kernel_rfl) (fun _ _ _ h => h) (Or.inl ⟨by rfl, fun w hSw => by go_simp⟩) h1 ?_
        try simp only [z1, z2, z3, z4, z5, z6, z7, z8]
        refine wpAnyH_done (by kernel_rfl) ?_ _
        have HKV := hide HG0.out.kept
        clear HG0 HD0 h0 h1
        go_wp2
        go_ret2
        exact .inl ⟨by rw [HEE.out]; decide, by rw [HEE.out]; rfl, HKV.out⟩
      ·have hkn : k = n := by omega
       subst hkn
       have hte : L.take k = L := List.take_of_length_le (by rw [HX.out]; exact Nat.le_refl _)
       obtain ⟨hnd, A, o, nv, bv, tv, sv, hG⟩ := HR.out
       rw [hte] at hnd htl
       rw [hte]
       have HE3 : Hid (loadE r L = if r < (totalOf L : Int) then 55 else 0) := hide (by rw [HE2.out, if_neg (not_not_intro hnd)])
       clear HR hnd hte
       by_cases hfull : r < (totalOf L : Int)
       ·have HEE : Hid (loadE r L = 55) := hide (by rw [HE3.out, if_pos hfull])
        have HKV := hide hG.kept
        clear hG
        go_wp2
        go_ret2
        exact .inl ⟨by rw [HEE.out]; decide, by rw [HEE.out]; rfl, HKV.out⟩
       ·have HEE : Hid (loadE r L = 0) := hide (by rw [HE3.out, if_neg hfull])
        obtain ⟨vo, vc, rfl, _⟩ := own_shape hG.now
        have c2 : wr.cell? ⟨q, 2, none⟩ = some (.slice vo (ldn L k).length vc) := by rw [cell_of_row wr q 2 _ _ _ hG.cells]; rfl
        have c3 : wr.cell? ⟨q, 3, none⟩ = some bv := by rw [cell_of_row wr q 3 _ _ _ hG.cells]; rfl
        have f3 : wr.frozen? ⟨q, 3, none⟩ = false := frozen_of_row _ _ _ _ _ hG.cells
        have hdn := fun w' (hw : w' = wr.setCell ⟨q, 3, none⟩ (.slice vo (ldn L k).length vc)) => (show Rlg w wr q r L L.length A o (.slice vo (ldn L k).length vc) bv tv sv by rw [HX.out]; exact hG).done ⟨hr1, hr2⟩ HNA.out hw
        have HDN := hide hdn
        clear hG hdn
        go_wp2
        go_ret2
        exact .inr ⟨HEE.out, q, rfl, A, o, HDN.out _ rfl⟩
  ·have he : loadE r L = 56 := by unfold loadE; rw [if_neg (by simp [hr1, hr2]), if_pos (by omega)]
   rw [he]
   clear hx h1 hM hT hre he
   go_enter Tryz.func7, Tryz.ntmps7
   go_wp2_with (go_at_call 17; refine hnew.mono ?_; rintro e w1 ⟨q, rfl, A, o, hR, hno, hk1⟩; have HK1 := hide hk1; clear hnew hR hno hk1)
   go_ret2
   exact .inl ⟨by decide, rfl, HK1.out⟩
 ·have he : loadE r L = 1 := by unfold loadE; rw [if_pos hr]
  have hre : roomE r = 1 := by unfold roomE; rw [if_pos (by omega)]
  have hnew := rnewBad_ok r w hre
  rw [he]
  clear hx h1 hM hT hre he hr
  go_enter Tryz.func7, Tryz.ntmps7
  go_wp2_with (go_at_call 17; refine hnew.mono ?_; rintro e w1 ⟨rfl, hww⟩; obtain rfl := hww.symm; clear hnew)
  go_ret2
  exact .inl ⟨by decide, rfl, Kept.refl [] w⟩
end Go.Proofs.YteckiednnaianaaGreat
