/-
  Contract: freightlaw9.plain. (Written by tools/qpb.py.)
-/
import Derived.Test.YtngaimahhgmciabGreatDoorQpav
import Derived.Deep.CutRange
namespace Go.Proofs.YtngaimahhgmciabGreatDoor
open Go.RowKit Go.Lib Go.Sort
set_option linter.unusedVariables false
set_option linter.unusedSimpArgs false

theorem it_at {w : World} {b o : Nat} {x : It9} (h : w.rangeAt b o x.cells) : w.rangeAt b o (bys x.id) ∧ w.cell? ⟨b, o + 32, none⟩ = some x.dv ∧ w.cell? ⟨b, o + 33, none⟩ = some (.int .i64 x.code) ∧ w.cell? ⟨b, o + 34, none⟩ = some (.bool x.wrp) := by
  have e : (bys x.id).length = 32 := by rw [bys_length, x.hi]
  have hr : ∀ j, x.cells[32 + j]? = [x.dv, Value.int .i64 x.code, Value.bool x.wrp][j]? := fun j => by
    unfold It9.cells
    rw [List.getElem?_append_right (by omega), e]
    congr 1
    omega
  refine ⟨fun j v hv => h j v ?_, h 32 _ (hr 0), h 33 _ (hr 1), h 34 _ (hr 2)⟩
  unfold It9.cells
  rw [List.getElem?_append_left (List.getElem?_eq_some_iff.1 hv).1]
  exact hv
def zeroS : Array Value := #[.slice none 0 0, .slice none 0 0, .slice none 0 0]
theorem Tryz.zeroSr9 (W : World) : (zeroValue 70).run Tryz.prog W = .ok (.agg zeroS) W := by kernel_rfl
theorem Tryz.infoSr9 : (Tryz.prog.info? 70).map (·.size) = some 3 := by kernel_rfl
/-- What plain answers. -/
structure Src9 (w w' : World) (L : List It9) (vi vd vc : Value) : Prop where
  ids : OwnI w' w.heap.size vi (ids9 L)
  dat : w'.ownsRow w.heap.size 33 1 vd (dat9 L (ids9 L)).length (dat9 L (ids9 L))
  cod : w'.ownsRow w.heap.size 3 1 vc (cod9 L (ids9 L)).length (cod9 L (ids9 L))
  kp : Kept [] w w'
theorem own_one9 {w : World} {b : Nat} {e : TypeId} {v : Value} {n : Nat} {xs : List Value} (h : w.ownsRow b e 1 v n xs) : v.oneCell' = true := by
  obtain ⟨ao, c, e, _⟩ := own_shape h
  rw [e]; rfl
theorem one3 {w3 w : World} {B : Nat} {vi vd vc : Value} {I : List (List UInt8)} {D C : List Value} (h : Ps9 w3 w B vi vd vc I D C) : (#[vi, vd, vc] : Array Value).all (·.oneCell') = true := by
  have h1 : vi.oneCell' = true := by obtain ⟨ao, c, e, _⟩ := own_shape h.i.1; rw [e]; rfl
  have h2 := own_one9 h.d
  have h3 := own_one9 h.c
  simp [h1, h2, h3]
theorem src_done {w w3 w5 : World} {BR BS : Nat} {vi vd vc : Value} {K : List (List UInt8)} {L : List It9} (h : Ps9 w3 w5 BS vi vd vc K (dat9 L K) (cod9 L K)) (hk : Kept [] w w3) (hS : BS = w.heap.size + 1) (hR : BR = w.heap.size) (hK : canon ((L.take 60).map (·.id)) = K) (hrow : w5.heap[BR]? = some (.cells zeroS 70 (0, 0))) : Src9 w (w5.setRow BR #[vi, vd, vc]) L vi vd vc := by
  obtain ⟨q1, q2, q3, q4, q5, q6⟩ := ne_idB
  have hK : K = ids9 L := hK.symm
  rw [hK] at h
  have ks : Kept [BR] w5 (w5.setRow BR #[vi, vd, vc]) := kept_rowK (Kept.refl [BR] w5) (fun _ => by simp) _
  have hs := hk.size
  have hbase : ∀ {e : TypeId} {s : Nat} {v : Value} {n : Nat} {xs : List Value}, w5.ownsRow w3.heap.size e s v n xs → e ≠ 70 → (w5.setRow BR #[vi, vd, vc]).ownsRow w.heap.size e s v n xs := fun h1 hne => own_base9 (own_kept9 h1 ks (fun g hg => by simp only [List.mem_singleton]; rintro rfl; exact own_cell9 h1 hrow hne hg)) hs
  refine ⟨⟨hbase h.i.1 q4, h.i.2⟩, hbase h.d q5, hbase h.c q6, ?_⟩
  refine kept_rowK ?_ (fun hlt => by omega) _
  exact hk.trans h.kp (fun q hq hlt => by simp at hq; omega)

set_option maxHeartbeats 3200000 in
set_option maxRecDepth 100000 in
theorem plain9_ok (ao : Option Addr) (n cap : Nat) (L : List It9) (w : World) (h : InI w ao n cap L) :
    Calls Tryz.prog 21 #[.slice ao n cap] w fun e w' => ∃ vi vd vc, e = .returned (.agg #[vi, vd, vc]) ∧ Src9 w w' L vi vd vc := by
  have HL := hide h.its
  have HN := hide h.len
  have hcm := h.max
  have hnc := h.le
  have hn : n ≤ 4611686018427387904 := by omega
  have hz := Tryz.zeroSr9
  obtain ⟨BR, hBR⟩ : ∃ r, r = w.heap.size := ⟨_, rfl⟩
  obtain ⟨BS, hBS⟩ : ∃ r, r = w.heap.size + 1 := ⟨_, rfl⟩
  have g1 := heap_alloc2_old w (.cells zeroS 70) (.cells zeroS 70)
  have g2 := heap_alloc2_new w (.cells zeroS 70) (.cells zeroS 70)
  have hk0 : Kept [] w ((w.alloc (.cells zeroS 70)).alloc (.cells zeroS 70)) := ((Kept.refl [] w).alloc _).alloc _
  rw [← hBR] at g1
  rw [← hBS] at g2
  have HKW := hide hk0
  have HZ := hide (And.intro g1 g2)
  have HBN : Hid (BS = w.heap.size + 1 ∧ BR = w.heap.size) := hide ⟨hBS, hBR⟩
  have HBW : Hid (BS < ((w.alloc (.cells zeroS 70)).alloc (.cells zeroS 70)).heap.size) := hide (Array.getElem?_eq_some_iff.1 g2).1
  clear h hcm hnc hk0 g1 g2
  go_enter Tryz.func21, Tryz.ntmps21
  go_upto_region 3 with (fail)
  rw [← hBS, ← hBR]
  clear hBS hBR hz
  generalize (w.alloc _).alloc _ = w2 at HKW HZ HBW ⊢
  go_wp2
  go_loopw [4, 5] (fun x y wr => ∃ (k : Nat) (oo : Option Addr) (on oc : Nat), k ≤ n ∧ x = .slice oo on oc ∧ y = .int .i64 k ∧ Hid (OwnI wr w2.heap.size (.slice oo on oc) (canon ((L.take k).map (·.id))) ∧ Kept [] w2 wr ∧ k ≤ 60)) (fun x y wr => n - (intOf y).toNat)
  case atStart => exact ⟨0, none, 0, 0, by omega, rfl, rfl, hide ⟨⟨World.ownsRow_nil _ _ _ _, fun i hi => absurd (mem_canon.1 hi) (by simp)⟩, Kept.refl _ _, by omega⟩⟩
  case round =>
    obtain ⟨k, oo, on, oc, hk, rfl, rfl, HI⟩ := hrel
    have hk60 := HI.out.2.2
    go_upto_region 4 with (fail)
    go_cut [15] from 8 to 24 (fun y wx => ∃ bb : Bool, y = .bool bb ∧ Hid (bb = decide (k < n ∧ k < 60)) ∧ wx = wr)
    case first =>
      by_cases h1 : k < n
      · by_cases h2 : k < 60
        · have g1 : (k : Int) < (n : Int) := by omega
          have g2 : (k : Int) < 60 := by omega
          go_wp2
          go_meet
          case rel => exact ⟨true, rfl, hide (by simp [h1, h2]), rfl⟩
        · have g1 : (k : Int) < (n : Int) := by omega
          have g2 : ¬ (k : Int) < 60 := by omega
          go_wp2
          go_meet
          case rel => exact ⟨false, rfl, hide (by simp [h2]), rfl⟩
      · have g1 : ¬ (k : Int) < (n : Int) := by omega
        go_wp2
        go_meet
        case rel => exact ⟨false, rfl, hide (by simp [h1]), rfl⟩
    case rest =>
      obtain ⟨bb, rfl, HBB, hwc⟩ := hcut
      obtain rfl := hwc.symm
      cases bb with
      | true =>
        have hc : k < n ∧ k < 60 := by simpa using HBB.out.symm
        have hkl : k < L.length := by rw [HN.out]; exact hc.1
        obtain ⟨⟨b, off, hab, hcells⟩, _⟩ := HL.out k hkl
        subst hab
        have hpa := it_at (w := wr) (fun jj u hu => (HKW.out.trans HI.out.2.1 (by simp)).cellOf (hcells jj u hu) (by simp))
        obtain ⟨x, hxi⟩ : ∃ y, (L.getD k it0).id = y := ⟨_, rfl⟩
        have hx : x.length = 32 := by rw [← hxi]; exact (L.getD k it0).hi
        have HTK : Hid (canon ((L.take (k + 1)).map (·.id)) = wth (canon ((L.take k).map (·.id))) x) := hide (by
          have e : L[k].id = x := by rw [← hxi]; simp [List.getElem?_eq_getElem hkl]
          rw [List.take_succ_eq_append_getElem hkl, List.map_append]
          unfold canon
          rw [List.foldl_append]
          simp only [List.map_cons, List.map_nil, List.foldl_cons, List.foldl_nil]
          rw [e])
        rw [hxi] at hpa
        have hrx := hpa.1
        have hxl := idl x hx
        have hcl : (canon ((L.take k).map (·.id))).length ≤ 60 := by
          have h1 := canon_len ((L.take k).map (·.id))
          rw [List.length_map, List.length_take] at h1
          omega
        have hwi := with9_ok w2.heap.size oo on oc _ x wr HI.out.1 HI.out.2.1.size (up_canon _) hx (by omega)
        have HIK := hide HI.out.2.1
        have hc1 : k < 60 := hc.2
        have hc2 : k < n := hc.1
        clear hpa hcells hxi hkl HBB HI hcl hc
        go_wp2_with (first
          | refine wpList_load_mid rfl 36 (.tmp 22) rfl b (off + k * 35) rfl (bys x) _ hrx Tryz.underlying36 rfl hxl ?_
          | (go_at_call 30; refine hwi.mono ?_; rintro e w9 ⟨v, rfl, hov, hk9⟩; obtain ⟨q1, q2, hvv, hcc⟩ := own_shape hov.1; obtain ⟨n9, hn9⟩ : ∃ n9, (wth (canon ((L.take k).map (·.id))) x).length = n9 := ⟨_, rfl⟩; rw [hn9] at hvv; subst hvv; have H9 := hide (And.intro hov (HIK.out.trans hk9 (by simp))); clear hwi hov hk9 hcc hn9))
        go_roundw
        case rel => exact ⟨k + 1, _, _, _, by omega, rfl, by go_num, hide ⟨by rw [HTK.out]; exact H9.out.1, H9.out.2, by omega⟩⟩
        case measure => simp [intOf]; omega
      | false =>
        have hc : ¬ (k < n ∧ k < 60) := by simpa using HBB.out.symm
        have HTK : Hid (canon ((L.take 60).map (·.id)) = canon ((L.take k).map (·.id))) := hide (by
          by_cases h60 : k = 60
          · rw [h60]
          · have : n ≤ k := by omega
            rw [List.take_of_length_le (by have := HN.out; omega), List.take_of_length_le (by have := HN.out; omega)])
        obtain ⟨K, hK⟩ : ∃ K, canon ((L.take k).map (·.id)) = K := ⟨_, rfl⟩
        have HKE : Hid (canon ((L.take 60).map (·.id)) = K) := hide (by rw [HTK.out, hK])
        have HO := hide HI.out.1
        rw [hK] at HO
        have HM : Hid (K.length = on) := hide HO.out.ids.2.1.symm
        have HKW2 := hide HI.out.2.1
        have hm60 : on ≤ 60 := by
          rw [← HM.out, ← HKE.out]
          exact ids9_len L
        have HBS3 : Hid (wr.heap[BS]? = some (.cells zeroS 70 (0, 0)) ∧ wr.heap[BR]? = some (.cells zeroS 70 (0, 0))) := hide ⟨by rw [HKW2.out.block BS (Array.getElem?_eq_some_iff.1 HZ.out.2).1 (by simp)]; exact HZ.out.2, by rw [HKW2.out.block BR (Array.getElem?_eq_some_iff.1 HZ.out.1).1 (by simp)]; exact HZ.out.1⟩
        clear HTK hc hK HBB hk60 HI
        obtain ⟨w3, rfl⟩ : ∃ w3, w3 = wr := ⟨_, rfl⟩
        obtain ⟨cK, rfl⟩ : ∃ cK, cK = oc := ⟨_, rfl⟩
        obtain ⟨m, rfl⟩ : ∃ m, m = on := ⟨_, rfl⟩
        have HW3 := hide (HKW.out.trans HKW2.out (by simp))
        have HON : Hid (∀ g o, oo = some ⟨g, o, none⟩ → g ≠ BS) := hide (fun g o e => by
          subst e
          rcases HO.out.1.2 with ⟨e, _⟩ | ⟨g2, c2, cur, e, hb, _⟩
          · cases e
          · injection e with e
            injection e with e
            injection e with e _ _
            have := HBW.out
            omega)
        have HBR := hide HBS3.out.2
        have HP0 : Hid (Ps9 w3 w3 BS (.slice none 0 0) (.slice none 0 0) (.slice none 0 0) [] [] []) := hide ⟨HBS3.out.1, ⟨World.ownsRow_nil _ _ _ _, by simp⟩, World.ownsRow_nil _ _ _ _, World.ownsRow_nil _ _ _ _, Kept.refl _ _, (Array.getElem?_eq_some_iff.1 HBS3.out.1).1⟩
        have HOK : Hid (OwnI w3 w2.heap.size (.slice oo m cK) K) := HO
        clear HO HBS3 HKW HKW2
        have HKW := HW3
        clear HW3
        go_wp2
        go_loopw [6] (fun y wr => ∃ j : Nat, j ≤ m ∧ y = .int .i64 j ∧ Hid (∃ vi vd vc, Ps9 w3 wr BS vi vd vc (K.take j) (dat9 L (K.take j)) (cod9 L (K.take j)))) (fun y wr => m - (intOf y).toNat)
        case atStart => exact ⟨0, by omega, rfl, hide ⟨_, _, _, HP0.out⟩⟩
        case round =>
          clear HP0
          obtain ⟨j, hj, rfl, HI⟩ := hrel
          by_cases hlt : j < m
          · have hjl : j < K.length := by rw [HM.out]; exact hlt
            obtain ⟨vi, vd, vc, hps⟩ := HI.out
            have HP := hide hps
            have HJL : Hid ((K.take j).length = j) := hide (by rw [List.length_take]; omega)
            have HJD : Hid ((dat9 L (K.take j)).length = j) := hide (by unfold dat9; rw [List.length_map, List.length_take]; omega)
            have HJC : Hid ((cod9 L (K.take j)).length = j) := hide (by unfold cod9; rw [List.length_map, List.length_take]; omega)
            have HTK : Hid (K.take (j + 1) = K.take j ++ [K.getD j []]) := hide (by rw [List.take_succ_eq_append_getElem hjl, List.getD_eq_getElem?_getD, List.getElem?_eq_getElem hjl]; rfl)
            have HQM : Hid (K.getD j [] ∈ (L.take 60).map (·.id)) := hide (mem_canon.1 (by rw [HKE.out]; exact gmem9 hjl))
            have hq : (K.getD j []).length = 32 := HOK.out.2 _ (gmem9 hjl)
            obtain ⟨g3, o3, hao, hrq3⟩ := HOK.out.ids.1.1 j hjl
            subst hao
            have HNQ : Hid (g3 ≠ BS) := hide (fun e => HON.out g3 o3 rfl e)
            obtain ⟨q, hqe⟩ : ∃ q, K.getD j [] = q := ⟨_, rfl⟩
            rw [hqe] at hrq3 hq HTK HQM
            have HRQ := hide hrq3
            have hql := idl q hq
            have hltj1 : (j : Int) < (m : Int) := by omega
            clear hps HI hrq3 hqe hjl
            go_wp2
            obtain ⟨wo, rfl⟩ : ∃ wo, wo = wr := ⟨_, rfl⟩
            go_loopw [7] (fun y wx => ∃ k : Nat, k ≤ n ∧ y = .int .i64 k ∧ Hid (Kept [] wo wx ∧ ∀ z, z < k → (L.getD z it0).id ≠ q)) (fun y wx => n - (intOf y).toNat)
            case atStart => exact ⟨0, by omega, rfl, hide ⟨Kept.refl _ _, fun z hz => by omega⟩⟩
            case round =>
              obtain ⟨k, hk, rfl, HC⟩ := hrel
              by_cases hltk : k < n
              · have hkl : k < L.length := by rw [HN.out]; exact hltk
                obtain ⟨⟨b, off, hab, hcells⟩, _⟩ := HL.out k hkl
                subst hab
                obtain ⟨it, hit⟩ : ∃ it, L.getD k it0 = it := ⟨_, rfl⟩
                rw [hit] at hcells
                have HNB : Hid (b ≠ BS) := hide (fun e => by
                  have h2 := World.block_lt_of_cell? _ _ (hcells 0 _ (List.getElem?_eq_getElem (by rw [It9.len]; omega)))
                  have := HBN.out
                  simp only at h2
                  omega)
                have hc3 : w3.rangeAt b (off + k * 35) it.cells := fun jj u hu => HKW.out.cellOf (hcells jj u hu) (by simp)
                obtain ⟨xa, hxa⟩ : ∃ y, it.ao = y := ⟨_, rfl⟩
                obtain ⟨xn, hxn⟩ : ∃ y, it.n = y := ⟨_, rfl⟩
                obtain ⟨xc, hxc⟩ : ∃ y, it.cap = y := ⟨_, rfl⟩
                obtain ⟨xcd, hxcd⟩ : ∃ y, it.code = y := ⟨_, rfl⟩
                obtain ⟨x, hxi⟩ : ∃ y, it.id = y := ⟨_, rfl⟩
                have hx : x.length = 32 := by rw [← hxi]; exact it.hi
                have HIT : Hid (L.getD k it0 = it ∧ it.id = x ∧ it.dv = .slice xa xn xc ∧ it.code = xcd) := hide ⟨hit, hxi, by rw [← hxa, ← hxn, ← hxc]; rfl, hxcd⟩
                have hpa := it_at hc3
                rw [HIT.out.2.1, HIT.out.2.2.1, HIT.out.2.2.2] at hpa
                have HRI : Hid (w3.cell? ⟨b, off + k * 35 + 32, none⟩ = some (.slice xa xn xc) ∧ w3.cell? ⟨b, off + k * 35 + 33, none⟩ = some (.int .i64 xcd)) := hide ⟨hpa.2.1, hpa.2.2.1⟩
                have HXW : Hid (Kept [BS] w3 wr) := hide (HP.out.kp.trans HC.out.1 (by simp))
                have hrx : wr.rangeAt b (off + k * 35) (bys x) := fun jj u hu => HXW.out.cellOf (hpa.1 jj u hu) (by simpa using HNB.out)
                have hrq : wr.rangeAt g3 (o3 + j * 32) (bys q) := fun jj u hu => HXW.out.cellOf (HRQ.out jj u hu) (by simpa using HNQ.out)
                have hxl := idl x hx
                have heqx : ∀ W, (Op.equalIn 10000 36 (.agg (bys x).toArray) (.agg (bys q).toArray)).run Tryz.prog W = .ok (decide (x = q)) W := fun W => Tryz.eqlID x q hx hq W
                have hltk1 : (k : Int) < (n : Int) := by omega
                clear hit hcells hc3 hxa hxn hxc hxcd hxi hpa hkl
                by_cases hxy : x = q
                · have heq : ∀ W, (Op.equalIn 10000 36 (.agg (bys x).toArray) (.agg (bys q).toArray)).run Tryz.prog W = .ok true W := fun W => by rw [heqx W, decide_eq_true hxy]
                  have HE : Hid (x = q) := hide hxy
                  clear heqx hxy
                  as_aux_lemma =>
                  go_upto_region 13 with (fail)
                  refine wp_region_held_drew (S := fun w' => Kept [] wr w') (by kernel_rfl) ((Kept.refl [] wr).drew) (fun h0 => ?_)
                  generalize World.drew wr = v0 at h0  ⊢
                  refine wpAnyH_take (i := 0) (v := .slice (some ⟨b, off, none⟩) n cap) rfl (by kernel_rfl) (by kernel_rfl) (by kernel_rfl) (fun _ _ _ h => h) (Or.inl ⟨by rfl, fun w hSw => by go_simp⟩) h0 ?_
                  try simp only [List.getElem_toArray, List.getElem_cons_zero, List.getElem_cons_succ, Act.put, List.setIfInBounds_toArray, List.set_cons_zero, List.set_cons_succ]
                  refine wpAnyH_take (i := 1) (v := .int .i64 k) rfl (by kernel_rfl) (by kernel_rfl) (by kernel_rfl) (fun _ _ _ h => h) (Or.inl ⟨by rfl, fun w hSw => by go_simp⟩) h0 ?_
                  try simp only [List.getElem_toArray, List.getElem_cons_zero, List.getElem_cons_succ, Act.put, List.setIfInBounds_toArray, List.set_cons_zero, List.set_cons_succ]
                  refine wpAnyH_take (i := 2) (v := .pointer (some ⟨b, off + k * 35, none⟩)) rfl (by kernel_rfl) (by kernel_rfl) (by kernel_rfl) (fun _ _ _ h => h) (Or.inl ⟨by rfl, fun w hSw => by go_simp⟩) h0 ?_
                  try simp only [List.getElem_toArray, List.getElem_cons_zero, List.getElem_cons_succ, Act.put, List.setIfInBounds_toArray, List.set_cons_zero, List.set_cons_succ]
                  refine wpAnyH_take (i := 3) (v := .pointer (some ⟨b, off + k * 35, none⟩)) rfl (by kernel_rfl) (by kernel_rfl) (by kernel_rfl) (fun _ _ _ h => h) (Or.inl ⟨by rfl, fun w hSw => by go_simp⟩) h0 ?_
                  try simp only [List.getElem_toArray, List.getElem_cons_zero, List.getElem_cons_succ, Act.put, List.setIfInBounds_toArray, List.set_cons_zero, List.set_cons_succ]
                  refine wpAnyH_take (i := 4) (v := .agg (bys x).toArray) rfl (by kernel_rfl) (by kernel_rfl) (by kernel_rfl) (fun _ _ _ h => h) (yieldsIf_load_mid (by rfl) _ _ rfl b (off + k * 35) rfl (bys x) _ (fun W h => fun jj u hu => Kept.cellOf h (hrx jj u hu) (by simp)) Tryz.underlying36 rfl hxl) h0 ?_
                  try simp only [List.getElem_toArray, List.getElem_cons_zero, List.getElem_cons_succ, Act.put, List.setIfInBounds_toArray, List.set_cons_zero, List.set_cons_succ]
                  refine wpAnyH_take (i := 5) (v := .slice (some ⟨g3, o3, none⟩) m cK) rfl (by kernel_rfl) (by kernel_rfl) (by kernel_rfl) (fun _ _ _ h => h) (Or.inl ⟨by rfl, fun w hSw => by go_simp⟩) h0 ?_
                  try simp only [List.getElem_toArray, List.getElem_cons_zero, List.getElem_cons_succ, Act.put, List.setIfInBounds_toArray, List.set_cons_zero, List.set_cons_succ]
                  refine wpAnyH_take (i := 6) (v := .int .i64 j) rfl (by kernel_rfl) (by kernel_rfl) (by kernel_rfl) (fun _ _ _ h => h) (Or.inl ⟨by rfl, fun w hSw => by go_simp⟩) h0 ?_
                  try simp only [List.getElem_toArray, List.getElem_cons_zero, List.getElem_cons_succ, Act.put, List.setIfInBounds_toArray, List.set_cons_zero, List.set_cons_succ]
                  refine wpAnyH_take (i := 7) (v := .pointer (some ⟨g3, o3 + j * 32, none⟩)) rfl (by kernel_rfl) (by kernel_rfl) (by kernel_rfl) (fun _ _ _ h => h) (Or.inl ⟨by rfl, fun w hSw => by go_simp⟩) h0 ?_
                  try simp only [List.getElem_toArray, List.getElem_cons_zero, List.getElem_cons_succ, Act.put, List.setIfInBounds_toArray, List.set_cons_zero, List.set_cons_succ]
                  refine wpAnyH_take (i := 8) (v := .agg (bys q).toArray) rfl (by kernel_rfl) (by kernel_rfl) (by kernel_rfl) (fun _ _ _ h => h) (yieldsIf_load_mid (by rfl) _ _ rfl g3 (o3 + j * 32) rfl (bys q) _ (fun W h => fun jj u hu => Kept.cellOf h (hrq jj u hu) (by simp)) Tryz.underlying36 rfl hql) h0 ?_
                  try simp only [List.getElem_toArray, List.getElem_cons_zero, List.getElem_cons_succ, Act.put, List.setIfInBounds_toArray, List.set_cons_zero, List.set_cons_succ]
                  refine wpAnyH_take (i := 9) (v := .bool true) rfl (by kernel_rfl) (by kernel_rfl) (by kernel_rfl) (fun _ _ _ h => h) (Or.inl ⟨by rfl, fun w hSw => by have c0 := heq w; go_simp⟩) h0 ?_
                  try simp only [List.getElem_toArray, List.getElem_cons_zero, List.getElem_cons_succ, Act.put, List.setIfInBounds_toArray, List.set_cons_zero, List.set_cons_succ]
                  refine wpAnyH_done (by kernel_rfl) ?_ _
                  have HFS : Hid ((fst9 L q).dv = .slice xa xn xc ∧ (fst9 L q).code = xcd) := hide (by
                    have hkl : k < L.length := by rw [HN.out]; exact hltk
                    have h1 := fst9_at hkl (fun y hy => by rw [HIT.out.1, HIT.out.2.1, HE.out]; exact HC.out.2 y hy)
                    rw [HIT.out.1, HIT.out.2.1, HE.out] at h1
                    rw [h1]
                    exact HIT.out.2.2)
                  clear heq hrx
                  have HFK := hide (HC.out.1.trans h0 (by simp))
                  have HPv9 := hide (HP.out.kept HFK.out)
                  have HKQv9 : Hid (Kept [BS] w3 v0) := hide HPv9.out.kp
                  clear hrq h0 HP HC HXW
                  generalize v0 = v9 at HFK HPv9 HKQv9 ⊢
                  go_upto_region 14 with (fail)
                  have cS := (HPv9.out).cell.1
                  have hrq : v9.rangeAt g3 (o3 + j * 32) (bys q) := fun jj u hu => HKQv9.out.cellOf (HRQ.out jj u hu) (by simpa using HNQ.out)
                  refine wp_region_late (fun w' => Kept [] v9 w') (fun i => i == 7 || i == 9) (by kernel_rfl) ?_
                  have h0 : Kept [] v9 v9.drew := (Kept.refl [] v9).drew
                  generalize World.drew v9 = v0 at h0 ⊢
                  refine wpAnyL_free (i := 0) (v := .pointer (some ⟨BS, 0, none⟩)) rfl (by kernel_rfl) (by kernel_rfl) (by kernel_rfl) (fun _ _ _ h => h) (Or.inl ⟨by rfl, fun w _ => by go_simp⟩) ?_
                  try simp only [List.getElem_toArray, List.getElem_cons_zero, List.getElem_cons_succ, Act.put, List.setIfInBounds_toArray, List.set_cons_zero, List.set_cons_succ]
                  refine wpAnyL_take (i := 1) (v := vi) rfl (by kernel_rfl) (by kernel_rfl) (by kernel_rfl) (by kernel_rfl) (by kernel_rfl) (fun _ _ _ h => h) (Or.inl ⟨by rfl, fun w hSw => by have c := Kept.cellOf hSw cS (by simp); go_simp⟩) h0 ?_
                  try simp only [List.getElem_toArray, List.getElem_cons_zero, List.getElem_cons_succ, Act.put, List.setIfInBounds_toArray, List.set_cons_zero, List.set_cons_succ]
                  refine wpAnyL_free (i := 2) (v := .slice (some ⟨g3, o3, none⟩) m cK) rfl (by kernel_rfl) (by kernel_rfl) (by kernel_rfl) (fun _ _ _ h => h) (Or.inl ⟨by rfl, fun w _ => by go_simp⟩) ?_
                  try simp only [List.getElem_toArray, List.getElem_cons_zero, List.getElem_cons_succ, Act.put, List.setIfInBounds_toArray, List.set_cons_zero, List.set_cons_succ]
                  refine wpAnyL_free (i := 3) (v := .int .i64 j) rfl (by kernel_rfl) (by kernel_rfl) (by kernel_rfl) (fun _ _ _ h => h) (Or.inl ⟨by rfl, fun w _ => by go_simp⟩) ?_
                  try simp only [List.getElem_toArray, List.getElem_cons_zero, List.getElem_cons_succ, Act.put, List.setIfInBounds_toArray, List.set_cons_zero, List.set_cons_succ]
                  refine wpAnyL_free (i := 4) (v := .pointer (some ⟨g3, o3 + j * 32, none⟩)) rfl (by kernel_rfl) (by kernel_rfl) (by kernel_rfl) (fun _ _ _ h => h) (Or.inl ⟨by rfl, fun w _ => by go_simp⟩) ?_
                  try simp only [List.getElem_toArray, List.getElem_cons_zero, List.getElem_cons_succ, Act.put, List.setIfInBounds_toArray, List.set_cons_zero, List.set_cons_succ]
                  refine wpAnyL_take (i := 5) (v := .agg (bys q).toArray) rfl (by kernel_rfl) (by kernel_rfl) (by kernel_rfl) (by kernel_rfl) (by kernel_rfl) (fun _ _ _ h => h) (yieldsIf_load_mid (by rfl) _ _ rfl g3 (o3 + j * 32) rfl (bys q) _ (fun W h => fun jj u hu => Kept.cellOf h (hrq jj u hu) (by simp)) Tryz.underlying36 rfl hql) h0 ?_
                  try simp only [List.getElem_toArray, List.getElem_cons_zero, List.getElem_cons_succ, Act.put, List.setIfInBounds_toArray, List.set_cons_zero, List.set_cons_succ]
                  obtain ⟨ga, ca, wa2, hrun, hsome, hfz, hps⟩ := ((HPv9.out).kept h0).putI q hq (by rw [HJL.out]; omega)
                  obtain ⟨u0, hu0⟩ := Option.isSome_iff_exists.1 hsome
                  rw [HJL.out] at hrun hps
                  refine wpAnyL_one (i := 6) (by kernel_rfl) rfl (fun K' hK => ?_)
                  rw [if_pos (by rfl)]
                  refine wp_buildI (.tmp 52) rfl q rfl hq ?_
                  refine hK.out _ _ (fun _ _ => h0.alloc _) ?_
                  clear hK K'
                  try simp only [List.getElem_toArray, List.getElem_cons_zero, List.getElem_cons_succ, Act.put, List.setIfInBounds_toArray, List.set_cons_zero, List.set_cons_succ]
                  refine wpAnyL_one (i := 7) (by kernel_rfl) rfl (fun K' hK => ?_)
                  rw [if_pos (by rfl)]
                  refine wp_append_run (.tmp 48) (.tmp 53) 28 28 rfl vi (.slice (some ⟨v0.heap.size, 0, none⟩) 1 1) rfl rfl _ _ hrun ?_
                  refine hK.out _ _ (fun _ h => by cases h) ?_
                  clear hK K' hrun
                  try simp only [List.getElem_toArray, List.getElem_cons_zero, List.getElem_cons_succ, Act.put, List.setIfInBounds_toArray, List.set_cons_zero, List.set_cons_succ]
                  refine wpAnyL_free (i := 8) (v := .pointer (some ⟨BS, 0, none⟩)) rfl (by kernel_rfl) (by kernel_rfl) (by kernel_rfl) (fun _ _ _ h => h) (Or.inl ⟨by rfl, fun w _ => by go_simp⟩) ?_
                  try simp only [List.getElem_toArray, List.getElem_cons_zero, List.getElem_cons_succ, Act.put, List.setIfInBounds_toArray, List.set_cons_zero, List.set_cons_succ]
                  refine wpAnyL_one (i := 9) (by kernel_rfl) rfl (fun K' hK => ?_)
                  rw [if_pos (by rfl)]
                  go_simp
                  refine hK.out _ _ (fun _ h => by cases h) ?_
                  clear hK K'
                  try simp only [List.getElem_toArray, List.getElem_cons_zero, List.getElem_cons_succ, Act.put, List.setIfInBounds_toArray, List.set_cons_zero, List.set_cons_succ]
                  refine wpAnyL_done (by kernel_rfl) ?_ _
                  have HPz14 := hide hps
                  clear hps hsome hfz hu0 h0 cS hrq
                  generalize wa2.setCell _ _ = z14 at HPz14 ⊢
                  have HKQz14 : Hid (Kept [BS] w3 z14) := hide HPz14.out.kp
                  go_upto_region 15 with (fail)
                  have cS := (HPz14.out).cell.2.1
                  have cI : z14.cell? ⟨b, off + k * 35 + 32, none⟩ = some (.slice xa xn xc) := HKQz14.out.cellOf HRI.out.1 (by simpa using HNB.out)
                  refine wp_region_late (fun w' => Kept [] z14 w') (fun i => i == 8 || i == 10) (by kernel_rfl) ?_
                  have h0 : Kept [] z14 z14.drew := (Kept.refl [] z14).drew
                  generalize World.drew z14 = v0 at h0 ⊢
                  refine wpAnyL_free (i := 0) (v := .pointer (some ⟨BS, 1, none⟩)) rfl (by kernel_rfl) (by kernel_rfl) (by kernel_rfl) (fun _ _ _ h => h) (Or.inl ⟨by rfl, fun w _ => by go_simp⟩) ?_
                  try simp only [List.getElem_toArray, List.getElem_cons_zero, List.getElem_cons_succ, Act.put, List.setIfInBounds_toArray, List.set_cons_zero, List.set_cons_succ]
                  refine wpAnyL_take (i := 1) (v := vd) rfl (by kernel_rfl) (by kernel_rfl) (by kernel_rfl) (by kernel_rfl) (by kernel_rfl) (fun _ _ _ h => h) (Or.inl ⟨by rfl, fun w hSw => by have c := Kept.cellOf hSw cS (by simp); go_simp⟩) h0 ?_
                  try simp only [List.getElem_toArray, List.getElem_cons_zero, List.getElem_cons_succ, Act.put, List.setIfInBounds_toArray, List.set_cons_zero, List.set_cons_succ]
                  refine wpAnyL_free (i := 2) (v := .slice (some ⟨b, off, none⟩) n cap) rfl (by kernel_rfl) (by kernel_rfl) (by kernel_rfl) (fun _ _ _ h => h) (Or.inl ⟨by rfl, fun w _ => by go_simp⟩) ?_
                  try simp only [List.getElem_toArray, List.getElem_cons_zero, List.getElem_cons_succ, Act.put, List.setIfInBounds_toArray, List.set_cons_zero, List.set_cons_succ]
                  refine wpAnyL_free (i := 3) (v := .int .i64 k) rfl (by kernel_rfl) (by kernel_rfl) (by kernel_rfl) (fun _ _ _ h => h) (Or.inl ⟨by rfl, fun w _ => by go_simp⟩) ?_
                  try simp only [List.getElem_toArray, List.getElem_cons_zero, List.getElem_cons_succ, Act.put, List.setIfInBounds_toArray, List.set_cons_zero, List.set_cons_succ]
                  refine wpAnyL_free (i := 4) (v := .pointer (some ⟨b, off + k * 35, none⟩)) rfl (by kernel_rfl) (by kernel_rfl) (by kernel_rfl) (fun _ _ _ h => h) (Or.inl ⟨by rfl, fun w _ => by go_simp⟩) ?_
                  try simp only [List.getElem_toArray, List.getElem_cons_zero, List.getElem_cons_succ, Act.put, List.setIfInBounds_toArray, List.set_cons_zero, List.set_cons_succ]
                  refine wpAnyL_free (i := 5) (v := .pointer (some ⟨b, off + k * 35 + 32, none⟩)) rfl (by kernel_rfl) (by kernel_rfl) (by kernel_rfl) (fun _ _ _ h => h) (Or.inl ⟨by rfl, fun w _ => by go_simp⟩) ?_
                  try simp only [List.getElem_toArray, List.getElem_cons_zero, List.getElem_cons_succ, Act.put, List.setIfInBounds_toArray, List.set_cons_zero, List.set_cons_succ]
                  refine wpAnyL_take (i := 6) (v := .slice xa xn xc) rfl (by kernel_rfl) (by kernel_rfl) (by kernel_rfl) (by kernel_rfl) (by kernel_rfl) (fun _ _ _ h => h) (Or.inl ⟨by rfl, fun w hSw => by have c := Kept.cellOf hSw cI (by simp); go_simp⟩) h0 ?_
                  try simp only [List.getElem_toArray, List.getElem_cons_zero, List.getElem_cons_succ, Act.put, List.setIfInBounds_toArray, List.set_cons_zero, List.set_cons_succ]
                  obtain ⟨ga, ca, wa2, hrun, hsome, hfz, hps⟩ := ((HPz14.out).kept h0).putD (.slice xa xn xc) rfl (by rw [HJD.out]; omega)
                  obtain ⟨u0, hu0⟩ := Option.isSome_iff_exists.1 hsome
                  rw [HJD.out] at hrun hps
                  refine wpAnyL_one (i := 7) (by kernel_rfl) rfl (fun K' hK => ?_)
                  rw [if_pos (by rfl)]
                  go_simp
                  refine hK.out _ _ (fun _ _ => h0.alloc _) ?_
                  clear hK K'
                  try simp only [List.getElem_toArray, List.getElem_cons_zero, List.getElem_cons_succ, Act.put, List.setIfInBounds_toArray, List.set_cons_zero, List.set_cons_succ]
                  refine wpAnyL_one (i := 8) (by kernel_rfl) rfl (fun K' hK => ?_)
                  rw [if_pos (by rfl)]
                  refine wp_append_run (.tmp 57) (.tmp 63) 64 64 rfl vd (.slice (some ⟨v0.heap.size, 0, none⟩) 1 1) rfl rfl _ _ hrun ?_
                  refine hK.out _ _ (fun _ h => by cases h) ?_
                  clear hK K' hrun
                  try simp only [List.getElem_toArray, List.getElem_cons_zero, List.getElem_cons_succ, Act.put, List.setIfInBounds_toArray, List.set_cons_zero, List.set_cons_succ]
                  refine wpAnyL_free (i := 9) (v := .pointer (some ⟨BS, 1, none⟩)) rfl (by kernel_rfl) (by kernel_rfl) (by kernel_rfl) (fun _ _ _ h => h) (Or.inl ⟨by rfl, fun w _ => by go_simp⟩) ?_
                  try simp only [List.getElem_toArray, List.getElem_cons_zero, List.getElem_cons_succ, Act.put, List.setIfInBounds_toArray, List.set_cons_zero, List.set_cons_succ]
                  refine wpAnyL_one (i := 10) (by kernel_rfl) rfl (fun K' hK => ?_)
                  rw [if_pos (by rfl)]
                  go_simp
                  refine hK.out _ _ (fun _ h => by cases h) ?_
                  clear hK K'
                  try simp only [List.getElem_toArray, List.getElem_cons_zero, List.getElem_cons_succ, Act.put, List.setIfInBounds_toArray, List.set_cons_zero, List.set_cons_succ]
                  refine wpAnyL_done (by kernel_rfl) ?_ _
                  have HPz15 := hide hps
                  clear hps hsome hfz hu0 h0 cS cI
                  generalize wa2.setCell _ _ = z15 at HPz15 ⊢
                  have HKQz15 : Hid (Kept [BS] w3 z15) := hide HPz15.out.kp
                  go_upto_region 16 with (fail)
                  have cS := (HPz15.out).cell.2.2
                  have cI : z15.cell? ⟨b, off + k * 35 + 33, none⟩ = some (.int .i64 xcd) := HKQz15.out.cellOf HRI.out.2 (by simpa using HNB.out)
                  refine wp_region_late (fun w' => Kept [] z15 w') (fun i => i == 8 || i == 10) (by kernel_rfl) ?_
                  have h0 : Kept [] z15 z15.drew := (Kept.refl [] z15).drew
                  generalize World.drew z15 = v0 at h0 ⊢
                  refine wpAnyL_free (i := 0) (v := .pointer (some ⟨BS, 2, none⟩)) rfl (by kernel_rfl) (by kernel_rfl) (by kernel_rfl) (fun _ _ _ h => h) (Or.inl ⟨by rfl, fun w _ => by go_simp⟩) ?_
                  try simp only [List.getElem_toArray, List.getElem_cons_zero, List.getElem_cons_succ, Act.put, List.setIfInBounds_toArray, List.set_cons_zero, List.set_cons_succ]
                  refine wpAnyL_take (i := 1) (v := vc) rfl (by kernel_rfl) (by kernel_rfl) (by kernel_rfl) (by kernel_rfl) (by kernel_rfl) (fun _ _ _ h => h) (Or.inl ⟨by rfl, fun w hSw => by have c := Kept.cellOf hSw cS (by simp); go_simp⟩) h0 ?_
                  try simp only [List.getElem_toArray, List.getElem_cons_zero, List.getElem_cons_succ, Act.put, List.setIfInBounds_toArray, List.set_cons_zero, List.set_cons_succ]
                  refine wpAnyL_free (i := 2) (v := .slice (some ⟨b, off, none⟩) n cap) rfl (by kernel_rfl) (by kernel_rfl) (by kernel_rfl) (fun _ _ _ h => h) (Or.inl ⟨by rfl, fun w _ => by go_simp⟩) ?_
                  try simp only [List.getElem_toArray, List.getElem_cons_zero, List.getElem_cons_succ, Act.put, List.setIfInBounds_toArray, List.set_cons_zero, List.set_cons_succ]
                  refine wpAnyL_free (i := 3) (v := .int .i64 k) rfl (by kernel_rfl) (by kernel_rfl) (by kernel_rfl) (fun _ _ _ h => h) (Or.inl ⟨by rfl, fun w _ => by go_simp⟩) ?_
                  try simp only [List.getElem_toArray, List.getElem_cons_zero, List.getElem_cons_succ, Act.put, List.setIfInBounds_toArray, List.set_cons_zero, List.set_cons_succ]
                  refine wpAnyL_free (i := 4) (v := .pointer (some ⟨b, off + k * 35, none⟩)) rfl (by kernel_rfl) (by kernel_rfl) (by kernel_rfl) (fun _ _ _ h => h) (Or.inl ⟨by rfl, fun w _ => by go_simp⟩) ?_
                  try simp only [List.getElem_toArray, List.getElem_cons_zero, List.getElem_cons_succ, Act.put, List.setIfInBounds_toArray, List.set_cons_zero, List.set_cons_succ]
                  refine wpAnyL_free (i := 5) (v := .pointer (some ⟨b, off + k * 35 + 33, none⟩)) rfl (by kernel_rfl) (by kernel_rfl) (by kernel_rfl) (fun _ _ _ h => h) (Or.inl ⟨by rfl, fun w _ => by go_simp⟩) ?_
                  try simp only [List.getElem_toArray, List.getElem_cons_zero, List.getElem_cons_succ, Act.put, List.setIfInBounds_toArray, List.set_cons_zero, List.set_cons_succ]
                  refine wpAnyL_take (i := 6) (v := .int .i64 xcd) rfl (by kernel_rfl) (by kernel_rfl) (by kernel_rfl) (by kernel_rfl) (by kernel_rfl) (fun _ _ _ h => h) (Or.inl ⟨by rfl, fun w hSw => by have c := Kept.cellOf hSw cI (by simp); go_simp⟩) h0 ?_
                  try simp only [List.getElem_toArray, List.getElem_cons_zero, List.getElem_cons_succ, Act.put, List.setIfInBounds_toArray, List.set_cons_zero, List.set_cons_succ]
                  obtain ⟨ga, ca, wa2, hrun, hsome, hfz, hps⟩ := ((HPz15.out).kept h0).putC (.int .i64 xcd) rfl (by rw [HJC.out]; omega)
                  obtain ⟨u0, hu0⟩ := Option.isSome_iff_exists.1 hsome
                  rw [HJC.out] at hrun hps
                  refine wpAnyL_one (i := 7) (by kernel_rfl) rfl (fun K' hK => ?_)
                  rw [if_pos (by rfl)]
                  go_simp
                  refine hK.out _ _ (fun _ _ => h0.alloc _) ?_
                  clear hK K'
                  try simp only [List.getElem_toArray, List.getElem_cons_zero, List.getElem_cons_succ, Act.put, List.setIfInBounds_toArray, List.set_cons_zero, List.set_cons_succ]
                  refine wpAnyL_one (i := 8) (by kernel_rfl) rfl (fun K' hK => ?_)
                  rw [if_pos (by rfl)]
                  refine wp_append_run (.tmp 67) (.tmp 73) 68 68 rfl vc (.slice (some ⟨v0.heap.size, 0, none⟩) 1 1) rfl rfl _ _ hrun ?_
                  refine hK.out _ _ (fun _ h => by cases h) ?_
                  clear hK K' hrun
                  try simp only [List.getElem_toArray, List.getElem_cons_zero, List.getElem_cons_succ, Act.put, List.setIfInBounds_toArray, List.set_cons_zero, List.set_cons_succ]
                  refine wpAnyL_free (i := 9) (v := .pointer (some ⟨BS, 2, none⟩)) rfl (by kernel_rfl) (by kernel_rfl) (by kernel_rfl) (fun _ _ _ h => h) (Or.inl ⟨by rfl, fun w _ => by go_simp⟩) ?_
                  try simp only [List.getElem_toArray, List.getElem_cons_zero, List.getElem_cons_succ, Act.put, List.setIfInBounds_toArray, List.set_cons_zero, List.set_cons_succ]
                  refine wpAnyL_one (i := 10) (by kernel_rfl) rfl (fun K' hK => ?_)
                  rw [if_pos (by rfl)]
                  go_simp
                  refine hK.out _ _ (fun _ h => by cases h) ?_
                  clear hK K'
                  try simp only [List.getElem_toArray, List.getElem_cons_zero, List.getElem_cons_succ, Act.put, List.setIfInBounds_toArray, List.set_cons_zero, List.set_cons_succ]
                  refine wpAnyL_done (by kernel_rfl) ?_ _
                  have HPz16 := hide hps
                  clear hps hsome hfz hu0 h0 cS cI
                  generalize wa2.setCell _ _ = z16 at HPz16 ⊢
                  go_wp2
                  go_roundw
                  case rel =>
                    refine ⟨j + 1, by omega, by go_num, hide ?_⟩
                    rw [HTK.out]
                    have e1 : dat9 L (K.take j ++ [q]) = dat9 L (K.take j) ++ [.slice xa xn xc] := by unfold dat9; rw [List.map_append]; simp only [List.map_cons, List.map_nil]; rw [HFS.out.1]
                    have e2 : cod9 L (K.take j ++ [q]) = cod9 L (K.take j) ++ [.int .i64 xcd] := by unfold cod9; rw [List.map_append]; simp only [List.map_cons, List.map_nil]; rw [HFS.out.2]
                    rw [e1, e2]
                    exact ⟨_, _, _, HPz16.out⟩
                  case measure => simp [intOf]; omega
                · have heq : ∀ W, (Op.equalIn 10000 36 (.agg (bys x).toArray) (.agg (bys q).toArray)).run Tryz.prog W = .ok false W := fun W => by rw [heqx W, decide_eq_false hxy]
                  clear heqx
                  as_aux_lemma =>
                  go_upto_region 13 with (fail)
                  refine wp_region_held_drew (S := fun w' => Kept [] wr w') (by kernel_rfl) ((Kept.refl [] wr).drew) (fun h0 => ?_)
                  generalize World.drew wr = v0 at h0  ⊢
                  refine wpAnyH_take (i := 0) (v := .slice (some ⟨b, off, none⟩) n cap) rfl (by kernel_rfl) (by kernel_rfl) (by kernel_rfl) (fun _ _ _ h => h) (Or.inl ⟨by rfl, fun w hSw => by go_simp⟩) h0 ?_
                  try simp only [List.getElem_toArray, List.getElem_cons_zero, List.getElem_cons_succ, Act.put, List.setIfInBounds_toArray, List.set_cons_zero, List.set_cons_succ]
                  refine wpAnyH_take (i := 1) (v := .int .i64 k) rfl (by kernel_rfl) (by kernel_rfl) (by kernel_rfl) (fun _ _ _ h => h) (Or.inl ⟨by rfl, fun w hSw => by go_simp⟩) h0 ?_
                  try simp only [List.getElem_toArray, List.getElem_cons_zero, List.getElem_cons_succ, Act.put, List.setIfInBounds_toArray, List.set_cons_zero, List.set_cons_succ]
                  refine wpAnyH_take (i := 2) (v := .pointer (some ⟨b, off + k * 35, none⟩)) rfl (by kernel_rfl) (by kernel_rfl) (by kernel_rfl) (fun _ _ _ h => h) (Or.inl ⟨by rfl, fun w hSw => by go_simp⟩) h0 ?_
                  try simp only [List.getElem_toArray, List.getElem_cons_zero, List.getElem_cons_succ, Act.put, List.setIfInBounds_toArray, List.set_cons_zero, List.set_cons_succ]
                  refine wpAnyH_take (i := 3) (v := .pointer (some ⟨b, off + k * 35, none⟩)) rfl (by kernel_rfl) (by kernel_rfl) (by kernel_rfl) (fun _ _ _ h => h) (Or.inl ⟨by rfl, fun w hSw => by go_simp⟩) h0 ?_
                  try simp only [List.getElem_toArray, List.getElem_cons_zero, List.getElem_cons_succ, Act.put, List.setIfInBounds_toArray, List.set_cons_zero, List.set_cons_succ]
                  refine wpAnyH_take (i := 4) (v := .agg (bys x).toArray) rfl (by kernel_rfl) (by kernel_rfl) (by kernel_rfl) (fun _ _ _ h => h) (yieldsIf_load_mid (by rfl) _ _ rfl b (off + k * 35) rfl (bys x) _ (fun W h => fun jj u hu => Kept.cellOf h (hrx jj u hu) (by simp)) Tryz.underlying36 rfl hxl) h0 ?_
                  try simp only [List.getElem_toArray, List.getElem_cons_zero, List.getElem_cons_succ, Act.put, List.setIfInBounds_toArray, List.set_cons_zero, List.set_cons_succ]
                  refine wpAnyH_take (i := 5) (v := .slice (some ⟨g3, o3, none⟩) m cK) rfl (by kernel_rfl) (by kernel_rfl) (by kernel_rfl) (fun _ _ _ h => h) (Or.inl ⟨by rfl, fun w hSw => by go_simp⟩) h0 ?_
                  try simp only [List.getElem_toArray, List.getElem_cons_zero, List.getElem_cons_succ, Act.put, List.setIfInBounds_toArray, List.set_cons_zero, List.set_cons_succ]
                  refine wpAnyH_take (i := 6) (v := .int .i64 j) rfl (by kernel_rfl) (by kernel_rfl) (by kernel_rfl) (fun _ _ _ h => h) (Or.inl ⟨by rfl, fun w hSw => by go_simp⟩) h0 ?_
                  try simp only [List.getElem_toArray, List.getElem_cons_zero, List.getElem_cons_succ, Act.put, List.setIfInBounds_toArray, List.set_cons_zero, List.set_cons_succ]
                  refine wpAnyH_take (i := 7) (v := .pointer (some ⟨g3, o3 + j * 32, none⟩)) rfl (by kernel_rfl) (by kernel_rfl) (by kernel_rfl) (fun _ _ _ h => h) (Or.inl ⟨by rfl, fun w hSw => by go_simp⟩) h0 ?_
                  try simp only [List.getElem_toArray, List.getElem_cons_zero, List.getElem_cons_succ, Act.put, List.setIfInBounds_toArray, List.set_cons_zero, List.set_cons_succ]
                  refine wpAnyH_take (i := 8) (v := .agg (bys q).toArray) rfl (by kernel_rfl) (by kernel_rfl) (by kernel_rfl) (fun _ _ _ h => h) (yieldsIf_load_mid (by rfl) _ _ rfl g3 (o3 + j * 32) rfl (bys q) _ (fun W h => fun jj u hu => Kept.cellOf h (hrq jj u hu) (by simp)) Tryz.underlying36 rfl hql) h0 ?_
                  try simp only [List.getElem_toArray, List.getElem_cons_zero, List.getElem_cons_succ, Act.put, List.setIfInBounds_toArray, List.set_cons_zero, List.set_cons_succ]
                  refine wpAnyH_take (i := 9) (v := .bool false) rfl (by kernel_rfl) (by kernel_rfl) (by kernel_rfl) (fun _ _ _ h => h) (Or.inl ⟨by rfl, fun w hSw => by have c0 := heq w; go_simp⟩) h0 ?_
                  try simp only [List.getElem_toArray, List.getElem_cons_zero, List.getElem_cons_succ, Act.put, List.setIfInBounds_toArray, List.set_cons_zero, List.set_cons_succ]
                  refine wpAnyH_done (by kernel_rfl) ?_ _
                  have HFK : Hid (Kept [] wo v0 ∧ ∀ y, y < k + 1 → (L.getD y it0).id ≠ q) := hide ⟨HC.out.1.trans h0 (by simp), fun y hy => by
                    by_cases e : y = k
                    · rw [e, HIT.out.1, HIT.out.2.1]; exact hxy
                    · exact HC.out.2 y (by omega)⟩
                  clear heq hrx hrq h0
                  go_wp2
                  go_roundw
                  case rel => exact ⟨k + 1, by omega, by go_num, HFK⟩
                  case measure => simp [intOf]; omega
              · exfalso
                obtain ⟨y, hy, e⟩ := List.mem_map.1 HQM.out
                obtain ⟨z, hz, e2⟩ := List.getElem_of_mem (List.mem_of_mem_take hy)
                refine HC.out.2 z (by have := HN.out; omega) ?_
                rw [← e, ← e2]
                simp [List.getElem?_eq_getElem hz]
          · obtain rfl : j = m := by omega
            obtain ⟨vi, vd, vc, hps⟩ := HI.out
            rw [List.take_of_length_le (by have := HM.out; omega)] at hps
            have HP := hide hps
            have hltj1 : ¬ (j : Int) < (j : Int) := by omega
            have hrowS : wr.rangeAt BS 0 [vi, vd, vc] := row_rangeK (cs := [vi, vd, vc]) hps.row
            have hrowR : wr.heap[BR]? = some (.cells zeroS 70 (0, 0)) := by
              rw [hps.kp.block BR (Array.getElem?_eq_some_iff.1 HBR.out).1 (by have := HBN.out; simp; omega)]
              exact HBR.out
            have hial := Tryz.infoSr9
            clear hps HI
            go_wp2_with (first
              | refine wpList_load_mid rfl 70 (.tmp 3) rfl BS 0 rfl [vi, vd, vc] _ hrowS Tryz.underlying70 rfl hial ?_
              | refine wpList_store_rowTo rfl 70 (.tmp 2) (.tmp 76) rfl rfl BR #[vi, vd, vc] rfl rfl 70 zeroS hrowR hial rfl (one3 HP.out) ?_)
            refine ret_row rfl rfl BR 70 #[vi, vd, vc] (0, 0) _ rfl (setRow_heap _ _ _ _ _ _ hrowR) Tryz.underlying70 rfl hial ?_
            exact ⟨vi, vd, vc, rfl, src_done HP.out HKW.out HBN.out.1 HBN.out.2 HKE.out hrowR⟩

end Go.Proofs.YtngaimahhgmciabGreatDoor
