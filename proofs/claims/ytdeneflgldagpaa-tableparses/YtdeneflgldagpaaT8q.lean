/-
  Contract: freightref8.Parse.
-/
import Derived.Test.YtdeneflgldagpaaT8p
namespace Go.Proofs.Ytdeneflgldagpaa
open Go.RowKit Go.Sort
set_option linter.unusedVariables false
set_option linter.unusedSimpArgs false

def pL (V : Bool) (Z : List Res) : List Res := if V then Z else []
/-- An id half read. -/
def prt (A : List UInt8) (j : Nat) : List UInt8 := A.take j ++ List.replicate (32 - j) 0
theorem prt_len {A : List UInt8} (h : A.length = 32) {j : Nat} (hj : j ≤ 32) : (prt A j).length = 32 := by simp [prt, h]; omega
theorem prt_set {A : List UInt8} (h : A.length = 32) {j : Nat} (hj : j < 32) : (prt A j).set j (A.getD j 0) = prt A (j + 1) := by
  have hl : (A.take j).length = j := by simp [h]; omega
  obtain ⟨m, hm⟩ : ∃ m, 32 - j = m + 1 := ⟨31 - j, by omega⟩
  unfold prt
  rw [hm, show 32 - (j + 1) = m by omega, List.set_append_right _ _ (by omega), hl, Nat.sub_self, take_snoc' A 0 j (by omega)]
  simp [List.replicate_succ]
theorem prt_end {A : List UInt8} (h : A.length = 32) : prt A 32 = A := by unfold prt; rw [List.take_of_length_le (by omega)]; simp
def pcells (A B : List UInt8) : List Value := bys A ++ (bys B ++ [.int .i64 0])
theorem pcells_a {A B : List UInt8} (hA : A.length = 32) {j : Nat} (hj : j < 32) (x : UInt8) : (pcells A B).set j (.int .u8 x.toNat) = pcells (A.set j x) B := by
  unfold pcells
  rw [List.set_append_left _ _ (by rw [bys_length]; omega), bys_set]
theorem pcells_b {A B : List UInt8} (hA : A.length = 32) (hB : B.length = 32) {j : Nat} (hj : j < 32) (x : UInt8) : (pcells A B).set (32 + j) (.int .u8 x.toNat) = pcells A (B.set j x) := by
  unfold pcells
  have h1 : (bys A).length = 32 := by rw [bys_length, hA]
  rw [List.set_append_right _ _ (by omega), h1, Nat.add_sub_cancel_left, List.set_append_left _ _ (by rw [bys_length]; omega), bys_set]
theorem pcells_at {A B : List UInt8} (hA : A.length = 32) (hB : B.length = 32) {j : Nat} (hj : j < 32) : (pcells A B)[j]? = some (.int .u8 (A.getD j 0).toNat) ∧ (pcells A B)[32 + j]? = some (.int .u8 (B.getD j 0).toNat) ∧ (pcells A B)[64]? = some (.int .i64 0) := by
  unfold pcells
  have h1 : (bys A).length = 32 := by rw [bys_length, hA]
  have h2 : (bys B).length = 32 := by rw [bys_length, hB]
  refine ⟨?_, ?_, ?_⟩
  · rw [List.getElem?_append_left (by omega)]; exact bys_at (by omega)
  · rw [List.getElem?_append_right (by omega), h1, Nat.add_sub_cancel_left, List.getElem?_append_left (by omega)]; exact bys_at (by omega)
  · rw [List.getElem?_append_right (by omega), h1, List.getElem?_append_right (by omega), h2]; rfl
theorem row_set {W : World} {g off : Nat} {l : List Value} {t : TypeId} {v : Value} (h : W.heap[g]? = some (.cells l.toArray t (0, 0))) : (W.setCell ⟨g, off, none⟩ v).heap[g]? = some (.cells (l.set off v).toArray t (0, 0)) := by
  rw [heap_setCell_same W g off _ _ _ h]
  simp
theorem row_cell {W : World} {g off : Nat} {l : List Value} {t : TypeId} (h : W.heap[g]? = some (.cells l.toArray t (0, 0))) : W.cell? ⟨g, off, none⟩ = l[off]? := by
  rw [cell_of_row _ _ _ _ _ _ h]; simp

set_option maxHeartbeats 3200000 in
set_option maxRecDepth 100000 in
theorem refparse_no (ao : Option Addr) (n cap : Nat) (xs : List UInt8) (w : World) (hn : xs.length = n) (hm : n ≤ 140737488355328) (hs : Sl w ao xs) (h : n = 0 ∨ 32 < Tb.by' xs 0 ∨ n ≠ 1 + 65 * Tb.by' xs 0) :
    Calls Try.prog 19 #[.slice ao n cap] w fun r w' => ToldR w w' r 80 [] := by
  by_cases h0 : n = 0
  · have h0z : ((n : Int) == 0) = true := by simp [h0]
    clear h0 h hs hn
    go_enter Try.func19, Try.ntmps19
    go_wp2
    go_ret2
    exact ⟨⟨_, rfl, OwnR.nil _ _⟩, Kept.refl _ _⟩
  · have h0z : ((n : Int) == 0) = false := by simp [h0]
    have hpos : 0 < n := by omega
    have hposz : (0 : Int) < (n : Int) := by omega
    obtain ⟨b, off, rfl, hc⟩ := hs 0 (by omega)
    rw [Nat.add_zero] at hc
    obtain ⟨K, hK⟩ : ∃ K, Tb.by' xs 0 = K := ⟨_, rfl⟩
    have hK2 : (xs.getD 0 0).toNat = K := hK
    rw [hK] at h
    rw [hK2] at hc
    have hKl : K < 256 := by rw [← hK]; exact Tb.by_lt xs 0
    clear hK hK2 hn hs
    by_cases h1 : 32 < K
    · have h1z : (32 : Int) < (K : Int) := by omega
      clear h
      go_enter Try.func19, Try.ntmps19
      go_wp2
      go_ret2
      exact ⟨⟨_, rfl, OwnR.nil _ _⟩, Kept.refl _ _⟩
    · have h1z : ¬ (32 : Int) < (K : Int) := by omega
      have h2 : n ≠ 1 + 65 * K := by omega
      have wm : IntKind.i64.wrap (65 * (K : Int)) = 65 * (K : Int) := by rw [IntKind.wrap_i64]; omega
      have wa : IntKind.i64.wrap (1 + 65 * (K : Int)) = 1 + 65 * (K : Int) := by rw [IntKind.wrap_i64]; omega
      have hne : ((n : Int) != 1 + 65 * (K : Int)) = true := by simp; omega
      clear h h2
      go_enter Try.func19, Try.ntmps19
      go_wp2
      go_ret2
      exact ⟨⟨_, rfl, OwnR.nil _ _⟩, Kept.refl _ _⟩

set_option maxHeartbeats 12800000 in
set_option maxRecDepth 100000 in
theorem refparse_yes (ao : Option Addr) (n cap N : Nat) (xs : List UInt8) (w : World) (Z : List Res) (V0 : Bool) (hn : xs.length = n) (hs : Sl w ao xs) (hN : Tb.by' xs 0 = N) (hN2 : N ≤ 32) (hl : n = 1 + 65 * N) (hZ : ((List.range N).map fun i => Tb.resAt xs (1 + 65 * i)) = Z) (hV0 : Tb.valid Z = V0) :
    Calls Try.prog 19 #[.slice ao n cap] w fun r w' => ToldR w w' r (Tb.code V0) (pL V0 Z) := by
  have HZ := hide hZ
  have HV0 := hide hV0
  clear hZ hV0
  obtain ⟨b, off, rfl, hc⟩ := hs 0 (by omega)
  have HS := hide hs
  have hc0 : w.cell? ⟨b, off, none⟩ = some (.int .u8 N) := by rw [Nat.add_zero] at hc; rw [hc]; rw [← hN]; rfl
  have h0z : ((n : Int) == 0) = false := by simp; omega
  have hpos : 0 < n := by omega
  have hposz : (0 : Int) < (n : Int) := by omega
  have h1z : ¬ (32 : Int) < (N : Int) := by omega
  have wm : IntKind.i64.wrap (65 * (N : Int)) = 65 * (N : Int) := by rw [IntKind.wrap_i64]; omega
  have wa : IntKind.i64.wrap (1 + 65 * (N : Int)) = 1 + 65 * (N : Int) := by rw [IntKind.wrap_i64]; omega
  have hne : ((n : Int) != 1 + 65 * (N : Int)) = false := by simp; omega
  have hnb : n ≤ 2081 := by omega
  have HL := hide hl
  have HNn := hide hn
  clear hc hs hN hl hn
  go_enter Try.func19, Try.ntmps19
  go_wp2
  clear hc0 h0z hposz h1z wm wa hne
  go_loopw [4, 5] (fun x y wr => ∃ (k I : Nat), Hid (I = 1 + 65 * k ∧ k ≤ N) ∧ I ≤ n ∧ y = .int .i64 I ∧ Hid (OwnR wr w.heap.size x ((List.range k).map fun i => Tb.resAt xs (1 + 65 * i))) ∧ Hid (Kept [] w wr)) (fun x y wr => n - (intOf y).toNat)
  case atStart => exact ⟨0, 1, ⟨rfl, Nat.zero_le _⟩, by omega, rfl, OwnR.nil _ _, Kept.refl _ _⟩
  case round =>
    obtain ⟨k, I, HI, hI, rfl, HO, HK⟩ := hrel
    by_cases hlt : I < n
    · have hltz : (I : Int) < (n : Int) := by omega
      have hIn : I + 65 ≤ n := by have := HI.out; have := HL.out; omega
      obtain ⟨A, hA⟩ : ∃ A, (xs.drop I).take 32 = A := ⟨_, rfl⟩
      obtain ⟨B, hB⟩ : ∃ B, (xs.drop (I + 32)).take 32 = B := ⟨_, rfl⟩
      have hAl : A.length = 32 := by rw [← hA]; simp [HNn.out]; omega
      have hBl : B.length = 32 := by rw [← hB]; simp [HNn.out]; omega
      have HRE : Hid (Tb.resAt xs I = ⟨A, B, ((xs.getD (I + 64) 0).toNat : Nat), hAl, hBl, Tb.wf_byte (by have := UInt8.toNat_lt (xs.getD (I + 64) 0); omega)⟩) := by
        show _ = _
        unfold Tb.resAt
        apply Res.same
        · simp only [hA]; exact Tb.pad_eq hAl
        · simp only [hB]; exact Tb.pad_eq hBl
        · rfl
      have HCA : Hid (∀ j, j < 32 → w.cell? ⟨b, off + (I + j), none⟩ = some (.int .u8 (A.getD j 0).toNat)) := fun j hj => by
        obtain ⟨_, _, e, hc⟩ := HS.out (I + j) (by rw [HNn.out]; omega)
        cases e
        rw [hc, ← hA]
        simp [List.getD, List.getElem?_take, hj]
      have HCB : Hid (∀ j, j < 32 → w.cell? ⟨b, off + (I + 32 + j), none⟩ = some (.int .u8 (B.getD j 0).toNat)) := fun j hj => by
        obtain ⟨_, _, e, hc⟩ := HS.out (I + 32 + j) (by rw [HNn.out]; omega)
        cases e
        rw [hc, ← hB]
        simp [List.getD, List.getElem?_take, hj]
      have HCC : Hid (w.cell? ⟨b, off + (I + 64), none⟩ = some (.int .u8 (xs.getD (I + 64) 0).toNat)) := by
        obtain ⟨_, _, e, hc⟩ := HS.out (I + 64) (by rw [HNn.out]; omega)
        cases e
        exact hc
      have HAl := hide hAl
      have HBl := hide hBl
      obtain ⟨cd, hcd⟩ : ∃ cd, (xs.getD (I + 64) 0).toNat = cd := ⟨_, rfl⟩
      have hcl : cd < 256 := by rw [← hcd]; exact UInt8.toNat_lt _
      rw [hcd] at HCC
      have HCD := hide hcd
      obtain ⟨e, he⟩ : ∃ e, Tb.resAt xs I = e := ⟨_, rfl⟩
      have HEC : Hid (e.cells = bys A ++ (bys B ++ [.int .i64 cd])) := by show _ = _; rw [← he, HRE.out]; unfold Res.cells; simp only [hcd]
      have HOX : Hid (((List.range (k + 1)).map fun i => Tb.resAt xs (1 + 65 * i)) = ((List.range k).map fun i => Tb.resAt xs (1 + 65 * i)) ++ [e]) := by
        show _ = _
        rw [List.range_succ, List.map_append, ← he, HI.out.1]
        rfl
      have HLn : Hid (((List.range k).map fun i => Tb.resAt xs (1 + 65 * i)).length = k) := by show _ = _; simp
      generalize ((List.range k).map fun i => Tb.resAt xs (1 + 65 * i)) = M at HO HOX HLn
      clear hA hB hAl hBl HRE hcd he
      have hz := Try.zeroRes
      obtain ⟨W1, hW1⟩ : ∃ W1, wr.alloc (.cells zeroR 39) = W1 := ⟨_, rfl⟩
      have HR1 : Hid (W1.heap[wr.heap.size]? = some (.cells (pcells (prt A 0) (prt B 0)).toArray 39 (0, 0))) := by
        have := heap_new wr (.cells zeroR 39)
        rw [hW1] at this
        exact this
      have HK1 : Hid (Kept [] wr W1) := by rw [← hW1]; exact (Kept.refl [] wr).alloc _
      go_upto_region 9 with (fail)
      clear hW1 hz
      obtain ⟨g, hg⟩ : ∃ g, wr.heap.size = g := ⟨_, rfl⟩
      have HG : Hid (wr.heap.size = g) := hg
      rw [hg] at HR1 ⊢
      clear hg
      obtain ⟨W0, hW0⟩ : ∃ W0, W0 = wr := ⟨_, rfl⟩
      subst hW0
      go_loopw [7] (fun y wr => ∃ j : Nat, j ≤ 32 ∧ y = .int .i64 j ∧ Hid (wr.heap[g]? = some (.cells (pcells (prt A j) (prt B j)).toArray 39 (0, 0))) ∧ Hid (Kept [g] W1 wr)) (fun y wr => 32 - (intOf y).toNat)
      case atStart => exact ⟨0, Nat.zero_le _, rfl, HR1.out, Kept.refl _ _⟩
      case round =>
        clear HR1
        obtain ⟨j, hj, rfl, HR, HKj⟩ := hrel
        have HKw : Hid (Kept [] w wr) := HK.out.trans (HK1.out.trans HKj.out (fun i hi hl => by simp at hi; have := HG.out; omega)) (by simp)
        by_cases hlj : j < 32
        · have hljz : (j : Int) < 32 := by omega
          have hpa := prt_len HAl.out (Nat.le_of_lt hlj)
          have hpb := prt_len HBl.out (Nat.le_of_lt hlj)
          obtain ⟨q1, q2, _⟩ := pcells_at hpa hpb hlj
          have cA := HKw.out.cellOf (HCA.out j hlj) (by simp)
          have c1 : wr.cell? ⟨g, j, none⟩ = some (.int .u8 ((prt A j).getD j 0).toNat) := by rw [row_cell HR.out]; exact q1
          have f1 : wr.frozen? ⟨g, j, none⟩ = false := frozen_of_row _ _ _ _ _ HR.out
          have HR2 : Hid ((wr.setCell ⟨g, j, none⟩ (.int .u8 (A.getD j 0).toNat)).heap[g]? = some (.cells (pcells (prt A (j + 1)) (prt B j)).toArray 39 (0, 0))) := by
            have := row_set (v := .int .u8 (A.getD j 0).toNat) (off := j) HR.out
            rw [pcells_a hpa hlj, prt_set HAl.out hlj] at this
            exact this
          have HK2 : Hid (Kept [g] W1 (wr.setCell ⟨g, j, none⟩ (.int .u8 (A.getD j 0).toNat))) := HKj.out.setCell (by simp) _
          have HKw2 : Hid (Kept [] w (wr.setCell ⟨g, j, none⟩ (.int .u8 (A.getD j 0).toNat))) := HKw.out.setCell (fun h => by have := HG.out; have := HK.out.size; simp at h; omega) _
          have wij : IntKind.i64.wrap ((I : Int) + (j : Int)) = ((I + j : Nat) : Int) := by rw [IntKind.wrap_i64]; omega
          have hijn : I + j < n := by omega
          generalize ((prt A j).getD j 0).toNat = u at c1
          generalize (A.getD j 0).toNat = a at cA HR2 HK2 HKw2
          generalize hS : I + j = S at wij hijn cA
          clear hS
          go_upto_region 12 with (fail)
          clear c1 f1 cA wij hijn q1
          generalize wr.setCell ⟨g, j, none⟩ (.int .u8 a) = w2 at HR2 HK2 HKw2 ⊢
          have hpa2 := prt_len HAl.out (show j + 1 ≤ 32 from hlj)
          have cB := HKw2.out.cellOf (HCB.out j hlj) (by simp)
          have c2 : w2.cell? ⟨g, 32 + j, none⟩ = some (.int .u8 ((prt B j).getD j 0).toNat) := by rw [row_cell HR2.out]; exact (pcells_at hpa2 hpb hlj).2.1
          have f2 : w2.frozen? ⟨g, 32 + j, none⟩ = false := frozen_of_row _ _ _ _ _ HR2.out
          have HR3 : Hid ((w2.setCell ⟨g, 32 + j, none⟩ (.int .u8 (B.getD j 0).toNat)).heap[g]? = some (.cells (pcells (prt A (j + 1)) (prt B (j + 1))).toArray 39 (0, 0))) := by
            have := row_set (v := .int .u8 (B.getD j 0).toNat) (off := 32 + j) HR2.out
            rw [pcells_b hpa2 hpb hlj, prt_set HBl.out hlj] at this
            exact this
          have HK3 : Hid (Kept [g] W1 (w2.setCell ⟨g, 32 + j, none⟩ (.int .u8 (B.getD j 0).toNat))) := HK2.out.setCell (by simp) _
          have wi2 : IntKind.i64.wrap ((I : Int) + 32) = ((I + 32 : Nat) : Int) := by rw [IntKind.wrap_i64]; omega
          have wij : IntKind.i64.wrap (((I + 32 : Nat) : Int) + (j : Int)) = ((I + 32 + j : Nat) : Int) := by rw [IntKind.wrap_i64]; omega
          have hijn : I + 32 + j < n := by omega
          generalize ((prt B j).getD j 0).toNat = u2 at c2
          generalize (B.getD j 0).toNat = a2 at cB HR3 HK3
          generalize hS : I + 32 + j = S at wij hijn cB
          clear hS
          generalize hT : I + 32 = T at wi2 wij
          clear hT
          clear HR2 HK2 HKw2 hpa hpb hpa2 q2
          go_wp2
          go_roundw
          case rel => exact ⟨j + 1, by omega, by go_num, HR3.out, HK3.out⟩
          case measure => simp [intOf]; omega
        · obtain rfl : j = 32 := by omega
          have hR := HR.out
          rw [prt_end HAl.out, prt_end HBl.out] at hR
          have HRz : Hid (wr.heap[g]? = some (.cells (pcells A B).toArray 39 (0, 0))) := hR
          have cC := HKw.out.cellOf HCC.out (by simp)
          have c1 : wr.cell? ⟨g, 64, none⟩ = some (.int .i64 0) := by rw [row_cell hR]; exact (pcells_at HAl.out HBl.out (show 0 < 32 by omega)).2.2
          have f1 : wr.frozen? ⟨g, 64, none⟩ = false := frozen_of_row _ _ _ _ _ hR
          have HR3 : Hid ((wr.setCell ⟨g, 64, none⟩ (.int .i64 cd)).heap[g]? = some (.cells e.cells.toArray 39 (0, 0))) := by
            have := row_set (v := .int .i64 cd) (off := 64) hR
            rw [HEC.out]
            unfold pcells at this
            rw [List.set_append_right _ _ (by rw [bys_length, HAl.out]; omega), bys_length, HAl.out, List.set_append_right _ _ (by rw [bys_length, HBl.out]; omega), bys_length, HBl.out] at this
            exact this
          have HK3 : Hid (Kept [g] W1 (wr.setCell ⟨g, 64, none⟩ (.int .i64 cd))) := HKj.out.setCell (by simp) _
          have wi2 : IntKind.i64.wrap ((I : Int) + 64) = ((I + 64 : Nat) : Int) := by rw [IntKind.wrap_i64]; omega
          have wc : IntKind.i64.wrap (cd : Int) = (cd : Int) := by rw [IntKind.wrap_i64]; omega
          have hin2 : I + 64 < n := by omega
          generalize hT : I + 64 = T at wi2 cC hin2
          clear hT hR HR HRz
          go_upto_region 14 with (fail)
          clear cC c1 f1 wi2 wc hin2
          generalize wr.setCell ⟨g, 64, none⟩ (.int .i64 cd) = w3 at HR3 HK3 ⊢
          have o3 : OwnR w3 w.heap.size u4 M := (HO.out.kept HK1.out (by simp)).kept HK3.out (fun q hq => by have := (HO.out.lt hq).2; have := HG.out; simp; omega)
          have k3 : Kept [] w w3 := HK.out.trans (HK1.out.trans HK3.out (fun i hi hl => by simp at hi; have := HG.out; omega)) (by simp)
          obtain ⟨v4, w4, hrun, o4, k4⟩ := run_app3R w3 w.heap.size u4 M e o3 (by have := HLn.out; have := HI.out; omega) k3.size
          have H4 : Hid (OwnR w4 w.heap.size v4 (M ++ [e]) ∧ Kept [] w w4) := ⟨o4, k3.trans k4 (fun i hi hl => by have := (o3.lt (by simpa using hi)).1; omega)⟩
          have ie : (Try.prog.info? 39).map (·.size) = some e.cells.length := by rw [e.len]; exact Try.infoResS
          have rE := res_range HR3.out
          clear o3 k3 o4 k4
          go_wp2_with (first
            | refine wpList_load_mid rfl 39 (.tmp 6) rfl g 0 rfl e.cells _ rE Try.underlying39 rfl ie ?_
            | refine wpList_plain rfl (fun _ hK => wp_build1 (.tmp 67) rfl e rfl (hK _ _ ?_))
            | refine wpList_app_run rfl (.tmp 66) (.tmp 68) 22 22 rfl u4 (.slice (some ⟨w3.heap.size, 0, none⟩) 1 1) rfl rfl v4 w4 hrun ?_)
          go_roundw
          case rel => exact ⟨k + 1, I + 65, ⟨by have := HI.out; omega, by have := HI.out; have := HL.out; omega⟩, by omega, by go_num, by show OwnR _ _ _ _; rw [HOX.out]; exact H4.out.1, H4.out.2⟩
          case measure => simp [intOf]; omega
    · have hkN : k = N := by have := HI.out; have := HL.out; omega
      subst hkN
      have HLn : Hid (Z.length = k) := by show _ = _; rw [← HZ.out]; simp
      rw [HZ.out] at HO
      obtain ⟨bo, c, hx, _, hR, hao, _⟩ := HO.out.ress
      subst hx
      have hva := refvalid_ok bo Z.length c Z wr rfl hR (by have := HLn.out; omega)
      clear hR hao
      rw [HV0.out] at hva
      obtain ⟨V, hV⟩ : ∃ V, V0 = V := ⟨_, rfl⟩
      rw [hV] at hva
      have HV := hide hV
      clear hV
      cases V with
      | false =>
        go_wp2_with (go_at_call 14; refine hva.mono ?_; rintro r w3 ⟨rfl, hk3⟩; have K3 := hide hk3; clear hva hk3)
        go_ret2
        rw [HV.out]
        exact ⟨⟨_, rfl, OwnR.nil _ _⟩, HK.out.trans K3.out (by simp)⟩
      | true =>
        go_wp2_with (go_at_call 14; refine hva.mono ?_; rintro r w3 ⟨rfl, hk3⟩; have K3 := hide hk3; clear hva hk3)
        go_ret2
        rw [HV.out]
        exact ⟨⟨_, rfl, HO.out.kept K3.out (by simp)⟩, HK.out.trans K3.out (by simp)⟩
theorem refparse_ok (ao : Option Addr) (n cap : Nat) (xs : List UInt8) (w : World) (hn : xs.length = n) (hm : n ≤ 140737488355328) (hs : Sl w ao xs) :
    Calls Try.prog 19 #[.slice ao n cap] w fun r w' => ToldR w w' r (Tb.code (Tb.parse xs).isSome) ((Tb.parse xs).getD []) := by
  by_cases h : n = 0 ∨ 32 < Tb.by' xs 0 ∨ n ≠ 1 + 65 * Tb.by' xs 0
  · have hp : Tb.parse xs = none := by unfold Tb.parse; rw [if_neg (fun h2 => by rw [hn] at h2; omega)]
    rw [hp]
    exact refparse_no ao n cap xs w hn hm hs h
  · have h1 := refparse_yes ao n cap (Tb.by' xs 0) xs w _ _ hn hs rfl (by omega) (by omega) rfl rfl
    have hp : Tb.parse xs = if Tb.valid ((List.range (Tb.by' xs 0)).map fun i => Tb.resAt xs (1 + 65 * i)) then some ((List.range (Tb.by' xs 0)).map fun i => Tb.resAt xs (1 + 65 * i)) else none := by
      unfold Tb.parse
      by_cases hv : Tb.valid ((List.range (Tb.by' xs 0)).map fun i => Tb.resAt xs (1 + 65 * i)) = true
      · rw [if_pos ⟨by omega, by omega, by omega, hv⟩, if_pos hv]
      · rw [if_neg (fun h2 => hv h2.2.2.2), if_neg hv]
    rw [hp]
    generalize ((List.range (Tb.by' xs 0)).map fun i => Tb.resAt xs (1 + 65 * i)) = M at h1
    cases hv : Tb.valid M with
    | false => rw [hv] at h1; exact h1
    | true => rw [hv] at h1; exact h1
end Go.Proofs.Ytdeneflgldagpaa
