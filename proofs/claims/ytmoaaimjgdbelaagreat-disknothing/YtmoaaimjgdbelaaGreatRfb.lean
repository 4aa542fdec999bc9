/-
  Contracts: freightlaw5's Desk: picks, picked.
-/
import Derived.Test.YtmoaaimjgdbelaaGreatRfa
namespace Go.Proofs.YtmoaaimjgdbelaaGreat
open Go.RowKit Dsk
set_option linter.unusedVariables false
set_option linter.unusedSimpArgs false

theorem Tryz.sizeInt : (Tryz.prog.info? 3).map (·.size) = some 1 := by kernel_rfl
theorem ins_set (l : List Int) (i : Nat) (c : Int) : (ins l).set i (.int .i64 c) = ins (l.set i c) := by simp [ins, List.map_set]
theorem ins_length (l : List Int) : (ins l).length = l.length := by simp [ins]
theorem ins_at {l : List Int} {j : Nat} (hj : j < l.length) : (ins l)[j]? = some (.int .i64 (l.getD j 0)) := by simp [ins, hj]
theorem ins_one (l : List Int) : ∀ u ∈ ins l, u.oneCell' = true := by simp [ins, Value.oneCell']
theorem made_ints (m : Nat) : (madeCells #[.int .i64 0] m).toList = ins (List.replicate m 0) := by
  apply List.ext_getElem
  · simp [madeCells, ins]
  · intro i h1 h2
    simp [madeCells, ins, Nat.mod_one]

/-- The picks of a Desk. -/
structure Pk (w : World) (D g : Nat) (R : List Int) : Prop where
  cell : w.cell? ⟨D, 1, none⟩ = some (.slice (some ⟨g, 0, none⟩) R.length R.length)
  row : w.heap[g]? = some (.cells (ins R).toArray 3 (0, 0))
def plaid (ps : List Int) : List Int := ps ++ [77, 77, 77]

structure FillI (w0 wr : World) (D g m : Nat) (R : List Int) (k : Nat) : Prop where
  cell : wr.cell? ⟨D, 1, Option.none⟩ = some (.slice (some ⟨g, 0, Option.none⟩) m m)
  row : wr.heap[g]? = some (.cells (ins (List.replicate k 77 ++ R.drop k)).toArray 3 (0, 0))
  kept : Kept [g] w0 wr
theorem FillI.step {w0 wr : World} {D g m : Nat} {R : List Int} {k : Nat} (h : FillI w0 wr D g m R k) (hgD : g ≠ D) (hR : R.length = m) (hk : k < m) : FillI w0 (wr.setCell ⟨g, k, none⟩ (.int .i64 77)) D g m R (k + 1) := by
  refine ⟨?_, ?_, h.kept.setCell (by simp) _⟩
  · rw [World.cell?_setCell_other _ _ _ _ (by intro e; cases e; exact hgD rfl)]; exact h.cell
  · rw [heap_setCell_same _ _ _ _ _ _ h.row]
    simp only [List.setIfInBounds_toArray]
    congr 3
    have e : R.drop k = R.getD k 0 :: R.drop (k + 1) := by
      rw [List.drop_eq_getElem_cons (by omega)]
      simp [List.getElem?_eq_getElem (show k < R.length by omega)]
    rw [ins_set, e]
    congr 1
    rw [List.set_append_right _ _ (by simp)]
    simp [List.replicate_succ']

set_option maxRecDepth 100000 in
theorem copy_plaid (wr : World) (g n : Nat) (ao : Option Addr) (cap : Nat) (ps : List Int) (hrow : wr.heap[g]? = some (.cells (ins (List.replicate (n + 3) 77)).toArray 3 (0, 0))) (hx : ps.length = n) (hs : Ints wr ao ps) :
    ∃ w2, (Builtin.copy_ #[43, 43] 3 #[.slice (some ⟨g, 0, none⟩) (n + 3) (n + 3), .slice ao n cap]).run Tryz.prog wr = .ok (.int .i64 n) w2 ∧ w2.heap[g]? = some (.cells (ins (plaid ps)).toArray 3 (0, 0)) ∧ Kept [g] wr w2 := by
  by_cases h0 : ps = []
  · subst h0
    obtain rfl : n = 0 := by simpa using hx.symm
    refine ⟨wr, run_copy_none (P := Tryz.prog) wr _ _ _ 3 _ _ _ _ _ _ Tryz.underlying43 Tryz.sizeInt (by simp), by simpa [plaid, ins] using hrow, Kept.refl _ _⟩
  · have hlen : 0 < ps.length := List.length_pos_iff.2 h0
    obtain ⟨b, off, rfl, _⟩ := hs 0 hlen
    have hc : ∀ j u, (ins ps)[j]? = some u → wr.cell? ((⟨b, off, none⟩ : Addr).add j) = some u := fun j u hu => by
      have hj : j < ps.length := by have := (List.getElem?_eq_some_iff.1 hu).1; rwa [ins_length] at this
      rw [ins_at hj] at hu
      injection hu with hu
      obtain ⟨b', off', e, hcc⟩ := hs j hj
      injection e with e
      injection e with e1 e2
      subst e1 e2
      rw [show ((⟨b, off, none⟩ : Addr).add j) = ⟨b, off + j, none⟩ from by unfold Addr.add; by_cases h : j = 0 <;> simp [h], hcc, hu]
    have h := run_copy_row (P := Tryz.prog) wr 43 43 3 3 g 0 (n + 3) (n + 3) ⟨b, off, none⟩ n cap _ 3 (ins ps) Tryz.underlying43 Tryz.sizeInt hrow (by rw [ins_length, hx]; simp only [Nat.min_def]; split <;> omega) hc (by rw [ins_length, hx]; simp [ins_length]) (ins_one ps)
    refine ⟨_, by rw [h, ins_length, hx]; rfl, ?_, kept_setRow (Kept.refl _ _) (by simp) _⟩
    rw [setRow_heap _ _ _ _ _ _ hrow]
    congr 2
    simp [plaid, ins, hx]

set_option maxHeartbeats 1600000 in
set_option maxRecDepth 100000 in
theorem picks_ok (D : Nat) (ao : Option Addr) (n cap : Nat) (ps : List Int) (w : World) (v0 : Value) (hc : w.cell? ⟨D, 1, none⟩ = some v0) (hfr : w.frozen? ⟨D, 1, none⟩ = false) (hx : ps.length = n) (hs : Ints w ao ps) (hfar : ps ≠ [] → ∀ a, ao = some a → a.block ≠ D) (hn : n ≤ 1000000) :
    Calls Tryz.prog 100 #[.pointer (some ⟨D, 0, none⟩), .slice ao n cap] w fun e w' => ∃ g, e = .returned (.slice (some ⟨g, 0, none⟩) n (n + 3)) ∧ Pk w' D g (plaid ps) ∧ Kept [D] w w' ∧ w.heap.size ≤ g ∧ w'.frozen? ⟨D, 1, none⟩ = false ∧ One 0 D w w' := by
  obtain ⟨i0, hi, hz0, hz1, hz2⟩ := info_parts Tryz.infoInt
  have hDl := World.block_lt_of_cell? _ _ hc
  have HX : Hid (ps.length = n) := hx
  have HS0 : Hid (Ints w ao ps) := hs
  have HFD : Hid (ps ≠ [] → ∀ a, ao = some a → a.block ≠ D) := hfar
  clear hx hs hfar
  go_enter Tryz.func100, Tryz.ntmps100
  go_wp2_with (at_make; refine wpList_make_full _ rfl _ _ 43 rfl w.heap.size 3 i0 (.int .i64 0) 1 Tryz.underlying43 hi hz0 hz1 .i64 .i64 ((n : Int) + 3) ((n : Int) + 3) (n + 3) rfl rfl (by omega) (by omega) ?c1 ?c2 ?c3 ?_)
  case c1 => omega
  case c2 => unfold maxLen; omega
  intro w1 hown hgrow
  have hk1 : Kept [] w w1 := (Kept.refl _ _).grown hgrow (by simp)
  obtain ⟨g, hg⟩ : ∃ g, g = w.heap.size := ⟨_, rfl⟩
  obtain ⟨m, hm⟩ : ∃ m, m = n + 3 := ⟨_, rfl⟩
  obtain ⟨R, hRm, hrow1⟩ : ∃ R : List Int, R.length = m ∧ w1.heap[g]? = some (.cells (ins R).toArray 3 (0, 0)) := by
    refine ⟨List.replicate m 0, by simp, ?_⟩
    rcases hown.2 with ⟨h, _⟩ | ⟨g', cap', cur, hv, _, hg', _, _, hsz, htk⟩
    · cases h
    · cases hv
      rw [hg, hg']
      have hcs : cur.size = m := by rw [hm]; simpa using hsz
      have : cur.toList = ins (List.replicate m 0) := by
        rw [List.take_of_length_le (by simp; omega)] at htk
        rw [htk, hm]
        exact made_ints _
      rw [← this]
  have hgs : w.heap.size ≤ g := by omega
  have hgD : g ≠ D := by omega
  have hc1 := hk1.cellOf hc (by simp)
  have hf1 : w1.frozen? ⟨D, 1, none⟩ = false := (hk1.frozen (p := ⟨D, 1, none⟩) hDl (by simp)).trans hfr
  rw [← hg, ← hm]
  have hmb : m ≤ 1000003 := by omega
  have hk3 : Kept [D] w (w1.setCell ⟨D, 1, none⟩ (.slice (some ⟨g, 0, none⟩) m m)) := (hk1.mono (by simp)).setCell (by simp) _
  have ho3 : One 0 D w (w1.setCell ⟨D, 1, none⟩ (.slice (some ⟨g, 0, none⟩) m m)) := (One.kept hk1 (by simp)).trans (One.setCell _ (by decide)) hk1.size
  have HO3 := hide ho3
  clear ho3
  have hs3 : Ints (w1.setCell ⟨D, 1, none⟩ (.slice (some ⟨g, 0, none⟩) m m)) ao ps := HS0.out.kept (Keep.ofKept hk3) (fun hne a ha e => HFD.out hne a ha (by simpa using e))
  have hf3 : (w1.setCell ⟨D, 1, none⟩ (.slice (some ⟨g, 0, none⟩) m m)).frozen? ⟨D, 1, none⟩ = false := by rw [World.frozen?_setCell]; exact hf1
  have HI : Hid (FillI (w1.setCell ⟨D, 1, none⟩ (.slice (some ⟨g, 0, none⟩) m m)) (w1.setCell ⟨D, 1, none⟩ (.slice (some ⟨g, 0, none⟩) m m)) D g m R 0) := by
    refine ⟨World.cell?_setCell_same _ _ _ hc1, ?_, Kept.refl _ _⟩
    rw [heap_setCell_other _ _ _ _ (by simpa using hgD)]
    simpa using hrow1
  have hD3 : D < (w1.setCell ⟨D, 1, none⟩ (.slice (some ⟨g, 0, none⟩) m m)).heap.size := World.block_lt_of_cell? _ _ HI.out.cell
  have HMN := hide hm
  clear hown hgrow hrow1 hk1 hg hc hfr hm
  go_wp2
  generalize w1.setCell _ _ = w3 at hk3 HO3 HI hs3 hf3 hD3 ⊢
  have HS : Hid (Ints w3 ao ps) := hs3
  have HF : Hid (ps ≠ [] → ∀ a, ao = some a → a.block ≠ g) := fun hne a ha => by
    obtain ⟨b', off', e', hcc⟩ := HS0.out 0 (List.length_pos_iff.2 hne)
    have hb' := World.block_lt_of_cell? _ _ hcc
    rw [e'] at ha
    cases ha
    show b' ≠ g
    have : b' < w.heap.size := hb'
    omega
  have HF3 := hide hf3
  clear hs3 hc1 hf1 hf3
  go_loopw [5] (fun i wr => ∃ k : Nat, k ≤ m ∧ i = .int .i64 k ∧ Hid (FillI w3 wr D g m R k)) (fun i wr => m - (intOf i).toNat)
  case atStart => exact ⟨0, Nat.zero_le _, rfl, HI⟩
  case round =>
    clear HI
    obtain ⟨k, hk, rfl, HR⟩ := hrel
    have hcD := HR.out.cell
    by_cases hlt : k < m
    · have hcg : ∃ u, wr.cell? ⟨g, k, none⟩ = some u := by
        rw [cell_of_row _ _ _ _ _ _ HR.out.row]
        have hl : k < (ins (List.replicate k 77 ++ R.drop k)).length := by rw [ins_length]; simp; omega
        exact ⟨_, by rw [List.getElem?_toArray]; exact List.getElem?_eq_getElem hl⟩
      obtain ⟨u, hcg⟩ := hcg
      have hfz : wr.frozen? ⟨g, k, none⟩ = false := frozen_of_row _ _ _ _ _ HR.out.row
      have HR2 : Hid (FillI w3 (wr.setCell ⟨g, k, none⟩ (.int .i64 77)) D g m R (k + 1)) := HR.out.step hgD hRm hlt
      clear HR
      go_wp2
      go_roundw
      case rel => exact ⟨k + 1, by omega, by go_num, HR2⟩
      case measure => simp [intOf]; omega
    · have hkm : k = m := by omega
      have hrow : wr.heap[g]? = some (.cells (ins (List.replicate (n + 3) 77)).toArray 3 (0, 0)) := by
        have := HR.out.row
        rw [List.drop_of_length_le (by omega), List.append_nil, hkm, HMN.out] at this
        exact this
      have hsl : Ints wr ao ps := HS.out.kept (Keep.ofKept HR.out.kept) (fun hne a ha e => HF.out hne a ha (by simpa using e))
      obtain ⟨w2, hcp, hrow2, hk2⟩ := copy_plaid wr g n ao cap ps hrow HX.out hsl
      rw [← HMN.out] at hcp
      have hc2 : w2.cell? ⟨D, 1, none⟩ = some (.slice (some ⟨g, 0, none⟩) m m) := hk2.cellOf hcD (by simp; omega)
      have HF2 : Hid (Pk w2 D g (plaid ps) ∧ w2.frozen? ⟨D, 1, none⟩ = false) := by
        have hll : (plaid ps).length = m := by simp [plaid, HX.out, HMN.out]
        exact ⟨⟨by rw [hll]; exact hc2, hrow2⟩, (hk2.frozen (World.block_lt_of_cell? _ _ hcD) (by simp; omega)).trans ((HR.out.kept.frozen hD3 (by simp; omega)).trans HF3.out)⟩
      have HK : Hid (Kept [D] w w2) := (hk3.trans HR.out.kept (by simp; omega)).trans hk2 (by simp; omega)
      have HO : Hid (One 0 D w w2) := hide (((HO3.out.trans (One.kept HR.out.kept (by simp; omega)) hk3.size).trans (One.kept hk2 (by simp; omega)) (hk3.trans HR.out.kept (by simp; omega)).size))
      have hnm : n ≤ m := by have := HMN.out; omega
      clear hrow hsl hrow2 HR hkm
      go_wp2
      go_ret
      rw [HMN.out]
      exact ⟨g, rfl, HF2.out.1, HK.out, hgs, HF2.out.2, HO.out⟩

set_option maxHeartbeats 1600000 in
set_option maxRecDepth 100000 in
theorem picked_some (D g : Nat) (b off n cap : Nat) (ps : List Int) (w : World) (hD : Pk w D g (plaid ps)) (hx : ps.length = n) (hs : ∀ i, i < n → w.cell? ⟨b, off + i, none⟩ = some (.int .i64 (ps.getD i 0))) (hn : n ≤ 1000000) :
    Calls Tryz.prog 102 #[.pointer (some ⟨D, 0, none⟩), .slice (some ⟨b, off, none⟩) n cap] w fun e w' => e = .returned (.bool true) ∧ ∃ k, w' = w.drewN k := by
  have hll : (plaid ps).length = n + 3 := by simp [plaid, hx]
  have hc := hD.cell
  rw [hll] at hc
  have hcg : ∀ i, i < n + 3 → w.cell? ⟨g, i, none⟩ = some (.int .i64 ((plaid ps).getD i 0)) := fun i hi => by
    rw [cell_of_row _ _ _ _ _ _ hD.row, List.getElem?_toArray]
    exact ins_at (by omega)
  have H1 : Hid (∀ i, i < n → w.cell? ⟨g, i, none⟩ = some (.int .i64 (ps.getD i 0))) := fun i hi => by
    rw [hcg i (by omega)]
    have : (plaid ps).getD i 0 = ps.getD i 0 := by simp [plaid, List.getElem?_append_left (show i < ps.length by omega)]
    rw [this]
  have H2 : Hid (∀ i, n ≤ i → i < n + 3 → w.cell? ⟨g, i, none⟩ = some (.int .i64 77)) := fun i hn' hi => by
    rw [hcg i hi]
    have : (plaid ps).getD i 0 = 77 := by
      simp only [plaid, List.getD_eq_getElem?_getD]
      rw [List.getElem?_append_right (by omega)]
      rcases (show i - ps.length = 0 ∨ i - ps.length = 1 ∨ i - ps.length = 2 by omega) with e | e | e <;> rw [e] <;> rfl
    rw [this]
  have HS : Hid (∀ i, i < n → w.cell? ⟨b, off + i, none⟩ = some (.int .i64 (ps.getD i 0))) := hs
  obtain ⟨m, hm⟩ : ∃ m, m = n + 3 := ⟨_, rfl⟩
  rw [← hm] at hc H2
  have hmb : m ≤ 1000003 := by omega
  have hnm : n ≤ m := by omega
  clear hD hx hs hll hcg hm
  go_enter Tryz.func102, Tryz.ntmps102
  go_wp2
  go_loopw [5] (fun i wr => ∃ k : Nat, k ≤ m ∧ i = .int .i64 k ∧ ∃ j, wr = w.drewN j) (fun i wr => m - (intOf i).toNat)
  case atStart => exact ⟨0, Nat.zero_le _, rfl, 0, rfl⟩
  case round =>
    obtain ⟨k, hk, rfl, j, hwr⟩ := hrel
    subst hwr
    by_cases hlt : k < m
    · by_cases hkn : k < n
      · have c1 := H1.out k hkn
        have c2 := HS.out k hkn
        generalize ps.getD k 0 = c at c1 c2
        have g1 : (decide ((k : Int) < (n : Int))) = true := by simp; omega
        have g2 : (decide ((n : Int) ≤ (k : Int))) = false := by simp; omega
        have g1' : (decide (k < n)) = true := by simp; omega
        have g2' : (decide (n ≤ k)) = false := by simp; omega
        have g3 : (c != c) = false := by simp
        go_wp2
        go_quiet (fail)
        go_wp2
        go_roundw
        case rel => exact ⟨k + 1, by omega, by go_num, _, rfl⟩
        case measure => simp [intOf]; omega
      · have c1 := H2.out k (by omega) hlt
        have g1 : (decide ((k : Int) < (n : Int))) = false := by simp; omega
        have g2 : (decide ((n : Int) ≤ (k : Int))) = true := by simp; omega
        have g1' : (decide (k < n)) = false := by simp; omega
        have g2' : (decide (n ≤ k)) = true := by simp; omega
        go_wp2
        go_quiet (fail)
        go_wp2
        go_roundw
        case rel => exact ⟨k + 1, by omega, by go_num, _, rfl⟩
        case measure => simp [intOf]; omega
    · go_wp2
      go_ret
      exact ⟨rfl, j, rfl⟩

set_option maxHeartbeats 1600000 in
set_option maxRecDepth 100000 in
theorem picked_none (D g : Nat) (ao : Option Addr) (cap : Nat) (w : World) (hD : Pk w D g (plaid [])) :
    Calls Tryz.prog 102 #[.pointer (some ⟨D, 0, none⟩), .slice ao 0 cap] w fun e w' => e = .returned (.bool true) ∧ ∃ k, w' = w.drewN k := by
  have hc : w.cell? ⟨D, 1, none⟩ = some (.slice (some ⟨g, 0, none⟩) 3 3) := hD.cell
  have H2 : Hid (∀ i, i < 3 → w.cell? ⟨g, i, none⟩ = some (.int .i64 77)) := fun i hi => by
    rw [cell_of_row _ _ _ _ _ _ hD.row, List.getElem?_toArray, ins_at (by simp [plaid]; omega)]
    rcases (show i = 0 ∨ i = 1 ∨ i = 2 by omega) with e | e | e <;> rw [e] <;> rfl
  obtain ⟨m, hm⟩ : ∃ m, m = 3 := ⟨_, rfl⟩
  rw [← hm] at H2
  have hc' : w.cell? ⟨D, 1, none⟩ = some (.slice (some ⟨g, 0, none⟩) m m) := by rw [hm]; exact hc
  have hmb : m ≤ 3 := by omega
  clear hD hc hm
  go_enter Tryz.func102, Tryz.ntmps102
  go_wp2
  go_loopw [5] (fun i wr => ∃ k : Nat, k ≤ m ∧ i = .int .i64 k ∧ ∃ j, wr = w.drewN j) (fun i wr => m - (intOf i).toNat)
  case atStart => exact ⟨0, Nat.zero_le _, rfl, 0, rfl⟩
  case round =>
    obtain ⟨k, hk, rfl, j, hwr⟩ := hrel
    subst hwr
    by_cases hlt : k < m
    · have c1 := H2.out k hlt
      have g1 : (decide ((k : Int) < (0 : Int))) = false := by simp
      have g2 : (decide ((0 : Int) ≤ (k : Int))) = true := by simp
      have g2' : (decide (0 ≤ k)) = true := by simp
      go_wp2
      go_quiet (fail)
      go_wp2
      go_roundw
      case rel => exact ⟨k + 1, by omega, by go_num, _, rfl⟩
      case measure => simp [intOf]; omega
    · go_wp2
      go_ret
      exact ⟨rfl, j, rfl⟩
theorem picked_ok (D g : Nat) (ao : Option Addr) (n cap : Nat) (ps : List Int) (w : World) (hD : Pk w D g (plaid ps)) (hx : ps.length = n) (hs : Ints w ao ps) (hn : n ≤ 1000000) :
    Calls Tryz.prog 102 #[.pointer (some ⟨D, 0, none⟩), .slice ao n cap] w fun e w' => e = .returned (.bool true) ∧ ∃ k, w' = w.drewN k := by
  by_cases h0 : ps = []
  · subst h0
    obtain rfl : n = 0 := by simpa using hx.symm
    exact picked_none D g ao cap w hD
  · obtain ⟨b, off, rfl, _⟩ := hs 0 (List.length_pos_iff.2 h0)
    refine picked_some D g b off n cap ps w hD hx (fun i hi => ?_) hn
    obtain ⟨b', off', e, hc⟩ := hs i (by omega)
    injection e with e
    injection e with e1 e2
    subst e1 e2
    exact hc
end Go.Proofs.YtmoaaimjgdbelaaGreat
