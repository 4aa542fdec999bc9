import Derived.Test.YteckiednnaianaaGreatIbp
import Derived.Test.YteckiednnaianaaGreatHlp
import Derived.Test.YteckiednnaianaaGreatRfap
import Derived.Test.YteckiednnaianaaGreatRemp
import Derived.LaidEql
namespace Go.Proofs.YteckiednnaianaaGreat
section
open Go.RowKit Dsk
set_option linter.unusedVariables false
set_option linter.unusedSimpArgs false
theorem Fls.keep {F : Nat → Prop} {w w' : World} {B : Nat} {v : Value} {L : List (By × By)} {vs : List Value} (h : Fls w B v L vs) (hk : Keep F w w') (h1 : ∀ g, v.ownBlock = some g → ¬ F g) (h2 : ∀ u ∈ vs, ∀ g, u.ownBlock = some g → ¬ F g) : Fls w' B v L vs :=
 ⟨h.len, own_keeps h.row hk h1, fun i f u hf hu => (h.own i f u hf hu).keep hk (h2 u (List.mem_of_getElem? hu)), h.new, h.apart⟩
theorem Fls.base {w : World} {B B' : Nat} {v : Value} {L : List (By × By)} {vs : List Value} (h : Fls w B v L vs) (hb : B' ≤ B) : Fls w B' v L vs :=
 ⟨h.len, ownsRow_base_a h.row hb, h.own, fun u hu g hg => Nat.le_trans hb (h.new u hu g hg), h.apart⟩
theorem PD.lim {w : World} {p : Nat} {S : Ds} {A : Nat → Nat} {o : Lab} (h : PD w p S A o) {b : Nat} (hb : o b ≠ 0) : b < w.heap.size := by
 obtain ⟨_, _, _, _, hx⟩ := h
 exact hx.lim b hb
end

section
open Go.RowKit Dsk
set_option linter.unusedVariables false
set_option linter.unusedSimpArgs false
section
variable {X Y : Nat → Prop} {w w' : World} {P Q : World → Prop}
end
section
variable {X : Nat → Prop} {w : World} {p : Nat} {S : Ds} {N : Nat} {q : Nat} {T : Ds} {M : Nat}
end
end

section
open Go.RowKit Dsk
set_option linter.unusedVariables false
set_option linter.unusedSimpArgs false
theorem Tryz.sizeInt : (Tryz.prog.info? 3).map (·.size) = some 1 := by kernel_rfl
theorem ins_set (l : List Int) (i : Nat) (c : Int) : (ins l).set i (.int .i64 c) = ins (l.set i c) := by simp [ins, List.map_set]
theorem ins_length (l : List Int) : (ins l).length = l.length := by simp [ins]
theorem ins_at {l : List Int} {j : Nat} (hj : j < l.length) : (ins l)[j]? = some (.int .i64 (l.getD j 0)) := by simp [ins, hj]
theorem ins_one (l : List Int) : ∀ u ∈ ins l, u.oneCell' = true := by simp [ins, Value.oneCell']
theorem made_ints (m : Nat) : (madeCells #[.int .i64 0] m).toList = ins (List.replicate m 0) := by
 apply List.ext_getElem
 ·simp [madeCells, ins]
 ·intro i h1 h2
  simp [madeCells, ins, Nat.mod_one]
structure Pk (w : World) (D g : Nat) (R : List Int) : Prop where
 cell : w.cell? ⟨D, 1, none⟩ = some (.slice (some ⟨g, 0, none⟩) R.length R.length)
 row : w.heap[g]? = some (.cells (ins R).toArray 3 (0, 0))
def plaid (ps : List Int) : List Int := ps ++ [77, 77, 77]
structure FillI (w0 wr : World) (D g m : Nat) (R : List Int) (k : Nat) : Prop where
 cell : wr.cell? ⟨D, 1, Option.none⟩ = some (.slice (some ⟨g, 0, Option.none⟩) m m)
 row : wr.heap[g]? = some (.cells (ins (List.replicate k 77 ++ R.drop k)).toArray 3 (0, 0))
 kept : Kept [g] w0 wr
theorem FillI.step {w0 wr : World} {D g m : Nat} {R : List Int} {k : Nat} (h : FillI w0 wr D g m R k) (hgD : g ≠ D) (hR : R.length = m) (hk : k < m) : FillI w0 (wr.setCell ⟨g, k, none⟩ (.int .i64 77)) D g m R (k + 1) := by
 refine ⟨?_, ?_, h.kept.setCell (by simp) _⟩
 ·rw [World.cell?_setCell_other _ _ _ _ (by intro e; cases e; exact hgD rfl)]; exact h.cell
 ·rw [heap_setCell_same _ _ _ _ _ _ h.row]
  simp only [List.setIfInBounds_toArray]
  congr 3
  have e : R.drop k = R.getD k 0 :: R.drop (k + 1) := by
   rw [List.drop_eq_getElem_cons (by omega)]
   simp [List.getElem?_eq_getElem (show k < R.length by omega)]
  rw [ins_set, e]
  congr 1
  rw [List.set_append_right _ _ (by simp)]
  simp [List.replicate_succ']
set_option maxRecDepth 100000 in
theorem copy_plaid (wr : World) (g n : Nat) (ao : Option Addr) (cap : Nat) (ps : List Int) (hrow : wr.heap[g]? = some (.cells (ins (List.replicate (n + 3) 77)).toArray 3 (0, 0))) (hx : ps.length = n) (hs : Ints wr ao ps) :
  ∃ w2, (Builtin.copy_ #[43, 43] 3 #[.slice (some ⟨g, 0, none⟩) (n + 3) (n + 3), .slice ao n cap]).run Tryz.prog wr = .ok (.int .i64 n) w2 ∧ w2.heap[g]? = some (.cells (ins (plaid ps)).toArray 3 (0, 0)) ∧ Kept [g] wr w2 := by
 by_cases h0 : ps = []
 ·subst h0
  obtain rfl : n = 0 := by simpa using hx.symm
  refine ⟨wr, run_copy_none (P := Tryz.prog) wr _ _ _ 3 _ _ _ _ _ _ Tryz.underlying43 Tryz.sizeInt (by simp), by simpa [plaid, ins] using hrow, Kept.refl _ _⟩
 ·have hlen : 0 < ps.length := List.length_pos_iff.2 h0
  obtain ⟨b, off, rfl, _⟩ := hs 0 hlen
  have hc : ∀ j u, (ins ps)[j]? = some u → wr.cell? ((⟨b, off, none⟩ : Addr).add j) = some u := fun j u hu => by
   have hj : j < ps.length := by have := (List.getElem?_eq_some_iff.1 hu).1; rwa [ins_length] at this
   rw [ins_at hj] at hu
   injection hu with hu
   obtain ⟨b', off', e, hcc⟩ := hs j hj
   injection e with e
   injection e with e1 e2
   subst e1 e2
   rw [show ((⟨b, off, none⟩ : Addr).add j) = ⟨b, off + j, none⟩ from by unfold Addr.add; by_cases h : j = 0 <;> simp [h], hcc, hu]
  have h := run_copy_row (P := Tryz.prog) wr 43 43 3 3 g 0 (n + 3) (n + 3) ⟨b, off, none⟩ n cap _ 3 (ins ps) Tryz.underlying43 Tryz.sizeInt hrow (by rw [ins_length, hx]; simp only [Nat.min_def]; split <;> omega) hc (by rw [ins_length, hx]; simp [ins_length]) (ins_one ps)
  refine ⟨_, by rw [h, ins_length, hx]; rfl, ?_, kept_setRow (Kept.refl _ _) (by simp) _⟩
  rw [setRow_heap _ _ _ _ _ _ hrow]
  congr 2
  simp [plaid, ins, hx]
set_option maxHeartbeats 1600000 in
set_option maxRecDepth 100000 in
theorem picks_ok (D : Nat) (ao : Option Addr) (n cap : Nat) (ps : List Int) (w : World) (v0 : Value) (hc : w.cell? ⟨D, 1, none⟩ = some v0) (hfr : w.frozen? ⟨D, 1, none⟩ = false) (hx : ps.length = n) (hs : Ints w ao ps) (hfar : ps ≠ [] → ∀ a, ao = some a → a.block ≠ D) (hn : n ≤ 1000000) :
  Calls Tryz.prog 91 #[.pointer (some ⟨D, 0, none⟩), .slice ao n cap] w fun e w' => ∃ g, e = .returned (.slice (some ⟨g, 0, none⟩) n (n + 3)) ∧ Pk w' D g (plaid ps) ∧ Kept [D] w w' ∧ w.heap.size ≤ g ∧ w'.frozen? ⟨D, 1, none⟩ = false ∧ One 0 D w w' := by
 obtain ⟨i0, hi, hz0, hz1, hz2⟩ := info_parts Tryz.infoInt
 have hDl := World.block_lt_of_cell? _ _ hc
 have HX : Hid (ps.length = n) := hx
 have HS0 : Hid (Ints w ao ps) := hs
 have HFD : Hid (ps ≠ [] → ∀ a, ao = some a → a.block ≠ D) := hfar
 clear hx hs hfar
 go_enter Tryz.func91, Tryz.ntmps91
 go_wp2_with (at_make; refine wpList_make_full _ rfl _ _ 43 rfl w.heap.size 3 i0 (.int .i64 0) 1 Tryz.underlying43 hi hz0 hz1 .i64 .i64 ((n : Int) + 3) ((n : Int) + 3) (n + 3) rfl rfl (by omega) (by omega) ?c1 ?c2 ?c3 ?_)
 case c1 => omega
 case c2 => unfold maxLen; omega
 intro w1 hown hgrow
 have hk1 : Kept [] w w1 := (Kept.refl _ _).grown hgrow (by simp)
 obtain ⟨g, hg⟩ : ∃ g, g = w.heap.size := ⟨_, rfl⟩
 obtain ⟨m, hm⟩ : ∃ m, m = n + 3 := ⟨_, rfl⟩
 obtain ⟨R, hRm, hrow1⟩ : ∃ R : List Int, R.length = m ∧ w1.heap[g]? = some (.cells (ins R).toArray 3 (0, 0)) := by
  refine ⟨List.replicate m 0, by simp, ?_⟩
  rcases hown.2 with ⟨h, _⟩ | ⟨g', cap', cur, hv, _, hg', _, _, hsz, htk⟩
  ·cases h
  ·cases hv
   rw [hg, hg']
   have hcs : cur.size = m := by rw [hm]; simpa using hsz
   have : cur.toList = ins (List.replicate m 0) := by
    rw [List.take_of_length_le (by simp; omega)] at htk
    rw [htk, hm]
    exact made_ints _
   rw [← this]
 have hgs : w.heap.size ≤ g := by omega
 have hgD : g ≠ D := by omega
 have hc1 := hk1.cellOf hc (by simp)
 have hf1 : w1.frozen? ⟨D, 1, none⟩ = false := (hk1.frozen (p := ⟨D, 1, none⟩) hDl (by simp)).trans hfr
 rw [← hg, ← hm]
 have hmb : m ≤ 1000003 := by omega
 have hk3 : Kept [D] w (w1.setCell ⟨D, 1, none⟩ (.slice (some ⟨g, 0, none⟩) m m)) := (hk1.mono (by simp)).setCell (by simp) _
 have ho3 : One 0 D w (w1.setCell ⟨D, 1, none⟩ (.slice (some ⟨g, 0, none⟩) m m)) := (One.kept hk1 (by simp)).trans (One.setCell _ (by decide)) hk1.size
 have HO3 := hide ho3
 clear ho3
 have hs3 : Ints (w1.setCell ⟨D, 1, none⟩ (.slice (some ⟨g, 0, none⟩) m m)) ao ps := HS0.out.kept (Keep.ofKept hk3) (fun hne a ha e => HFD.out hne a ha (by simpa using e))
 have hf3 : (w1.setCell ⟨D, 1, none⟩ (.slice (some ⟨g, 0, none⟩) m m)).frozen? ⟨D, 1, none⟩ = false := by rw [World.frozen?_setCell]; exact hf1
 have HI : Hid (FillI (w1.setCell ⟨D, 1, none⟩ (.slice (some ⟨g, 0, none⟩) m m)) (w1.setCell ⟨D, 1, none⟩ (.slice (some ⟨g, 0, none⟩) m m)) D g m R 0) := by
  refine ⟨World.cell?_setCell_same _ _ _ hc1, ?_, Kept.refl _ _⟩
  rw [heap_setCell_other _ _ _ _ (by simpa using hgD)]
  simpa using hrow1
 have hD3 : D < (w1.setCell ⟨D, 1, none⟩ (.slice (some ⟨g, 0, none⟩) m m)).heap.size := World.block_lt_of_cell? _ _ HI.out.cell
 have HMN := hide hm
 clear hown hgrow hrow1 hk1 hg hc hfr hm
 go_wp2
 generalize w1.setCell _ _ = w3 at hk3 HO3 HI hs3 hf3 hD3 ⊢
 have HS : Hid (Ints w3 ao ps) := hs3
 have HF : Hid (ps ≠ [] → ∀ a, ao = some a → a.block ≠ g) := fun hne a ha => by
  obtain ⟨b', off', e', hcc⟩ := HS0.out 0 (List.length_pos_iff.2 hne)
  have hb' := World.block_lt_of_cell? _ _ hcc
  rw [e'] at ha
  cases ha
  show b' ≠ g
  have : b' < w.heap.size := hb'
  omega
 have HF3 := hide hf3
 clear hs3 hc1 hf1 hf3
 go_loopw [5] (fun i wr => ∃ k : Nat, k ≤ m ∧ i = .int .i64 k ∧ Hid (FillI w3 wr D g m R k)) (fun i wr => m - (intOf i).toNat)
 case atStart => exact ⟨0, Nat.zero_le _, rfl, HI⟩
 case round =>
  clear HI
  obtain ⟨k, hk, rfl, HR⟩ := hrel
  have hcD := HR.out.cell
  by_cases hlt : k < m
  ·have hcg : ∃ u, wr.cell? ⟨g, k, none⟩ = some u := by
    rw [cell_of_row _ _ _ _ _ _ HR.out.row]
    have hl : k < (ins (List.replicate k 77 ++ R.drop k)).length := by rw [ins_length]; simp; omega
    exact ⟨_, by rw [List.getElem?_toArray]; exact List.getElem?_eq_getElem hl⟩
   obtain ⟨u, hcg⟩ := hcg
   have hfz : wr.frozen? ⟨g, k, none⟩ = false := frozen_of_row _ _ _ _ _ HR.out.row
   have HR2 : Hid (FillI w3 (wr.setCell ⟨g, k, none⟩ (.int .i64 77)) D g m R (k + 1)) := HR.out.step hgD hRm hlt
   clear HR
   go_wp2
   go_roundw
   case rel => exact ⟨k + 1, by omega, by go_num, HR2⟩
   case measure => simp [intOf]; omega
  ·have hkm : k = m := by omega
   have hrow : wr.heap[g]? = some (.cells (ins (List.replicate (n + 3) 77)).toArray 3 (0, 0)) := by
    have := HR.out.row
    rw [List.drop_of_length_le (by omega), List.append_nil, hkm, HMN.out] at this
    exact this
   have hsl : Ints wr ao ps := HS.out.kept (Keep.ofKept HR.out.kept) (fun hne a ha e => HF.out hne a ha (by simpa using e))
   obtain ⟨w2, hcp, hrow2, hk2⟩ := copy_plaid wr g n ao cap ps hrow HX.out hsl
   rw [← HMN.out] at hcp
   have hc2 : w2.cell? ⟨D, 1, none⟩ = some (.slice (some ⟨g, 0, none⟩) m m) := hk2.cellOf hcD (by simp; omega)
   have HF2 : Hid (Pk w2 D g (plaid ps) ∧ w2.frozen? ⟨D, 1, none⟩ = false) := by
    have hll : (plaid ps).length = m := by simp [plaid, HX.out, HMN.out]
    exact ⟨⟨by rw [hll]; exact hc2, hrow2⟩, (hk2.frozen (World.block_lt_of_cell? _ _ hcD) (by simp; omega)).trans ((HR.out.kept.frozen hD3 (by simp; omega)).trans HF3.out)⟩
   have HK : Hid (Kept [D] w w2) := (hk3.trans HR.out.kept (by simp; omega)).trans hk2 (by simp; omega)
   have HO : Hid (One 0 D w w2) := hide (((HO3.out.trans (One.kept HR.out.kept (by simp; omega)) hk3.size).trans (One.kept hk2 (by simp; omega)) (hk3.trans HR.out.kept (by simp; omega)).size))
   have hnm : n ≤ m := by have := HMN.out; omega
   clear hrow hsl hrow2 HR hkm
   go_wp2
   go_ret
   rw [HMN.out]
   exact ⟨g, rfl, HF2.out.1, HK.out, hgs, HF2.out.2, HO.out⟩
set_option maxHeartbeats 1600000 in
set_option maxRecDepth 100000 in
theorem picked_some (D g : Nat) (b off n cap : Nat) (ps : List Int) (w : World) (hD : Pk w D g (plaid ps)) (hx : ps.length = n) (hs : ∀ i, i < n → w.cell? ⟨b, off + i, none⟩ = some (.int .i64 (ps.getD i 0))) (hn : n ≤ 1000000) :
  Calls Tryz.prog 93 #[.pointer (some ⟨D, 0, none⟩), .slice (some ⟨b, off, none⟩) n cap] w fun e w' => e = .returned (.bool true) ∧ ∃ k, w' = w.drewN k := by
 have hll : (plaid ps).length = n + 3 := by simp [plaid, hx]
 have hc := hD.cell
 rw [hll] at hc
 have hcg : ∀ i, i < n + 3 → w.cell? ⟨g, i, none⟩ = some (.int .i64 ((plaid ps).getD i 0)) := fun i hi => by
  rw [cell_of_row _ _ _ _ _ _ hD.row, List.getElem?_toArray]
  exact ins_at (by omega)
 have H1 : Hid (∀ i, i < n → w.cell? ⟨g, i, none⟩ = some (.int .i64 (ps.getD i 0))) := fun i hi => by
  rw [hcg i (by omega)]
  have : (plaid ps).getD i 0 = ps.getD i 0 := by simp [plaid, List.getElem?_append_left (show i < ps.length by omega)]
  rw [this]
 have H2 : Hid (∀ i, n ≤ i → i < n + 3 → w.cell? ⟨g, i, none⟩ = some (.int .i64 77)) := fun i hn' hi => by
  rw [hcg i hi]
  have : (plaid ps).getD i 0 = 77 := by
   simp only [plaid, List.getD_eq_getElem?_getD]
   rw [List.getElem?_append_right (by omega)]
   rcases (show i - ps.length = 0 ∨ i - ps.length = 1 ∨ i - ps.length = 2 by omega) with e | e | e <;> rw [e] <;> rfl
  rw [this]
 have HS : Hid (∀ i, i < n → w.cell? ⟨b, off + i, none⟩ = some (.int .i64 (ps.getD i 0))) := hs
 obtain ⟨m, hm⟩ : ∃ m, m = n + 3 := ⟨_, rfl⟩
 rw [← hm] at hc H2
 have hmb : m ≤ 1000003 := by omega
 have hnm : n ≤ m := by omega
 clear hD hx hs hll hcg hm
 go_enter Tryz.func93, Tryz.ntmps93
 go_wp2
 go_loopw [5] (fun i wr => ∃ k : Nat, k ≤ m ∧ i = .int .i64 k ∧ ∃ j, wr = w.drewN j) (fun i wr => m - (intOf i).toNat)
 case atStart => exact ⟨0, Nat.zero_le _, rfl, 0, rfl⟩
 case round =>
  obtain ⟨k, hk, rfl, j, hwr⟩ := hrel
  subst hwr
  by_cases hlt : k < m
  ·by_cases hkn : k < n
   ·have c1 := H1.out k hkn
    have c2 := HS.out k hkn
    generalize ps.getD k 0 = c at c1 c2
    have g1 : (decide ((k : Int) < (n : Int))) = true := by simp; omega
    have g2 : (decide ((n : Int) ≤ (k : Int))) = false := by simp; omega
    have g1' : (decide (k < n)) = true := by simp; omega
    have g2' : (decide (n ≤ k)) = false := by simp; omega
    have g3 : (c != c) = false := by simp
    go_wp2
    go_quiet (fail)
    go_wp2
    go_roundw
    case rel => exact ⟨k + 1, by omega, by go_num, _, rfl⟩
    case measure => simp [intOf]; omega
   ·have c1 := H2.out k (by omega) hlt
    have g1 : (decide ((k : Int) < (n : Int))) = false := by simp; omega
    have g2 : (decide ((n : Int) ≤ (k : Int))) = true := by simp; omega
    have g1' : (decide (k < n)) = false := by simp; omega
    have g2' : (decide (n ≤ k)) = true := by simp; omega
    go_wp2
    go_quiet (fail)
    go_wp2
    go_roundw
    case rel => exact ⟨k + 1, by omega, by go_num, _, rfl⟩
    case measure => simp [intOf]; omega
  ·go_wp2
   go_ret
   exact ⟨rfl, j, rfl⟩
set_option maxHeartbeats 1600000 in
set_option maxRecDepth 100000 in
theorem picked_none (D g : Nat) (ao : Option Addr) (cap : Nat) (w : World) (hD : Pk w D g (plaid [])) :
  Calls Tryz.prog 93 #[.pointer (some ⟨D, 0, none⟩), .slice ao 0 cap] w fun e w' => e = .returned (.bool true) ∧ ∃ k, w' = w.drewN k := by
 have hc : w.cell? ⟨D, 1, none⟩ = some (.slice (some ⟨g, 0, none⟩) 3 3) := hD.cell
 have H2 : Hid (∀ i, i < 3 → w.cell? ⟨g, i, none⟩ = some (.int .i64 77)) := fun i hi => by
  rw [cell_of_row _ _ _ _ _ _ hD.row, List.getElem?_toArray, ins_at (by simp [plaid]; omega)]
  rcases (show i = 0 ∨ i = 1 ∨ i = 2 by omega) with e | e | e <;> rw [e] <;> rfl
 obtain ⟨m, hm⟩ : ∃ m, m = 3 := ⟨_, rfl⟩
 rw [← hm] at H2
 have hc' : w.cell? ⟨D, 1, none⟩ = some (.slice (some ⟨g, 0, none⟩) m m) := by rw [hm]; exact hc
 have hmb : m ≤ 3 := by omega
 clear hD hc hm
 go_enter Tryz.func93, Tryz.ntmps93
 go_wp2
 go_loopw [5] (fun i wr => ∃ k : Nat, k ≤ m ∧ i = .int .i64 k ∧ ∃ j, wr = w.drewN j) (fun i wr => m - (intOf i).toNat)
 case atStart => exact ⟨0, Nat.zero_le _, rfl, 0, rfl⟩
 case round =>
  obtain ⟨k, hk, rfl, j, hwr⟩ := hrel
  subst hwr
  by_cases hlt : k < m
  ·have c1 := H2.out k hlt
   have g1 : (decide ((k : Int) < (0 : Int))) = false := by simp
   have g2 : (decide ((0 : Int) ≤ (k : Int))) = true := by simp
   have g2' : (decide (0 ≤ k)) = true := by simp
   go_wp2
   go_quiet (fail)
   go_wp2
   go_roundw
   case rel => exact ⟨k + 1, by omega, by go_num, _, rfl⟩
   case measure => simp [intOf]; omega
  ·go_wp2
   go_ret
   exact ⟨rfl, j, rfl⟩
theorem picked_ok (D g : Nat) (ao : Option Addr) (n cap : Nat) (ps : List Int) (w : World) (hD : Pk w D g (plaid ps)) (hx : ps.length = n) (hs : Ints w ao ps) (hn : n ≤ 1000000) :
  Calls Tryz.prog 93 #[.pointer (some ⟨D, 0, none⟩), .slice ao n cap] w fun e w' => e = .returned (.bool true) ∧ ∃ k, w' = w.drewN k := by
 by_cases h0 : ps = []
 ·subst h0
  obtain rfl : n = 0 := by simpa using hx.symm
  exact picked_none D g ao cap w hD
 ·obtain ⟨b, off, rfl, _⟩ := hs 0 (List.length_pos_iff.2 h0)
  refine picked_some D g b off n cap ps w hD hx (fun i hi => ?_) hn
  obtain ⟨b', off', e, hc⟩ := hs i (by omega)
  injection e with e
  injection e with e1 e2
  subst e1 e2
  exact hc
end

section
open Go.RowKit Dsk
set_option linter.unusedVariables false
set_option linter.unusedSimpArgs false
theorem Tryz.infoPtr : (Tryz.prog.info? 75).map (fun i => (i.zero, i.size, i.bytes)) = some (some (.pointer none), 1, 8) := by kernel_rfl
def ptrs (A : Nat → Nat) (K : List Nat) : List Value := K.map (fun k => .pointer (some ⟨A k, 0, none⟩))
theorem ptrs_snoc (A : Nat → Nat) (K : List Nat) (k : Nat) : ptrs A (K ++ [k]) = ptrs A K ++ [.pointer (some ⟨A k, 0, none⟩)] := by simp [ptrs]
theorem ptrs_congr {A A' : Nat → Nat} {K : List Nat} (h : ∀ k ∈ K, A' k = A k) : ptrs A' K = ptrs A K := by
 unfold ptrs
 exact List.map_congr_left (fun k hk => by rw [h k hk])
theorem ptr_cell {w : World} {A : Nat → Nat} {K : List Nat} {vo : Option Addr} {n vc : Nat} (h : w.ownsRow 0 75 1 (.slice vo n vc) n (ptrs A K)) {i k : Nat} (hi : K[i]? = some k) (hn : i < n) :
  ∃ g, vo = some ⟨g, 0, none⟩ ∧ w.cell? ⟨g, i, none⟩ = some (.pointer (some ⟨A k, 0, none⟩)) := by
 obtain ⟨g, hg⟩ : ∃ g, vo = some ⟨g, 0, none⟩ := by
  rcases h.2 with ⟨e, e2⟩ | ⟨g, cap, cur, e, _⟩
  ·omega
  ·injection e with e _ _; exact ⟨g, e⟩
 subst hg
 refine ⟨g, rfl, ?_⟩
 have := h.cells (g := g) rfl i _ (show (ptrs A K)[i]? = some _ by simp [ptrs, hi]; rfl)
 rw [add0] at this
 exact this
theorem Tryz.sizeThing (W : World) : (sizeOf 78).run Tryz.prog W = .ok 3 W := by kernel_rfl
theorem Tryz.eqlPtrSame (W : World) (a : Addr) : (binOp .eql 75 (.pointer (some a)) (.pointer (some a))).run Tryz.prog W = .ok (.bool true) W := by
 have h : ∀ d : Nat, (Op.equalIn (d + 1) 75 (.pointer (some a)) (.pointer (some a))).run Tryz.prog W = .ok true W := fun d => by simp [Op.equalIn, run_underlying Tryz.underlying75, Tryz.sizeThing, run_sameAddr_same]
 simp only [binOp]
 simp [Op.equal, Op.maxDepth, h 9999]
theorem Tryz.eqlPtrOther (W : World) {a b : Addr} {ca cb : Array Value} {ta tb : TypeId} (hne : a ≠ b) (ha : W.heap[a.block]? = some (.cells ca ta (0, 0))) (hb : W.heap[b.block]? = some (.cells cb tb (0, 0))) : (binOp .eql 75 (.pointer (some a)) (.pointer (some b))).run Tryz.prog W = .ok (.bool false) W := by
 have h : ∀ d : Nat, (Op.equalIn (d + 1) 75 (.pointer (some a)) (.pointer (some b))).run Tryz.prog W = .ok false W := fun d => by simp [Op.equalIn, run_underlying Tryz.underlying75, Tryz.sizeThing, run_sameAddr_other W hne ha hb]
 simp only [binOp]
 simp [Op.equal, Op.maxDepth, h 9999]
set_option maxHeartbeats 1600000 in
set_option maxRecDepth 100000 in
theorem rother_walk (oo mo : Option Addr) (n oc mc : Nat) (A B : Nat → Nat) (K : List Nat) (t : Option Addr) (r : Option Addr) (w : World) (hK : K.length = n) (hn : n ≤ 1073741824)
  (hr : (r = none ∧ ∀ j ∈ K, t ≠ some ⟨A j, 0, none⟩) ∨ ∃ k, k ∈ K ∧ t = some ⟨A k, 0, none⟩ ∧ r = some ⟨B k, 0, none⟩ ∧ ∀ j ∈ K, A j = A k → j = k)
  (ho : w.ownsRow 0 75 1 (.slice oo n oc) n (ptrs A K)) (hm : w.ownsRow 0 75 1 (.slice mo n mc) n (ptrs B K)) (hbl : ∀ j ∈ K, ∃ cs, w.heap[A j]? = some (.cells cs 78 (0, 0))) (hbt : ∀ a, t = some a → ∃ cs T, w.heap[a.block]? = some (.cells cs T (0, 0))) :
  Calls Tryz.prog 109 #[.slice oo n oc, .slice mo n mc, .pointer t] w fun e w' => e = .returned (.pointer r) ∧ w' = w := by
 have HK := hide hK
 have HR := hide hr
 have HO := hide ho
 have HM := hide hm
 have HBL := hide hbl
 have HBT := hide hbt
 clear hK hr ho hm hbl hbt
 go_enter Tryz.func109, Tryz.ntmps109
 go_wp2
 go_loopw [7] (fun i wr => ∃ k : Nat, k ≤ n ∧ i = .int .i64 k ∧ wr = w ∧ Hid (∀ j x, j < k → K[j]? = some x → t ≠ some ⟨A x, 0, none⟩)) (fun i wr => n - (intOf i).toNat)
 case atStart => exact ⟨0, by omega, rfl, rfl, hide (fun j x hj => absurd hj (Nat.not_lt_zero _))⟩
 case round =>
  obtain ⟨i, hi, rfl, hwr, HN⟩ := hrel
  obtain rfl := hwr.symm
  by_cases hlt : i < n
  ·obtain ⟨x, hx⟩ : ∃ x, K[i]? = some x := ⟨K[i]'(by rw [HK.out]; exact hlt), List.getElem?_eq_getElem _⟩
   obtain ⟨g, rfl, hc⟩ := ptr_cell HO.out hx hlt
   by_cases e : t = some ⟨A x, 0, none⟩
   ·rcases HR.out with ⟨_, h2⟩ | ⟨k, h1, h2, h3, h4⟩
    ·exact absurd e (h2 x (List.mem_of_getElem? hx))
    ·have hxk : x = k := by
      rw [h2] at e
      injection e with e
      injection e with e
      exact h4 x (List.mem_of_getElem? hx) e.symm
     subst hxk
     obtain ⟨g2, rfl, hc2⟩ := ptr_cell HM.out hx hlt
     have HRR : Hid (r = some ⟨B x, 0, none⟩) := hide h3
     subst e
     have hq := Tryz.eqlPtrSame w ⟨A x, 0, none⟩
     generalize A x = ax at *
     generalize B x = bx at *
     clear h1 h2 h3 h4 hx
     go_wp2
     go_ret
     exact ⟨by rw [HRR.out]; rfl, rfl⟩
   ·have HN2 : Hid (∀ j y, j < i + 1 → K[j]? = some y → t ≠ some ⟨A y, 0, none⟩) := hide (fun j y hj hy => by
     by_cases hji : j < i
     ·exact HN.out j y hji hy
     ·obtain rfl : j = i := by omega
      rw [hx] at hy
      injection hy with hy
      rw [← hy]; exact e)
    obtain ⟨cs1, hb1⟩ := HBL.out x (List.mem_of_getElem? hx)
    generalize A x = ax at *
    have e1 : ¬ some (⟨ax, 0, none⟩ : Addr) = t := fun h => e h.symm
    clear hx HN
    cases t with
    | none =>
     clear e e1 hb1
     go_wp2
     go_roundw
     case rel => exact ⟨i + 1, by omega, by go_num, trivial, HN2⟩
     case measure => simp [intOf]; omega
    | some ad =>
     have e2 : ¬ (⟨ax, 0, none⟩ : Addr) = ad := fun h => e1 (by rw [h])
     obtain ⟨cs2, T2, hb2⟩ := HBT.out ad rfl
     have hq := Tryz.eqlPtrOther w e2 hb1 hb2
     clear e e1 e2 hb1 hb2
     go_wp2
     go_roundw
     case rel => exact ⟨i + 1, by omega, by go_num, trivial, HN2⟩
     case measure => simp [intOf]; omega
  ·have HE : Hid (r = none) := hide (by
    rcases HR.out with ⟨h1, _⟩ | ⟨k, h1, h2, _, _⟩
    ·exact h1
    ·obtain ⟨j, hj, e⟩ := List.getElem_of_mem h1
     exact absurd h2 (HN.out j k (by have := HK.out; omega) (by rw [List.getElem?_eq_getElem hj, e])))
   go_wp2
   go_ret
   exact ⟨by rw [HE.out]; rfl, rfl⟩
section
variable {w w' w1 : World} {q : Nat} {S : Ds} {A : Nat → Nat} {o : Lab} {nv bv tv sv : Value}
theorem RDx.lift {o' : Lab} (h : RDx w q S A o nv bv tv sv) (hk : Kept [] w w') (ho : ∀ b, b < w.heap.size → o' b = o b) (hl : ∀ b, o' b ≠ 0 → b < w'.heap.size) : RDx w' q S A o' nv bv tv sv := by
 have hK : Keep (fun _ => False) w w' := Keep.ofNone hk
 refine ⟨hK.heapOf h.cells (fun h => h), own_keeps h.now hK (fun _ _ h => h), own_keeps h.before hK (fun _ _ h => h), own_keeps h.turns hK (fun _ _ h => h), own_keeps h.told hK (fun _ _ h => h), fun k hk' => ?_, (ho q h.qlt).trans h.lq, fun g hg => (ho g (h.now.lt g hg).2).trans (h.ln g hg), fun g hg => (ho g (h.before.lt g hg).2).trans (h.lb g hg), fun g hg => (ho g (h.turns.lt g hg).2).trans (h.lt g hg), fun g hg => (ho g (h.told.lt g hg).2).trans (h.ls g hg), hl, h.pl⟩
 have h1 := (h.th k hk').relab (o' := o') (l' := k + 2) (fun g hg e => by rw [ho g hg]; exact e)
 obtain ⟨a, b, c, d, h2⟩ := h1
 exact ⟨a, b, c, d, hK.heapOf h2.cells (fun h => h), h2.safe.keep hK (fun _ _ h => h), h2.shown.keep hK (fun _ _ h => h), h2.eq, own_keeps h2.row hK (fun _ _ h => h), fun p hp => (h2.data p hp).keep hK (fun _ _ h => h), h2.lb, h2.ls, h2.lh, h2.lr, h2.ld⟩
theorem Rg.lift {o' : Lab} {l b : Nat} {t : Th} (h : Rg w o l b t) (hk : Kept [] w w') (ho : ∀ b, b < w.heap.size → o' b = o b) : Rg w' o' l b t := by
 have hK : Keep (fun _ => False) w w' := Keep.ofNone hk
 obtain ⟨a, b, c, d, h2⟩ := h.relab (o' := o') (l' := l) (fun g hg e => by rw [ho g hg]; exact e)
 exact ⟨a, b, c, d, hK.heapOf h2.cells (fun h => h), h2.safe.keep hK (fun _ _ h => h), h2.shown.keep hK (fun _ _ h => h), h2.eq, own_keeps h2.row hK (fun _ _ h => h), fun p hp => (h2.data p hp).keep hK (fun _ _ h => h), h2.lb, h2.ls, h2.lh, h2.lr, h2.ld⟩
theorem RTh.addRow {l b : Nat} {s1 h1 : Value} {ro : Option Addr} {n rc : Nat} {R1 : List (Ch × Value)} {t : Th} (ht : RTh w o l b s1 h1 (.slice ro n rc) R1 t) (hn : R1.length = n) (hb : n ≤ 536870912) (c : Ch) (dv : Value) (hd : ChD w (c, dv)) (hdl : ∀ g, dv.ownBlock = some g → o g = l) (h1c : dv.oneCell' = true) :
  ∃ g c' w5, (Builtin.append_ #[76, 76] 76 #[.slice ro n rc, .slice (some ⟨w.heap.size, 0, none⟩) 1 1]).run Tryz.prog (w.alloc (.cells #[.bool (isCut c), .int .i64 c.place, dv] 143)) = .ok (.slice (some ⟨g, 0, none⟩) (n + 1) c') w5 ∧ w5.cell? ⟨b, 2, none⟩ = some (.slice ro n rc) ∧ w5.frozen? ⟨b, 2, none⟩ = false ∧
   RTh (w5.setCell ⟨b, 2, none⟩ (.slice (some ⟨g, 0, none⟩) (n + 1) c')) (o.ext w w5 l) l b s1 h1 (.slice (some ⟨g, 0, none⟩) (n + 1) c') (R1 ++ [(c, dv)]) { t with row := t.row ++ [c] } ∧ Keep (fun x => x = b ∨ (Value.slice ro n rc).ownBlock = some x) w (w5.setCell ⟨b, 2, none⟩ (.slice (some ⟨g, 0, none⟩) (n + 1) c')) ∧ w5.heap.size = (w5.setCell ⟨b, 2, none⟩ (.slice (some ⟨g, 0, none⟩) (n + 1) c')).heap.size ∧ (some g = (Value.slice ro n rc).ownBlock ∨ w.heap.size ≤ g) := by
 have hr := ht.row
 rw [hn] at hr
 obtain ⟨g, c', w5, e1, e2, e3, e4, e5⟩ := run_app (P := Tryz.prog) w 76 76 143 Tryz.underlying76 Tryz.infoChange rfl (by decide) _ n _ hr [.bool (isCut c), .int .i64 c.place, dv] rfl (fun z hz => by simp only [List.mem_cons, List.not_mem_nil, or_false] at hz; rcases hz with rfl | rfl | rfl; rfl; rfl; exact h1c) (by unfold maxLen; omega) (by omega)
 have hK5 := e3 (fun k => (Value.slice ro n rc).ownBlock = some k) (fun _ e => e)
 have nA : ¬ (Value.slice ro n rc).ownBlock = some b := own_ne ht.row ht.cells (by decide)
 have hc5 := hK5.heapOf ht.cells nA
 have old : ∀ b, b < w.heap.size → o.ext w w5 l b = o b := fun b hb => Lab.ext_old hb
 have hks : Keep (· = b) w5 (w5.setCell ⟨b, 2, none⟩ (.slice (some ⟨g, 0, none⟩) (n + 1) c')) := (Keep.refl (· = b) w5).setCell (p := ⟨b, 2, none⟩) (fun _ => rfl) _
 have nRow : ∀ {u : Value} {m : Nat} {ys : By}, OwnB w u m ys → ∀ g, u.ownBlock = some g → ¬ (Value.slice ro n rc).ownBlock = some g := fun hu g hg e => OwnB.two ht.row hu (by decide) g e hg
 have nB : ∀ {u : Value} {m : Nat} {ys : By}, OwnB w5 u m ys → ∀ g, u.ownBlock = some g → ¬ g = b := fun hu g hg e => hu.ne hc5 (by decide) (by rw [hg, e])
 have k5 : ∀ {u : Value} {m : Nat} {ys : By}, OwnB w u m ys → OwnB (w5.setCell ⟨b, 2, none⟩ (.slice (some ⟨g, 0, none⟩) (n + 1) c')) u m ys := fun hu => (hu.keep hK5 (nRow hu)).keep hks (nB (hu.keep hK5 (nRow hu)))
 have e2' : w5.ownsRow 0 143 3 (.slice (some ⟨g, 0, none⟩) (n + 1) c') (R1 ++ [(c, dv)]).length (chsV (R1 ++ [(c, dv)])) := by
  rw [chsV_snoc, List.length_append, hn]; exact e2
 refine ⟨g, c', w5, e1, by rw [cell_of_row w5 _ 2 _ _ _ hc5]; rfl, frozen_of_row _ _ _ _ _ hc5, ⟨?_, k5 ht.safe, k5 ht.shown, by simp [ht.eq], own_keeps e2' hks (fun g' hg' e => own_ne e2' hc5 (by decide) (by rw [hg', e])), fun p hp => ?_, (old _ ht.lt).trans ht.lb, fun g hg => (old g (ht.safe.lt hg)).trans (ht.ls g hg), fun g hg => (old g (ht.shown.lt hg)).trans (ht.lh g hg), fun g' hg' => ?_, fun p hp g' hg' => ?_⟩, (hK5.mono (fun i e _ => .inr e)).trans hks (fun i e _ => .inl e), by simp [World.setCell], e4⟩
 ·rw [heap_setCell_same _ b 2 _ _ _ hc5]; simp
 ·rcases List.mem_append.1 hp with hp | hp
  ·exact k5 (show OwnB w p.2 (chD p.1).length (chD p.1) from ht.data p hp)
  ·rw [List.mem_singleton.1 hp]; exact k5 hd
 ·simp only [Value.ownBlock, Option.some.injEq] at hg'
  subst hg'
  rcases e4 with e | e
  ·rw [old g (hr.lt g e.symm).2]; exact ht.lr g e.symm
  ·exact Lab.ext_new e e5
 ·rcases List.mem_append.1 hp with hp | hp
  ·exact (old g' ((ht.data p hp).lt hg')).trans (ht.ld p hp g' hg')
  ·rw [List.mem_singleton.1 hp] at hg'
   exact (old g' (hd.lt hg')).trans (hdl g' hg')
end
theorem ptrs_app {wr : World} {A : Nat → Nat} {K : List Nat} {fo : Option Addr} {m fc : Nat} (h : wr.ownsRow 0 75 1 (.slice fo m fc) m (ptrs A K)) (hb : m ≤ 1073741824) (b : Nat) :
  ∃ g c w5, (Builtin.append_ #[179, 179] 179 #[.slice fo m fc, .slice (some ⟨wr.heap.size, 0, none⟩) 1 1]).run Tryz.prog (wr.alloc (.cells #[.pointer (some ⟨b, 0, none⟩)] 75)) = .ok (.slice (some ⟨g, 0, none⟩) (m + 1) c) w5 ∧ w5.ownsRow 0 75 1 (.slice (some ⟨g, 0, none⟩) (m + 1) c) (m + 1) (ptrs A K ++ [.pointer (some ⟨b, 0, none⟩)]) ∧ Keep (fun k => (Value.slice fo m fc).ownBlock = some k) wr w5 ∧ (some g = (Value.slice fo m fc).ownBlock ∨ wr.heap.size ≤ g) ∧ g < w5.heap.size := by
 obtain ⟨g, c, w', e1, e2, e3, e4, e5⟩ := run_app (P := Tryz.prog) wr 179 179 75 Tryz.underlying179 Tryz.infoPtr rfl (by decide) _ m _ h [.pointer (some ⟨b, 0, none⟩)] rfl (fun z hz => by simp only [List.mem_singleton] at hz; rw [hz]; rfl) (by unfold maxLen; omega) (by omega)
 exact ⟨g, c, w', e1, e2, e3 _ (fun _ e => e), e4, e5⟩
structure Tws (w wr : World) (X : Nat) (S : Ds) (A B : Nat → Nat) (K : List Nat) (oN : Lab) (n : Nat) (ov mv sv : Value) : Prop where
 rd : RDx wr X { S with shown := [], safe := [], row := [] } B oN (.slice none 0 0) (.slice none 0 0) (.slice none 0 0) sv
 len : K.length = n
 old : wr.ownsRow 0 75 1 ov n (ptrs A K)
 made : wr.ownsRow 0 75 1 mv n (ptrs B K)
 apart : ∀ g, ov.ownBlock = some g → mv.ownBlock ≠ some g
 th : ∀ k ∈ K, Rg wr oN (k + 2) (B k) (S.th k)
 keep : Kept [] w wr
 newO : ∀ g, ov.ownBlock = some g → w.heap.size ≤ g ∧ oN g = 0
 newM : ∀ g, mv.ownBlock = some g → w.heap.size ≤ g ∧ oN g = 0
 lab : ∀ b, oN b ≠ 0 → w.heap.size ≤ b
 sub : ∀ k ∈ K, k ∈ S.lives
 nd : K.Nodup
theorem RDx.any {w : World} {X : Nat} {S : Ds} {B B' : Nat → Nat} {o : Lab} {a b c d : Value} (h : RDx w X { S with shown := [], safe := [], row := [] } B o a b c d) : RDx w X { S with shown := [], safe := [], row := [] } B' o a b c d :=
 ⟨h.cells, h.now, h.before, h.turns, h.told, fun k hk => by simp [Ds.lives, Nm.ids, madeN] at hk, h.lq, h.ln, h.lb, h.lt, h.ls, h.lim, h.pl⟩
theorem Tws.push {w wr wl : World} {X : Nat} {S : Ds} {A B : Nat → Nat} {K : List Nat} {oN o1 : Lab} {n : Nat} {oo mo : Option Addr} {oc mc : Nat} {sv : Value} (h : Tws w wr X S A B K oN n (.slice oo n oc) (.slice mo n mc) sv) {k bk : Nat} (hk : k ∉ K) (hkl : k ∈ S.lives) (hn : n ≤ 536870912) (hkw : Kept [] wr wl) (ho : ∀ b, b < wr.heap.size → o1 b = oN b) (hl : ∀ b, o1 b ≠ 0 → b < wl.heap.size) (ht : Rg wl o1 (k + 2) bk (S.th k)) :
  ∃ g1 c1 w1, (Builtin.append_ #[179, 179] 179 #[.slice oo n oc, .slice (some ⟨wl.heap.size, 0, none⟩) 1 1]).run Tryz.prog (wl.alloc (.cells #[.pointer (some ⟨A k, 0, none⟩)] 75)) = .ok (.slice (some ⟨g1, 0, none⟩) (n + 1) c1) w1 ∧
  ∃ g2 c2 w2, (Builtin.append_ #[179, 179] 179 #[.slice mo n mc, .slice (some ⟨w1.heap.size, 0, none⟩) 1 1]).run Tryz.prog (w1.alloc (.cells #[.pointer (some ⟨bk, 0, none⟩)] 75)) = .ok (.slice (some ⟨g2, 0, none⟩) (n + 1) c2) w2 ∧
  Tws w w2 X S A (upd B k bk) (K ++ [k]) o1 (n + 1) (.slice (some ⟨g1, 0, none⟩) (n + 1) c1) (.slice (some ⟨g2, 0, none⟩) (n + 1) c2) sv := by
 have hKl : Keep (fun _ => False) wr wl := Keep.ofNone hkw
 have hol := own_keeps h.old hKl (fun _ _ h => h)
 have hml := own_keeps h.made hKl (fun _ _ h => h)
 obtain ⟨g1, c1, w1, e1, e2, e3, e4, e5⟩ := ptrs_app hol (by omega) (A k)
 have hm1 := own_keeps hml e3 (fun g hg e => h.apart g e hg)
 obtain ⟨g2, c2, w2, f1, f2, f3, f4, f5⟩ := ptrs_app hm1 (by omega) bk
 have hszl := hkw.size
 have hsz1 := e3.size
 have hsz2 := f3.size
 have hol2 : ∀ g, (Value.slice oo n oc).ownBlock = some g → g < wr.heap.size := fun g hg => (h.old.lt g hg).2
 have hml2 : ∀ g, (Value.slice mo n mc).ownBlock = some g → g < wr.heap.size := fun g hg => (h.made.lt g hg).2
 have hoF : ∀ g, (Value.slice oo n oc).ownBlock = some g → o1 g = 0 := fun g hg => by rw [ho g (hol2 g hg)]; exact (h.newO g hg).2
 have hmF : ∀ g, (Value.slice mo n mc).ownBlock = some g → o1 g = 0 := fun g hg => by rw [ho g (hml2 g hg)]; exact (h.newM g hg).2
 have hnew : ∀ b, wl.heap.size ≤ b → o1 b = 0 := fun b hb => Classical.byContradiction fun hn => by have := hl b hn; omega
 have hrd := h.rd.lift hkw ho hl
 have hrd2 := (hrd.keep e3 (fun b hb e => hb (hoF b e))).keep f3 (fun b hb e => hb (hmF b e))
 have hKw : Kept [] w w2 := by
  have k0 := h.keep.trans hkw (by simp)
  refine ⟨f3.os.trans (e3.os.trans k0.os), f3.tape.trans (e3.tape.trans k0.tape), f3.output.trans (e3.output.trans k0.output), Nat.le_trans k0.size (Nat.le_trans hsz1 hsz2), fun b hb _ => ?_⟩
  have hb1 : b < wl.heap.size := Nat.lt_of_lt_of_le hb k0.size
  rw [f3.block b (by omega) (fun e => by have := (h.newM b e).1; omega), e3.block b hb1 (fun e => by have := (h.newO b e).1; omega)]
  exact k0.block b hb (by simp)
 refine ⟨g1, c1, w1, e1, g2, c2, w2, f1, ⟨hrd2.any, by simp [h.len], ?_, ?_, ?_, ?_, hKw, ?_, ?_, ?_, ?_, ?_⟩⟩
 ·rw [ptrs_snoc]
  exact own_keeps e2 f3 (fun g hg e => by
   simp only [Value.ownBlock, Option.some.injEq] at hg
   subst hg
   rcases e4 with e' | e'
   ·exact h.apart g1 e'.symm e
   ·have := hml2 g1 e; omega)
 ·rw [ptrs_snoc, upd_same, ptrs_congr (A := B) (fun j hj => upd_other _ _ (fun e => hk (by rw [← e]; exact hj)))]
  exact f2
 ·intro g hg hg2
  simp only [Value.ownBlock, Option.some.injEq] at hg hg2
  subst hg
  subst hg2
  rcases e4 with e' | e'
  ·rcases f4 with f' | f'
   ·exact h.apart _ e'.symm f'.symm
   ·have := hol2 _ e'.symm; omega
  ·rcases f4 with f' | f'
   ·have := hml2 _ f'.symm; omega
   ·omega
 ·intro j hj
  rcases List.mem_append.1 hj with hj | hj
  ·rw [upd_other _ _ (fun e => hk (by rw [← e]; exact hj))]
   have t1 := (h.th j hj).lift hkw ho
   exact (t1.keep e3 (fun b hb e => by rw [hoF b e] at hb; omega)).keep f3 (fun b hb e => by rw [hmF b e] at hb; omega)
  ·rw [List.mem_singleton.1 hj, upd_same]
   exact (ht.keep e3 (fun b hb e => by rw [hoF b e] at hb; omega)).keep f3 (fun b hb e => by rw [hmF b e] at hb; omega)
 ·intro g hg
  simp only [Value.ownBlock, Option.some.injEq] at hg
  subst hg
  have := h.keep.size
  rcases e4 with e' | e'
  ·exact ⟨(h.newO _ e'.symm).1, hoF _ e'.symm⟩
  ·exact ⟨by omega, hnew _ e'⟩
 ·intro g hg
  simp only [Value.ownBlock, Option.some.injEq] at hg
  subst hg
  have := h.keep.size
  rcases f4 with f' | f'
  ·exact ⟨(h.newM _ f'.symm).1, hmF _ f'.symm⟩
  ·exact ⟨by omega, hnew _ (by omega)⟩
 ·intro b hb
  by_cases hlt : b < wr.heap.size
  ·rw [ho b hlt] at hb; exact h.lab b hb
  ·have := h.keep.size; omega
 ·intro j hj
  rcases List.mem_append.1 hj with hj | hj
  ·exact h.sub j hj
  ·rw [List.mem_singleton.1 hj]; exact hkl
 ·rw [List.nodup_append]
  exact ⟨h.nd, by simp, fun a ha b hb e => hk (by rw [List.mem_singleton.1 hb] at e; rw [← e]; exact ha)⟩
end

end Go.Proofs.YteckiednnaianaaGreat
