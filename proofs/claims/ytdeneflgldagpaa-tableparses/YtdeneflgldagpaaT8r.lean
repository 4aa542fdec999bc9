/-
  The walk: freightlaw8.TableParses. (Written by tools/t8r.py.)
-/
import Derived.Test.YtdeneflgldagpaaT8l
import Derived.Test.YtdeneflgldagpaaT8q
import Derived.Test.YtdeneflgldagpaaEa
namespace Go.Proofs.Ytdeneflgldagpaa
open Go.RowKit Go.Sort
set_option linter.unusedVariables false
set_option linter.unusedSimpArgs false

theorem Try.infoByte4 : (Try.prog.info? 5).map (fun i => (i.zero, i.size, i.bytes)) = some (some (.int .u8 0), 1, 1) := by kernel_rfl
theorem Try.cutLoB (W : World) (b n cap k : Nat) (h1 : k ≤ n) (h2 : k < cap) :
    (Instr.slice 25 (.slice (some ⟨b, 0, none⟩) n cap) (some (.int .i64 k)) none none).run Try.prog W = .ok (.slice (some ⟨b, k, none⟩) (n - k) (cap - k)) W := by
  have hz : (sizeOf (Try.prog.elem 25)).run Try.prog W = .ok 1 W := by kernel_rfl
  have h := run_slice_l (P := Try.prog) W 25 (some ⟨b, 0, none⟩) n cap (by kernel_rfl) .i64 k (by omega) (by omega)
  rw [h, hz]
  have hc : cap - k ≠ 0 := by omega
  simp only [sliced, Addr.add, Result.andThen_ok]
  simp only [Int.toNat_natCast, hc, if_false]
  by_cases hk0 : k = 0
  · subst hk0; simp
  · rw [if_neg (by omega)]; simp; omega
theorem Try.cutHiB (W : World) (ao : Option Addr) (L cap m : Nat) (hm : m ≤ cap) :
    (Instr.slice 25 (.slice ao L cap) none (some (.int .i64 m)) none).run Try.prog W = .ok (.slice ao m cap) W := by
  have hz : (sizeOf (Try.prog.elem 25)).run Try.prog W = .ok 1 W := by kernel_rfl
  have h := run_slice_h (P := Try.prog) W 25 ao L cap (by kernel_rfl) .i64 m (by omega) (by omega)
  rw [h, hz]
  cases ao <;> simp [sliced, Addr.add]

theorem made_u8 (k : Nat) : madeCells #[.int .u8 0] k = (bys (List.replicate k 0)).toArray := by
  apply Array.ext'
  apply List.ext_getElem?
  intro i
  by_cases hi : i < k
  · simp [madeCells, bys, hi, Nat.mod_one]
  · simp [madeCells, bys, hi]
theorem sl_row {w : World} {g : Nat} {xs : List UInt8} {t : TypeId} {f : Nat × Nat} (h : w.heap[g]? = some (.cells (bys xs).toArray t f)) : Sl w (some ⟨g, 0, none⟩) xs := Sl.of fun i hi => by
  rw [Nat.zero_add, cell_of_row _ _ _ _ _ _ h]
  simpa using bys_at hi
theorem sl_zero (w : World) (k : Nat) : Sl (w.alloc (.cells (madeCells #[.int .u8 0] k) 5)) (some ⟨w.heap.size, 0, none⟩) (List.replicate k 0) := sl_row (t := 5) (f := (0, 0)) (by rw [heap_new, made_u8])
theorem sl_set {w : World} {g : Nat} {xs : List UInt8} (h : Sl w (some ⟨g, 0, none⟩) xs) {k : Nat} (hk : k < xs.length) (y : UInt8) : Sl (w.setCell ⟨g, k, none⟩ (.int .u8 y.toNat)) (some ⟨g, 0, none⟩) (xs.set k y) := by
  intro i hi
  have hi' : i < xs.length := by simpa using hi
  obtain ⟨_, _, e, hc⟩ := h i hi'
  cases e
  refine ⟨g, 0, rfl, ?_⟩
  rw [Nat.zero_add] at hc ⊢
  by_cases hik : i = k
  · subst hik
    have e1 : (xs.set i y).getD i 0 = y := by simp [List.getD, hk]
    rw [e1]
    exact World.cell?_setCell_same _ _ _ hc
  · have e1 : (xs.set k y).getD i 0 = xs.getD i 0 := by simp [List.getD, List.getElem?_set, Ne.symm hik]
    rw [e1, World.cell?_setCell_other _ _ _ _ (by simp [hik])]
    exact hc
theorem there_cell1 {w : World} {g o n : Nat} (h : w.there g o n) (b off : Nat) (v : Value) : (w.setCell ⟨b, off, none⟩ v).there g o n := by
  have := World.there_setCells h b off [v]
  simpa [World.setCells] using this
theorem sl_drop {w : World} {g : Nat} {xs : List UInt8} (h : Sl w (some ⟨g, 0, none⟩) xs) (k : Nat) : Sl w (some ⟨g, k, none⟩) (xs.drop k) := by
  intro i hi
  simp only [List.length_drop] at hi
  obtain ⟨_, _, e, hc⟩ := h (k + i) (by omega)
  cases e
  refine ⟨g, k, rfl, ?_⟩
  rw [Nat.zero_add] at hc
  rw [hc]
  simp [List.getElem?_drop]
def prtN (xs : List UInt8) (k : Nat) : List UInt8 := xs.take k ++ List.replicate (xs.length + 5 - k) 0
theorem prtN_set {xs : List UInt8} {k : Nat} (hk : k < xs.length) : (prtN xs k).set k (xs.getD k 0) = prtN xs (k + 1) := by
  have hl : (xs.take k).length = k := by simp; omega
  obtain ⟨m, hm⟩ : ∃ m, xs.length + 5 - k = m + 1 := ⟨xs.length + 4 - k, by omega⟩
  unfold prtN
  rw [hm, show xs.length + 5 - (k + 1) = m by omega, List.set_append_right _ _ (by omega), hl, Nat.sub_self, take_snoc' xs 0 k hk]
  simp [List.replicate_succ]
theorem prtN_len {xs : List UInt8} {k : Nat} (hk : k ≤ xs.length) : (prtN xs k).length = xs.length + 5 := by simp [prtN]; omega
theorem Tb.parse_len (xs : List UInt8) : ((Tb.parse xs).getD []).length ≤ 32 := by
  unfold Tb.parse
  split
  · rename_i h
    simp only [Option.getD_some, List.length_map, List.length_range]; omega
  · simp
theorem xor_byte (x : UInt8) : ∃ y : UInt8, bits .xor .u8 (x.toNat : Int) 1 = (y.toNat : Int) := by
  have hb := bounds_u8 (wf_bits .xor .u8 (x.toNat : Int) 1)
  refine ⟨UInt8.ofNat (bits .xor .u8 (x.toNat : Int) 1).toNat, ?_⟩
  rw [UInt8.toNat_ofNat', Nat.mod_eq_of_lt (by omega)]
  omega
/-- append([]byte{}, data...), of a row that is there. -/
theorem run_freshD (w : World) (b off n c : Nat) (xs : List UInt8) (hn : xs.length = n) (h0 : 0 < n) (hm : n ≤ 140737488355328) (hs : Sl w (some ⟨b, off, none⟩) xs) :
    ∃ g c' w', (Builtin.append_ #[25, 25] 25 #[.slice (some ⟨w.heap.size, 0, none⟩) 0 0, .slice (some ⟨b, off, none⟩) n c]).run Try.prog (w.alloc (.cells #[] 5)) = .ok (.slice (some ⟨g, 0, none⟩) n c') w' ∧ Sl w' (some ⟨g, 0, none⟩) xs ∧ w'.there g 0 n ∧ w.heap.size ≤ g ∧ n ≤ c' ∧ Kept [] w w' := by
  have kN : Kept [] w (w.alloc (.cells #[] 5)) := (Kept.refl [] w).alloc _
  have ho : (w.alloc (.cells #[] 5)).ownsRow w.heap.size 5 1 (.slice (some ⟨w.heap.size, 0, none⟩) 0 0) 0 [] := World.ownsRow_made w #[] 0 (Nat.le_refl _) (Nat.zero_le _) (by simp)
  obtain ⟨i0, hi, hz0, hz1, hz2⟩ := info_parts Try.infoByte4
  obtain ⟨v', w', hrun, h1', h2, h3, h4⟩ := run_append_own_at (P := Try.prog) (w.alloc (.cells #[] 5)) w.heap.size 25 25 5 i0 (.int .u8 0) 1 1 Try.underlying25 hi hz0 hz1 hz2 rfl (by omega) _ 0 [] ho ⟨b, off, none⟩ n c (bys xs) (by rw [bys_length, hn, Nat.mul_one])
    (fun j u hj => by
      obtain ⟨hj', rfl⟩ := bys_get hj
      rw [Addr.add_mid]
      obtain ⟨_, _, e, hc⟩ := hs j hj'
      cases e
      exact kN.cellOf hc (by simp)) (bys_oneCell xs) (by unfold maxLen; omega) (by omega) kN.size
  rw [Nat.zero_add, List.nil_append] at h1'
  rcases h1'.2 with ⟨_, h0'⟩ | ⟨g, cap', cur, rfl, hb, hg, hnc, hc, hsz, ht⟩
  · omega
  · refine ⟨g, cap', w', hrun, fun i hi => ⟨g, 0, rfl, ?_⟩, there_row hg 0 n (by rw [hsz]; omega), hb, hnc, ?_⟩
    · rw [Nat.zero_add, cell_of_row _ _ _ _ _ _ hg]
      have h1 := bys_at hi
      rw [← ht, List.getElem?_take] at h1
      split at h1
      · simpa using h1
      · cases h1
    · exact ((Kept.refl [] w).alloc _).grown h2 (fun k hk hlt => by simp [Value.ownBlock] at hk; omega)

set_option maxHeartbeats 12800000 in
set_option maxRecDepth 100000 in
theorem parses_walk (ao : Option Addr) (n cap : Nat) (xs : List UInt8) (w : World) (hi : InB w ao n cap xs) :
    Calls Try.prog 4 #[.slice ao n cap] w fun e w' => e = .returned (.bool true) ∧ Below w.heap.size w w' := by
  have hcm := hi.max
  have hle := hi.le
  have HN := hide hi.len
  have HS := hide hi.sl
  have HNL : Hid (ao = none → xs = [] ∧ cap = 0) := hi.nil
  have hnm : n ≤ 4611686018427387904 := by omega
  have hn5 : n ≤ 140737488355000 := by omega
  obtain ⟨i0, hi0, hz0, hz1, hz2⟩ := info_parts Try.infoByte4
  have hmk5 : ∀ W : World, _ := fun W => run_make (P := Try.prog) W 25 5 i0 (.int .u8 0) Try.underlying25 hi0 hz0 .i64 .i64 5 5 (by omega) (by omega) (by rw [hz2]; omega) (by omega)
  have hmkn := run_make (P := Try.prog) w 25 5 i0 (.int .u8 0) Try.underlying25 hi0 hz0 .i64 .i64 ((n + 5 : Nat) : Int) ((n + 5 : Nat) : Int) (by omega) (by omega) (by rw [hz2]; omega) (by omega)
  rw [hz1] at hmkn
  simp only [Int.toNat_natCast, Nat.mul_one] at hmkn
  have HM5 : Hid (∀ W : World, (Instr.makeSlice 25 (.int .i64 5) (.int .i64 5)).run Try.prog W = .ok (.slice (some ⟨W.heap.size, 0, none⟩) 5 5) (W.alloc (.cells (madeCells #[.int .u8 0] 5) 5))) := fun W => by
    have := hmk5 W
    rw [hz1] at this
    exact this
  clear hmk5
  change _ = Result.ok _ (w.alloc (.cells (madeCells #[.int .u8 0] (n + 5)) 5)) at hmkn
  have HZ1 : Hid (Sl (w.alloc (.cells (madeCells #[.int .u8 0] (n + 5)) 5)) (some ⟨w.heap.size, 0, none⟩) (prtN xs 0) ∧ (w.alloc (.cells (madeCells #[.int .u8 0] (n + 5)) 5)).there w.heap.size 0 (n + 5) ∧ Kept [] w (w.alloc (.cells (madeCells #[.int .u8 0] (n + 5)) 5))) :=
    ⟨by have := sl_zero w (n + 5); unfold prtN; simpa [HN.out] using this, there_row (heap_new w _) 0 _ (by rw [size_madeCells]; omega), (Kept.refl [] w).alloc _⟩
  generalize w.alloc (.cells (madeCells #[.int .u8 0] (n + 5)) 5) = w1 at hmkn HZ1
  obtain ⟨g, hg⟩ : ∃ g, w.heap.size = g := ⟨_, rfl⟩
  rw [hg] at hmkn HZ1
  have HG : Hid (w.heap.size = g) := hg
  rw [show ((n + 5 : Nat) : Int) = (n : Int) + 5 by omega] at hmkn
  clear hi hcm hle hi0 hz0 hz1 hz2 hg
  go_enter Try.func4, Try.ntmps4
  go_wp2
  clear hmkn
  go_loopw [4] (fun y wr => ∃ k : Nat, k ≤ n ∧ y = .int .i64 k ∧ Hid (Sl wr (some ⟨g, 0, none⟩) (prtN xs k) ∧ wr.there g 0 (n + 5) ∧ Kept [] w wr)) (fun y wr => n - (intOf y).toNat)
  case atStart => exact ⟨0, Nat.zero_le _, rfl, HZ1.out⟩
  case round =>
    clear HZ1
    obtain ⟨k, hk, rfl, HI⟩ := hrel
    by_cases hlt : k < n
    · obtain ⟨b, off, rfl, hc⟩ := HS.out k (by rw [HN.out]; exact hlt)
      have cA := HI.out.2.2.cellOf hc (by simp)
      obtain ⟨_, _, ee, c1⟩ := HI.out.1 k (by rw [prtN_len (by rw [HN.out]; omega), HN.out]; omega)
      cases ee
      rw [Nat.zero_add] at c1
      have f1 : wr.frozen? ⟨g, k, none⟩ = false := by have := (HI.out.2.1 k (by omega)).2; rwa [Nat.zero_add] at this
      have HI2 : Hid (Sl (wr.setCell ⟨g, k, none⟩ (.int .u8 (xs.getD k 0).toNat)) (some ⟨g, 0, none⟩) (prtN xs (k + 1)) ∧ (wr.setCell ⟨g, k, none⟩ (.int .u8 (xs.getD k 0).toNat)).there g 0 (n + 5) ∧ Kept [] w (wr.setCell ⟨g, k, none⟩ (.int .u8 (xs.getD k 0).toNat))) := by
        refine ⟨?_, there_cell1 HI.out.2.1 _ _ _, HI.out.2.2.setCell (fun h => by have := HG.out; simp at h; omega) _⟩
        have := sl_set HI.out.1 (k := k) (by rw [prtN_len (by rw [HN.out]; omega), HN.out]; omega) (xs.getD k 0)
        rwa [prtN_set (by rw [HN.out]; exact hlt)] at this
      generalize ((prtN xs k).getD k 0).toNat = u at c1
      generalize (xs.getD k 0).toNat = a at cA HI2
      have hk5 : k < n + 5 := by omega
      go_wp2
      go_roundw
      case rel => exact ⟨k + 1, by omega, by go_num, HI2.out⟩
      case measure => simp [intOf]; omega
    · obtain rfl : k = n := by omega
      have HI3 : Hid (Sl wr (some ⟨g, 0, none⟩) (xs ++ List.replicate 5 0) ∧ wr.there g 0 (k + 5) ∧ Kept [] w wr) := by
        have h1 := HI.out.1
        unfold prtN at h1
        rw [List.take_of_length_le (by rw [HN.out]; exact Nat.le_refl _), HN.out, show k + 5 - k = 5 by omega] at h1
        exact ⟨h1, HI.out.2⟩
      clear HI
      have H1 : Hid (Sl wr (some ⟨g, 0, none⟩) xs) := by
        have := HI3.out.1.take k
        rwa [List.take_append_of_le_length (by rw [HN.out]; exact Nat.le_refl _), List.take_of_length_le (by rw [HN.out]; exact Nat.le_refl _)] at this
      have hcut : ∀ W, (Instr.slice 25 (.slice (some ⟨g, 0, none⟩) (k + 5) (k + 5)) none (some (.int .i64 k)) none).run Try.prog W = .ok (.slice (some ⟨g, 0, none⟩) k (k + 5)) W := fun W => Try.cutHiB W (some ⟨g, 0, none⟩) (k + 5) (k + 5) k (by omega)
      have hcut2 : ∀ W, (Instr.slice 25 (.slice (some ⟨g, 0, none⟩) (k + 5) (k + 5)) (some (.int .i64 k)) none none).run Try.prog W = .ok (.slice (some ⟨g, k, none⟩) 5 5) W := fun W => by
        have := Try.cutLoB W g (k + 5) (k + 5) k (by omega) (by omega)
        rwa [show k + 5 - k = 5 by omega] at this
      obtain ⟨E, hE⟩ : ∃ E, (Tb.parse xs).getD [] = E := ⟨_, rfl⟩
      obtain ⟨cv, hcv⟩ : ∃ cv, Tb.code (Tb.parse xs).isSome = cv := ⟨_, rfl⟩
      have HEL : Hid (E.length ≤ 32) := by show _ ≤ _; rw [← hE]; exact Tb.parse_len xs
      have hen := parse_ok (some ⟨g, 0, none⟩) k (k + 5) xs wr HN.out (by omega) H1.out (by simp)
      rw [hE, hcv] at hen
      have HE := hide (And.intro hE hcv)
      clear hE hcv
      go_upto_region 7 with (go_at_call 18; refine hen.mono ?_; intro r w3 ht; obtain ⟨bo1, c1, m, rfl, hm1, hs1, hb1, hk1⟩ := told_openR ht; have H2 := hide (And.intro hm1 (And.intro hs1 (And.intro hb1 hk1))); clear ht hm1 hs1 hb1 hk1 hen)
      have K3 : Hid (Kept [] w w3) := HI3.out.2.2.trans H2.out.2.2.2 (by simp)
      have G3 : Hid (g < w3.heap.size ∧ (∀ a, bo1 = some a → a.block ≠ g)) := by
        have h1 := there_lt HI3.out.2.1 (by omega)
        exact ⟨Nat.lt_of_lt_of_le h1 H2.out.2.2.2.size, fun a ha e => by have := H2.out.2.2.1 a ha; omega⟩
      have S3 : Hid (Ress w3 bo1 E) := H2.out.2.1
      have HM : Hid (E.length = m) := H2.out.1
      have hmm : m ≤ 4611686018427387904 := by have := HM.out; have := HEL.out; omega
      have Z3 : Hid (Sl w3 (some ⟨g, 0, none⟩) (xs ++ List.replicate 5 0) ∧ w3.there g 0 (k + 5)) := ⟨HI3.out.1.kept H2.out.2.2.2 (by simp), there_kept HI3.out.2.1 H2.out.2.2.2 (by simp)⟩
      clear H2 HI3 H1
      have hen := refparse_ok ao k cap xs w3 HN.out (by omega) (HS.out.kept K3.out (by simp))
      rw [HE.out.1, HE.out.2] at hen
      go_upto_region 8 with (go_at_call 19; refine hen.mono ?_; intro r w4 ht; obtain ⟨bo2, c2, m2, rfl, hm2, hs2, hb2, hk2⟩ := told_openR ht; obtain rfl : m2 = m := (hm2.symm.trans HM.out); have H3 := hide (And.intro hs2 (And.intro hb2 hk2)); clear ht hm2 hs2 hb2 hk2 hen)
      have K4 : Hid (Kept [] w w4) := K3.out.trans H3.out.2.2 (by simp)
      have G4 : Hid (g < w4.heap.size ∧ (∀ a, bo1 = some a → a.block ≠ g) ∧ (∀ a, bo2 = some a → a.block ≠ g)) := ⟨Nat.lt_of_lt_of_le G3.out.1 H3.out.2.2.size, G3.out.2, fun a ha e => by have := H3.out.2.1 a ha; have := G3.out.1; omega⟩
      have S4 : Hid (Ress w4 bo1 E ∧ Ress w4 bo2 E) := ⟨S3.out.kept H3.out.2.2 (by simp), H3.out.1⟩
      have Z4 : Hid (Sl w4 (some ⟨g, 0, none⟩) (xs ++ List.replicate 5 0) ∧ w4.there g 0 (k + 5)) := ⟨Z3.out.1.kept H3.out.2.2 (by simp), there_kept Z3.out.2 H3.out.2.2 (by simp)⟩
      have HW4 : Hid (Sl w4 (some ⟨g, 0, none⟩) xs) := by
        have := Z4.out.1.take k
        rwa [List.take_append_of_le_length (by rw [HN.out]; exact Nat.le_refl _), List.take_of_length_le (by rw [HN.out]; exact Nat.le_refl _)] at this
      have HZ4 : Hid (Sl w4 (some ⟨g, k, none⟩) (List.replicate 5 0)) := by
        have := sl_drop Z4.out.1 k
        rwa [List.drop_append_of_le_length (by rw [HN.out]; exact Nat.le_refl _), List.drop_of_length_le (by rw [HN.out]; exact Nat.le_refl _), List.nil_append] at this
      have HS4 : Hid (Sl w4 ao xs) := HS.out.kept K4.out (by simp)
      clear H3 S3 Z3 G3 K3
      clear w3
      have hcc : (cv != cv) = false := by simp
      have hmk := HM5.out
      go_upto_region 8 with (fail)
      refine wp_region_held_drew (S := fun w' => Kept [] w4 w') (by kernel_rfl) ((Kept.refl [] w4).drew) (fun h0 => ?_)
      generalize World.drew w4 = v0 at h0 ⊢
      refine wpAnyH_take (i := 0) (v := .int .i64 cv) rfl (by kernel_rfl) (by kernel_rfl) (by kernel_rfl) (fun _ _ _ h => h) (Or.inl ⟨by rfl, fun w hSw => by go_simp⟩) h0 ?_
      try simp only [List.getElem_toArray, List.getElem_cons_zero, List.getElem_cons_succ, Act.put, List.setIfInBounds_toArray, List.set_cons_zero, List.set_cons_succ]
      refine wpAnyH_take (i := 1) (v := .int .i64 cv) rfl (by kernel_rfl) (by kernel_rfl) (by kernel_rfl) (fun _ _ _ h => h) (Or.inl ⟨by rfl, fun w hSw => by go_simp⟩) h0 ?_
      try simp only [List.getElem_toArray, List.getElem_cons_zero, List.getElem_cons_succ, Act.put, List.setIfInBounds_toArray, List.set_cons_zero, List.set_cons_succ]
      refine wpAnyH_take (i := 2) (v := .bool false) rfl (by kernel_rfl) (by kernel_rfl) (by kernel_rfl) (fun _ _ _ h => h) (Or.inl ⟨by rfl, fun w hSw => by have c0 := hcc; go_simp⟩) h0 ?_
      try simp only [List.getElem_toArray, List.getElem_cons_zero, List.getElem_cons_succ, Act.put, List.setIfInBounds_toArray, List.set_cons_zero, List.set_cons_succ]
      refine wpAnyH_take (i := 3) (v := .bool false) rfl (by kernel_rfl) (by kernel_rfl) (by kernel_rfl) (fun _ _ _ h => h) (Or.inl ⟨by rfl, fun w hSw => by go_simp⟩) h0 ?_
      try simp only [List.getElem_toArray, List.getElem_cons_zero, List.getElem_cons_succ, Act.put, List.setIfInBounds_toArray, List.set_cons_zero, List.set_cons_succ]
      refine wpAnyH_take (i := 4) (v := .slice bo1 m2 c1) rfl (by kernel_rfl) (by kernel_rfl) (by kernel_rfl) (fun _ _ _ h => h) (Or.inl ⟨by rfl, fun w hSw => by go_simp⟩) h0 ?_
      try simp only [List.getElem_toArray, List.getElem_cons_zero, List.getElem_cons_succ, Act.put, List.setIfInBounds_toArray, List.set_cons_zero, List.set_cons_succ]
      refine wpAnyH_take (i := 5) (v := .slice bo2 m2 c2) rfl (by kernel_rfl) (by kernel_rfl) (by kernel_rfl) (fun _ _ _ h => h) (Or.inl ⟨by rfl, fun w hSw => by go_simp⟩) h0 ?_
      try simp only [List.getElem_toArray, List.getElem_cons_zero, List.getElem_cons_succ, Act.put, List.setIfInBounds_toArray, List.set_cons_zero, List.set_cons_succ]
      refine wpAnyH_ready (rs := [6]) (by kernel_rfl) (by simp) (AllReadyH.cons (i := 6) rfl (fun K hK => ?_) AllReadyH.nil)
      rw [if_pos (by rfl)]
      go_simp
      refine (like_yes bo1 bo2 m2 c1 c2 E _ HM.out hmm (S4.out.1.kept h0 (by simp)) (S4.out.2.kept h0 (by simp))).mono ?_
      rintro e v1 ⟨rfl, hq⟩
      refine hK.out _ _ (h0.trans hq (by simp)) (fun h1 => ?_)
      clear hK K hq h0
      try simp only [List.getElem_toArray, List.getElem_cons_zero, List.getElem_cons_succ, Act.put, List.setIfInBounds_toArray, List.set_cons_zero, List.set_cons_succ]
      refine wpAnyH_take (i := 7) (v := .bool false) rfl (by kernel_rfl) (by kernel_rfl) (by kernel_rfl) (fun _ _ _ h => h) (Or.inl ⟨by rfl, fun w hSw => by go_simp⟩) h1 ?_
      try simp only [List.getElem_toArray, List.getElem_cons_zero, List.getElem_cons_succ, Act.put, List.setIfInBounds_toArray, List.set_cons_zero, List.set_cons_succ]
      refine wpAnyH_take (i := 8) (v := .bool false) rfl (by kernel_rfl) (by kernel_rfl) (by kernel_rfl) (fun _ _ _ h => h) (Or.inl ⟨by rfl, fun w hSw => by go_simp⟩) h1 ?_
      try simp only [List.getElem_toArray, List.getElem_cons_zero, List.getElem_cons_succ, Act.put, List.setIfInBounds_toArray, List.set_cons_zero, List.set_cons_succ]
      refine wpAnyH_take (i := 9) (v := .bool false) rfl (by kernel_rfl) (by kernel_rfl) (by kernel_rfl) (fun _ _ _ h => h) (Or.inl ⟨by rfl, fun w hSw => by go_simp⟩) h1 ?_
      try simp only [List.getElem_toArray, List.getElem_cons_zero, List.getElem_cons_succ, Act.put, List.setIfInBounds_toArray, List.set_cons_zero, List.set_cons_succ]
      refine wpAnyH_take (i := 10) (v := .slice (some ⟨g, 0, none⟩) (k + 5) (k + 5)) rfl (by kernel_rfl) (by kernel_rfl) (by kernel_rfl) (fun _ _ _ h => h) (Or.inl ⟨by rfl, fun w hSw => by go_simp⟩) h1 ?_
      try simp only [List.getElem_toArray, List.getElem_cons_zero, List.getElem_cons_succ, Act.put, List.setIfInBounds_toArray, List.set_cons_zero, List.set_cons_succ]
      refine wpAnyH_take (i := 11) (v := .slice ao k cap) rfl (by kernel_rfl) (by kernel_rfl) (by kernel_rfl) (fun _ _ _ h => h) (Or.inl ⟨by rfl, fun w hSw => by go_simp⟩) h1 ?_
      try simp only [List.getElem_toArray, List.getElem_cons_zero, List.getElem_cons_succ, Act.put, List.setIfInBounds_toArray, List.set_cons_zero, List.set_cons_succ]
      refine wpAnyH_take (i := 12) (v := .int .i64 k) rfl (by kernel_rfl) (by kernel_rfl) (by kernel_rfl) (fun _ _ _ h => h) (Or.inl ⟨by rfl, fun w hSw => by go_simp⟩) h1 ?_
      try simp only [List.getElem_toArray, List.getElem_cons_zero, List.getElem_cons_succ, Act.put, List.setIfInBounds_toArray, List.set_cons_zero, List.set_cons_succ]
      refine wpAnyH_take (i := 13) (v := .slice (some ⟨g, 0, none⟩) k (k + 5)) rfl (by kernel_rfl) (by kernel_rfl) (by kernel_rfl) (fun _ _ _ h => h) (Or.inl ⟨by rfl, fun w hSw => by have c0 := hcut w; go_simp⟩) h1 ?_
      try simp only [List.getElem_toArray, List.getElem_cons_zero, List.getElem_cons_succ, Act.put, List.setIfInBounds_toArray, List.set_cons_zero, List.set_cons_succ]
      refine wpAnyH_take (i := 14) (v := .slice ao k cap) rfl (by kernel_rfl) (by kernel_rfl) (by kernel_rfl) (fun _ _ _ h => h) (Or.inl ⟨by rfl, fun w hSw => by go_simp⟩) h1 ?_
      try simp only [List.getElem_toArray, List.getElem_cons_zero, List.getElem_cons_succ, Act.put, List.setIfInBounds_toArray, List.set_cons_zero, List.set_cons_succ]
      refine wpAnyH_ready (rs := [15]) (by kernel_rfl) (by simp) (AllReadyH.cons (i := 15) rfl (fun K hK => ?_) AllReadyH.nil)
      rw [if_pos (by rfl)]
      go_simp
      refine (same_yes (some ⟨g, 0, none⟩) ao k (k + 5) cap xs _ HN.out hnm (HW4.out.kept h1 (by simp)) (HS4.out.kept h1 (by simp))).mono ?_
      rintro e v2 ⟨rfl, hq⟩
      refine hK.out _ _ (h1.trans hq (by simp)) (fun h2 => ?_)
      clear hK K hq h1
      try simp only [List.getElem_toArray, List.getElem_cons_zero, List.getElem_cons_succ, Act.put, List.setIfInBounds_toArray, List.set_cons_zero, List.set_cons_succ]
      refine wpAnyH_take (i := 16) (v := .bool false) rfl (by kernel_rfl) (by kernel_rfl) (by kernel_rfl) (fun _ _ _ h => h) (Or.inl ⟨by rfl, fun w hSw => by go_simp⟩) h2 ?_
      try simp only [List.getElem_toArray, List.getElem_cons_zero, List.getElem_cons_succ, Act.put, List.setIfInBounds_toArray, List.set_cons_zero, List.set_cons_succ]
      refine wpAnyH_take (i := 17) (v := .bool false) rfl (by kernel_rfl) (by kernel_rfl) (by kernel_rfl) (fun _ _ _ h => h) (Or.inl ⟨by rfl, fun w hSw => by go_simp⟩) h2 ?_
      try simp only [List.getElem_toArray, List.getElem_cons_zero, List.getElem_cons_succ, Act.put, List.setIfInBounds_toArray, List.set_cons_zero, List.set_cons_succ]
      refine wpAnyH_take (i := 18) (v := .bool false) rfl (by kernel_rfl) (by kernel_rfl) (by kernel_rfl) (fun _ _ _ h => h) (Or.inl ⟨by rfl, fun w hSw => by go_simp⟩) h2 ?_
      try simp only [List.getElem_toArray, List.getElem_cons_zero, List.getElem_cons_succ, Act.put, List.setIfInBounds_toArray, List.set_cons_zero, List.set_cons_succ]
      refine wpAnyH_take (i := 19) (v := .slice (some ⟨g, 0, none⟩) (k + 5) (k + 5)) rfl (by kernel_rfl) (by kernel_rfl) (by kernel_rfl) (fun _ _ _ h => h) (Or.inl ⟨by rfl, fun w hSw => by go_simp⟩) h2 ?_
      try simp only [List.getElem_toArray, List.getElem_cons_zero, List.getElem_cons_succ, Act.put, List.setIfInBounds_toArray, List.set_cons_zero, List.set_cons_succ]
      refine wpAnyH_take (i := 20) (v := .slice ao k cap) rfl (by kernel_rfl) (by kernel_rfl) (by kernel_rfl) (fun _ _ _ h => h) (Or.inl ⟨by rfl, fun w hSw => by go_simp⟩) h2 ?_
      try simp only [List.getElem_toArray, List.getElem_cons_zero, List.getElem_cons_succ, Act.put, List.setIfInBounds_toArray, List.set_cons_zero, List.set_cons_succ]
      refine wpAnyH_take (i := 21) (v := .int .i64 k) rfl (by kernel_rfl) (by kernel_rfl) (by kernel_rfl) (fun _ _ _ h => h) (Or.inl ⟨by rfl, fun w hSw => by go_simp⟩) h2 ?_
      try simp only [List.getElem_toArray, List.getElem_cons_zero, List.getElem_cons_succ, Act.put, List.setIfInBounds_toArray, List.set_cons_zero, List.set_cons_succ]
      refine wpAnyH_take (i := 22) (v := .slice (some ⟨g, k, none⟩) 5 5) rfl (by kernel_rfl) (by kernel_rfl) (by kernel_rfl) (fun _ _ _ h => h) (Or.inl ⟨by rfl, fun w hSw => by have c0 := hcut2 w; go_simp⟩) h2 ?_
      try simp only [List.getElem_toArray, List.getElem_cons_zero, List.getElem_cons_succ, Act.put, List.setIfInBounds_toArray, List.set_cons_zero, List.set_cons_succ]
      refine wpAnyH_ready (rs := [23]) (by kernel_rfl) (by simp) (AllReadyH.cons (i := 23) rfl (fun K hK => ?_) AllReadyH.nil)
      rw [if_pos (by rfl)]
      have hmk5 := hmk v2
      go_simp
      clear hmk5
      have N5 : Sl (v2.alloc (.cells (madeCells #[.int .u8 0] 5) 5)) (some ⟨v2.heap.size, 0, none⟩) (List.replicate 5 0) := sl_zero v2 5
      refine hK.out _ _ (h2.alloc _) (fun h3 => ?_)
      clear hK K h2
      try simp only [List.getElem_toArray, List.getElem_cons_zero, List.getElem_cons_succ, Act.put, List.setIfInBounds_toArray, List.set_cons_zero, List.set_cons_succ]
      generalize World.alloc v2 _ = v3 at h3 N5 ⊢
      generalize v2.heap.size = b5 at N5 ⊢
      refine wpAnyH_ready (rs := [24]) (by kernel_rfl) (by simp) (AllReadyH.cons (i := 24) rfl (fun K hK => ?_) AllReadyH.nil)
      rw [if_pos (by rfl)]
      go_simp
      refine (same_yes (some ⟨g, k, none⟩) (some ⟨b5, 0, none⟩) 5 5 5 (List.replicate 5 0) _ (by simp) (by omega) (HZ4.out.kept h3 (by simp)) N5).mono ?_
      rintro e v4 ⟨rfl, hq⟩
      refine hK.out _ _ (h3.trans hq (by simp)) (fun h4 => ?_)
      clear hK K hq h3
      try simp only [List.getElem_toArray, List.getElem_cons_zero, List.getElem_cons_succ, Act.put, List.setIfInBounds_toArray, List.set_cons_zero, List.set_cons_succ]
      refine wpAnyH_take (i := 25) (v := .bool false) rfl (by kernel_rfl) (by kernel_rfl) (by kernel_rfl) (fun _ _ _ h => h) (Or.inl ⟨by rfl, fun w hSw => by go_simp⟩) h4 ?_
      try simp only [List.getElem_toArray, List.getElem_cons_zero, List.getElem_cons_succ, Act.put, List.setIfInBounds_toArray, List.set_cons_zero, List.set_cons_succ]
      refine wpAnyH_take (i := 26) (v := .bool false) rfl (by kernel_rfl) (by kernel_rfl) (by kernel_rfl) (fun _ _ _ h => h) (Or.inl ⟨by rfl, fun w hSw => by go_simp⟩) h4 ?_
      try simp only [List.getElem_toArray, List.getElem_cons_zero, List.getElem_cons_succ, Act.put, List.setIfInBounds_toArray, List.set_cons_zero, List.set_cons_succ]
      refine wpAnyH_done (by kernel_rfl) ?_ _
      have K5 : Hid (Kept [] w4 v4) := h4
      clear h4 hmk N5 hcc hcut2
      obtain ⟨w5, hw5⟩ : ∃ V, V = v4 := ⟨_, rfl⟩
      subst hw5
      have K5w : Hid (Kept [] w w5) := K4.out.trans K5.out (by simp)
      have S5 : Hid (Ress w5 bo1 E ∧ Ress w5 bo2 E) := ⟨S4.out.1.kept K5.out (by simp), S4.out.2.kept K5.out (by simp)⟩
      have Z5 : Hid (Sl w5 (some ⟨g, 0, none⟩) xs ∧ w5.there g 0 (k + 5) ∧ g < w5.heap.size) := ⟨HW4.out.kept K5.out (by simp), there_kept Z4.out.2 K5.out (by simp), Nat.lt_of_lt_of_le G4.out.1 K5.out.size⟩
      clear K4 S4 Z4 HW4 HZ4 HS4 K5
      by_cases h0 : k = 0
      · have h0z : ((k : Int) == 0) = true := by simp [h0]
        clear h0
        go_wp2_with (go_at_call 17; refine (awake_ok _).mono ?_; rintro r w17 ⟨rfl, hk17⟩; have HD := hide hk17; clear hk17)
        go_ret
        exact ⟨rfl, (K5w.out.trans HD.out (by simp)).below (Nat.le_refl _) (by simp)⟩
      · have h0z : ((k : Int) == 0) = false := by simp [h0]
        obtain ⟨p, hp⟩ : ∃ p, k = p + 1 := ⟨k - 1, by omega⟩
        obtain ⟨b, off, rfl, _⟩ := HS.out 0 (by rw [HN.out]; omega)
        obtain ⟨g9, c9, w6, hrun, s6, t6, hg6, hc9, k6⟩ := run_freshD w5 b off k cap xs HN.out (by omega) (by omega) (HS.out.kept K5w.out (by simp))
        obtain ⟨y, hy⟩ := xor_byte (xs.getD p 0)
        obtain ⟨_, _, ee, cA⟩ := s6 p (by rw [HN.out]; omega)
        cases ee
        rw [Nat.zero_add] at cA
        have fA : w6.frozen? ⟨g9, p, none⟩ = false := by have := (t6 p (by omega)).2; rwa [Nat.zero_add] at this
        have em : (k : Int) - 1 = (p : Int) := by omega
        have wm : IntKind.i64.wrap (p : Int) = (p : Int) := by rw [IntKind.wrap_i64]; omega
        have hpk : p < k := by omega
        have hpk5 : p < k + 5 := by omega
        have H6 : Hid (Sl (w6.setCell ⟨g9, p, none⟩ (.int .u8 y.toNat)) (some ⟨g9, 0, none⟩) (xs.set p y) ∧ (w6.setCell ⟨g9, p, none⟩ (.int .u8 y.toNat)).there g9 0 k ∧ Kept [] w5 (w6.setCell ⟨g9, p, none⟩ (.int .u8 y.toNat)) ∧ w5.heap.size ≤ g9) := ⟨sl_set s6 (by rw [HN.out]; exact hpk) y, there_cell1 t6 _ _ _, k6.setCell (fun h => by simp at h; omega) _, hg6⟩
        have HPK := hide hp
        have HY := hide hy
        obtain ⟨xb, hxb⟩ : ∃ xb, (xs.getD p 0).toNat = xb := ⟨_, rfl⟩
        rw [hxb] at hy cA
        clear hxb hp s6 t6 hg6 k6 HY
        go_upto_region 13 with (refine wpList_app_run rfl (.tmp 73) (.tmp 74) 25 25 rfl (.slice (some ⟨w5.heap.size, 0, none⟩) 0 0) (.slice (some ⟨b, off, none⟩) k cap) rfl rfl (.slice (some ⟨g9, 0, none⟩) k c9) w6 hrun ?_)
        clear hrun
        go_upto_region 14 with (fail)
        clear cA fA hy
        generalize w6.setCell ⟨g9, p, none⟩ (.int .u8 y.toNat) = w7 at H6 ⊢
        obtain ⟨_, _, ee, cB⟩ := H6.out.1 p (by simp [HN.out]; exact hpk)
        cases ee
        rw [Nat.zero_add, show (xs.set p y).getD p 0 = y by simp [List.getD, HN.out, hpk]] at cB
        have z7 : Sl w7 (some ⟨g, 0, none⟩) xs := Z5.out.1.kept H6.out.2.2.1 (by simp)
        have t7 : w7.there g 0 (k + 5) := there_kept Z5.out.2.1 H6.out.2.2.1 (by simp)
        obtain ⟨_, _, ee, cC⟩ := z7 p (by rw [HN.out]; exact hpk)
        cases ee
        rw [Nat.zero_add] at cC
        have fC : w7.frozen? ⟨g, p, none⟩ = false := by have := (t7 p (by omega)).2; rwa [Nat.zero_add] at this
        have hgg : g ≠ g9 := by have := Z5.out.2.2; have := H6.out.2.2.2; omega
        have k8 : Kept [g] w7 (w7.setCell ⟨g, p, none⟩ (.int .u8 y.toNat)) := (Kept.refl [g] w7).setCell (by simp) _
        have H8 : Hid (Sl (w7.setCell ⟨g, p, none⟩ (.int .u8 y.toNat)) (some ⟨g, 0, none⟩) (xs.set p y) ∧ Sl (w7.setCell ⟨g, p, none⟩ (.int .u8 y.toNat)) (some ⟨g9, 0, none⟩) (xs.set p y) ∧ Ress (w7.setCell ⟨g, p, none⟩ (.int .u8 y.toNat)) bo1 E ∧ Ress (w7.setCell ⟨g, p, none⟩ (.int .u8 y.toNat)) bo2 E ∧ Kept [] w (w7.setCell ⟨g, p, none⟩ (.int .u8 y.toNat))) :=
          ⟨sl_set z7 (by rw [HN.out]; exact hpk) y, H6.out.1.kept k8 (fun _ a ha => by cases ha; simp; omega), (S5.out.1.kept H6.out.2.2.1 (by simp)).kept k8 (fun _ a ha => by simpa using G4.out.2.1 a ha), (S5.out.2.kept H6.out.2.2.1 (by simp)).kept k8 (fun _ a ha => by simpa using G4.out.2.2 a ha), (K5w.out.trans H6.out.2.2.1 (by simp)).setCell (fun h => by have := HG.out; simp at h; omega) _⟩
        generalize (xs.getD p 0).toNat = u at cC
        clear z7 t7 k8 hgg
        go_upto_region 15 with (fail)
        clear cB cC fC H6 em wm hpk hpk5
        generalize w7.setCell ⟨g, p, none⟩ (.int .u8 y.toNat) = w8 at H8 ⊢
        have HN2 : Hid ((xs.set p y).length = k) := by show _ = _; simp [HN.out]
        generalize xs.set p y = ys at H8 HN2
        obtain ⟨E2, hE⟩ : ∃ E, (Tb.parse ys).getD [] = E := ⟨_, rfl⟩
        obtain ⟨cv2, hcv⟩ : ∃ cv, Tb.code (Tb.parse ys).isSome = cv := ⟨_, rfl⟩
        have HEL2 : Hid (E2.length ≤ 32) := by show _ ≤ _; rw [← hE]; exact Tb.parse_len ys
        have hen := parse_ok (some ⟨g, 0, none⟩) k (k + 5) ys w8 HN2.out (by omega) H8.out.1 (by simp)
        rw [hE, hcv] at hen
        have HE2 := hide (And.intro hE hcv)
        clear hE hcv
        go_upto_region 16 with (go_at_call 18; refine hen.mono ?_; intro r w9 ht; obtain ⟨bo3, c3, m3, rfl, hm1, hs1, hb1, hk1⟩ := told_openR ht; have H9 := hide (And.intro hm1 (And.intro hs1 hk1)); clear ht hm1 hs1 hb1 hk1 hen)
        have HM3 : Hid (E2.length = m3) := H9.out.1
        have hmm3 : m3 ≤ 4611686018427387904 := by have := HM3.out; have := HEL2.out; omega
        have H10 : Hid (Sl w9 (some ⟨g, 0, none⟩) ys ∧ Sl w9 (some ⟨g9, 0, none⟩) ys ∧ Ress w9 bo1 E ∧ Ress w9 bo2 E ∧ Ress w9 bo3 E2 ∧ Kept [] w w9) := ⟨H8.out.1.kept H9.out.2.2 (by simp), H8.out.2.1.kept H9.out.2.2 (by simp), H8.out.2.2.1.kept H9.out.2.2 (by simp), H8.out.2.2.2.1.kept H9.out.2.2 (by simp), H9.out.2.1, H8.out.2.2.2.2.trans H9.out.2.2 (by simp)⟩
        clear H8 H9
        have hen := refparse_ok (some ⟨g9, 0, none⟩) k c9 ys w9 HN2.out (by omega) H10.out.2.1
        rw [HE2.out.1, HE2.out.2] at hen
        go_upto_region 17 with (go_at_call 19; refine hen.mono ?_; intro r w10 ht; obtain ⟨bo4, c4, m4, rfl, hm2, hs2, hb2, hk2⟩ := told_openR ht; obtain rfl : m4 = m3 := (hm2.symm.trans HM3.out); have H11 := hide (And.intro hs2 hk2); clear ht hm2 hs2 hb2 hk2 hen)
        have H12 : Hid (Sl w10 (some ⟨g, 0, none⟩) ys ∧ Sl w10 (some ⟨g9, 0, none⟩) ys ∧ Ress w10 bo1 E ∧ Ress w10 bo2 E ∧ Ress w10 bo3 E2 ∧ Ress w10 bo4 E2 ∧ Kept [] w w10) := ⟨H10.out.1.kept H11.out.2 (by simp), H10.out.2.1.kept H11.out.2 (by simp), H10.out.2.2.1.kept H11.out.2 (by simp), H10.out.2.2.2.1.kept H11.out.2 (by simp), H10.out.2.2.2.2.1.kept H11.out.2 (by simp), H11.out.1, H10.out.2.2.2.2.2.trans H11.out.2 (by simp)⟩
        clear H10 H11
        have hcc : (cv2 == cv2) = true := by simp
        have hsa := like_yes bo3 bo4 m4 c3 c4 E2 w10 HM3.out hmm3 H12.out.2.2.2.2.1 H12.out.2.2.2.2.2.1
        go_wp2_with (first
          | (have z := hsa; go_at_call 20; refine hsa.mono ?_; rintro r w12 ⟨rfl, hk4⟩; have Q4 := hide hk4; clear hk4 hsa z; have hsb := like_yes bo1 bo2 m2 c1 c2 E w12 HM.out hmm (H12.out.2.2.1.kept Q4.out (by simp)) (H12.out.2.2.2.1.kept Q4.out (by simp)))
          | (go_at_call 20; refine hsb.mono ?_; rintro r w13 ⟨rfl, hk5⟩; have Q5 := hide (Q4.out.trans hk5 (by simp)); clear hk5 hsb; have hsc := same_yes (some ⟨g, 0, none⟩) (some ⟨g9, 0, none⟩) k (k + 5) c9 ys w13 HN2.out hnm (H12.out.1.kept Q5.out (by simp)) (H12.out.2.1.kept Q5.out (by simp)))
          | (go_at_call 12; refine hsc.mono ?_; rintro r w14 ⟨rfl, hk6⟩; have Q6 := hide (Q5.out.trans hk6 (by simp)); clear hk6 hsc)
          | (go_at_call 17; refine (awake_ok _).mono ?_; rintro r w17 ⟨rfl, hk17⟩; have HD := hide hk17; clear hk17))
        go_ret
        exact ⟨rfl, ((H12.out.2.2.2.2.2.2.trans Q6.out (by simp)).trans HD.out (by simp)).below (Nat.le_refl _) (by simp)⟩
end Go.Proofs.Ytdeneflgldagpaa
