/-
  Contracts: freightref1: what is written: IsNumber, Number, IsFixed, Fixed, Text.
-/
import Derived.Test.YtjmameknbnflaabRg
import Derived.Test.YtjmameknbnflaabWs
namespace Go.Proofs.Ytjmameknbnflaab
open Go.RowKit
set_option linter.unusedVariables false
set_option linter.unusedSimpArgs false

theorem Kept.nil_own {w w' : World} {base : Nat} {e : TypeId} {size : Nat} {v : Value} {n : Nat} {xs : List Value} (h : w.ownsRow base e size v n xs) {l : List Nat} (hk : Kept l w w') (hn : ∀ k, v.ownBlock = some k → k ∉ l) : w'.ownsRow base e size v n xs := by
  refine ⟨h.1, ?_⟩
  rcases h.2 with hn' | ⟨g, cap, cur, rfl, hb, hgg, rest⟩
  · exact .inl hn'
  · refine .inr ⟨g, cap, cur, rfl, hb, ?_, rest⟩
    rw [hk.block g (Array.getElem?_eq_some_iff.1 hgg).1 (hn g rfl)]
    exact hgg

set_option maxHeartbeats 800000 in
set_option maxRecDepth 100000 in
theorem isnumber_any (v : Int) (w : World) :
    Calls Try.prog 45 #[.int .i64 v] w fun e w' => e = .returned (.bool (decide (0 ≤ v ∧ v ≤ 2147483647))) ∧ w' = w := by
  by_cases h : 0 ≤ v ∧ v ≤ 2147483647
  · have hd : Hid (decide (0 ≤ v ∧ v ≤ 2147483647) = true) := by show _ = _; simpa using h
    obtain ⟨h0, h1⟩ := h
    have g0 : decide (0 ≤ v) = true := by simpa using h0
    have g1 : decide (v ≤ 2147483647) = true := by simpa using h1
    go_enter Try.func45, Try.ntmps45
    go_wp2
    go_ret
    exact ⟨by first | rfl | (rw [hd.out]; rfl), rfl⟩
  · have hd : Hid (decide (0 ≤ v ∧ v ≤ 2147483647) = false) := by show _ = _; simpa using h
    by_cases h0 : 0 ≤ v
    · have h1 : ¬ v ≤ 2147483647 := by omega
      have g1 : decide (v ≤ 2147483647) = false := by simpa using h1
      clear h
      go_enter Try.func45, Try.ntmps45
      go_wp2
      go_ret
      exact ⟨by first | rfl | (rw [hd.out]; rfl), rfl⟩
    · have g1 : decide (0 ≤ v) = false := by simpa using h0
      clear h
      go_enter Try.func45, Try.ntmps45
      go_wp2
      go_ret
      exact ⟨by first | rfl | (rw [hd.out]; rfl), rfl⟩

/-- The number's form, made one byte after the other. -/
structure EncRel (w wr : World) (v : Nat) (vb : Value) (ys : List UInt8) (x : Nat) : Prop where
  own : wr.ownsRow w.heap.size 5 1 vb ys.length (bys ys)
  eq : Pure.enc v = ys ++ Pure.enc x
  kept : Kept [] w wr

/-- One byte in a new block. -/
theorem one_cells (w : World) (c : Value) (t : TypeId) (fr : Nat × Nat) : ∀ (j : Nat) (u : Value), [c][j]? = some u → (w.alloc (.cells #[c] t fr)).cell? ((⟨w.heap.size, 0, none⟩ : Addr).add j) = some u := by
  intro j u hu
  cases j with
  | zero =>
    simp at hu
    subst hu
    rw [Addr.add_mid, Nat.zero_add, World.cell?_alloc_mark]
    simp
  | succ j => simp at hu

theorem bys_one (c : UInt8) (n : Int) (h : n = (c.toNat : Int)) : [Value.int .u8 n] = bys [c] := by rw [h]; rfl

set_option maxHeartbeats 1600000 in
set_option maxRecDepth 100000 in
theorem refnumber_ok (v : Nat) (hv : v ≤ 2147483647) (w : World) :
    Calls Try.prog 46 #[.int .i64 v] w fun e w' => ∃ vb, e = .returned vb ∧ vb ≠ .slice none 0 0 ∧ w'.ownsRow w.heap.size 5 1 vb (Pure.enc v).length (bys (Pure.enc v)) ∧ Kept [] w w' := by
  obtain ⟨i0, hi, hz0, hz1, hz2⟩ := info_parts Try.infoByte
  have HI : Hid (EncRel w w v (.slice none 0 0) [] v) := ⟨World.ownsRow_nil _ _ _ _, rfl, Kept.refl _ _⟩
  go_enter Try.func46, Try.ntmps46
  go_wp2
  go_loopw [0, 3] (fun a b wr => ∃ (x : Nat) (ys : List UInt8), x ≤ 2147483647 ∧ ys.length ≤ 5 ∧ a = .int .i64 x ∧ Hid (EncRel w wr v b ys x)) (fun a b wr => (intOf a).toNat)
  case atStart => exact ⟨v, [], hv, by simp, rfl, HI⟩
  case round =>
    clear HI
    obtain ⟨x, ys, hx, hys, rfl, HR⟩ := hrel
    have HE5 : Hid (ys.length + (Pure.enc x).length ≤ 5) := by
      have h1 := Pure.enc_len5 hv
      rw [HR.out.eq, List.length_append] at h1
      exact h1
    by_cases h128 : 128 ≤ x
    · go_wp2_with (at_builtin; refine wpList_append_own _ rfl _ _ 32 rfl w.heap.size 5 i0 (.int .u8 0) 1 1 Try.underlying32 hi hz0 hz1 hz2 rfl (by decide) _ _ _ rfl (HR.out.own.alloc _) ⟨wr.heap.size, 0, none⟩ 1 1 [.int .u8 (128 + (x : Int) % 128)] rfl rfl (one_cells _ _ _ _) (by simp [Value.oneCell']) ?c3 ?c4 ?c5 ?_)
      case c3 => unfold maxLen; omega
      case c4 => omega
      case c5 => have := HR.out.kept.size; simp; omega
      intro v' w1 hown hgrow hnn
      have HR2 : Hid (EncRel w w1 v v' (ys ++ [UInt8.ofNat (x % 128 + 128)]) (x / 128)) := by
        refine ⟨?_, ?_, ?_⟩
        · have h1 := hown
          rw [bys_one (UInt8.ofNat (x % 128 + 128)) _ (by rw [Pure.toNat_ofNat_small (by omega)]; omega), ← bys_append] at h1
          simpa using h1
        · rw [HR.out.eq, Pure.enc_more (by omega)]
          simp
        · exact (HR.out.kept.alloc _).grown hgrow (fun k hk hlt => by have := (HR.out.own.lt k hk).1; omega)
      have hl2 : (ys ++ [UInt8.ofNat (x % 128 + 128)]).length ≤ 5 := by
        have h1 := HE5.out
        rw [Pure.enc_more (by omega)] at h1
        simp at h1 ⊢
        omega
      clear hown hgrow hnn HR HE5
      go_wp2
      go_roundw
      case rel => exact ⟨x / 128, _, by omega, hl2, by go_num, HR2⟩
      case measure => simp [intOf]; omega
    · go_wp2_with (at_builtin; refine wpList_append_own _ rfl _ _ 32 rfl w.heap.size 5 i0 (.int .u8 0) 1 1 Try.underlying32 hi hz0 hz1 hz2 rfl (by decide) _ _ _ rfl (HR.out.own.alloc _) ⟨wr.heap.size, 0, none⟩ 1 1 [.int .u8 (x : Int)] rfl rfl (one_cells _ _ _ _) (by simp [Value.oneCell']) ?c3 ?c4 ?c5 ?_)
      case c3 => unfold maxLen; omega
      case c4 => omega
      case c5 => have := HR.out.kept.size; simp; omega
      intro v' w1 hown hgrow hnn
      have HR2 : Hid (w1.ownsRow w.heap.size 5 1 v' (Pure.enc v).length (bys (Pure.enc v)) ∧ Kept [] w w1 ∧ v' ≠ .slice none 0 0) := by
        refine ⟨?_, ?_, fun h => ?_⟩
        · have h1 := hown
          rw [bys_one (UInt8.ofNat x) _ (by rw [Pure.toNat_ofNat_small (by omega)]), ← bys_append] at h1
          rw [HR.out.eq, Pure.enc_small (by omega)]
          simpa using h1
        · exact (HR.out.kept.alloc _).grown hgrow (fun k hk hlt => by have := (HR.out.own.lt k hk).1; omega)
        · exact hnn h
      clear hown hgrow hnn HR HE5
      go_wp2
      go_ret
      exact ⟨v', rfl, HR2.out.2.2, HR2.out.1, HR2.out.2.1⟩

set_option maxHeartbeats 1600000 in
set_option maxRecDepth 100000 in
theorem reftext_ok (ao : Option Addr) (n cap : Nat) (ds : List UInt8) (w : World) (hn : ds.length = n) (hm : n ≤ 2000000000) (hs : Sl w ao ds) (hnil : ao = none → ds = [] ∧ cap = 0) :
    Calls Try.prog 49 #[.slice ao n cap] w fun e w' => ∃ vb, e = .returned vb ∧ vb ≠ .slice none 0 0 ∧ w'.ownsRow w.heap.size 5 1 vb (Pure.enc n ++ ds).length (bys (Pure.enc n ++ ds)) ∧ Kept [] w w' := by
  obtain ⟨i0, hi, hz0, hz1, hz2⟩ := info_parts Try.infoByte
  have HN : Hid (ds.length = n) := hn
  have HS : Hid (Sl w ao ds) := hs
  have HNIL : Hid (ao = none → ds = [] ∧ cap = 0) := hnil
  clear hn hs hnil
  have h5 : (Pure.enc n).length ≤ 5 := Pure.enc_len5 (by omega)
  cases ao with
  | none =>
    obtain ⟨rfl, rfl⟩ := HNIL.out rfl
    have hn0 : n = 0 := by have := HN.out; simpa using this.symm
    subst hn0
    go_enter Try.func49, Try.ntmps49
    go_wp2_with (first | (go_at_call 46; refine (refnumber_ok 0 (by omega) _).mono ?_; rintro e w1 ⟨vb, rfl, hnb, hown, hk⟩) | (at_builtin; refine wpList_append_own_none rfl _ _ 32 rfl w.heap.size 5 i0 1 Try.underlying32 hi _ _ _ rfl hown rfl ?_))
    go_ret
    exact ⟨vb, rfl, hnb, by simpa using hown, hk⟩
  | some ad =>
    have HC : Hid (∀ (w1 : World), Kept [] w w1 → ∀ j u, (bys ds)[j]? = some u → w1.cell? (ad.add j) = some u) := fun w1 hk j u hu => by
      obtain ⟨hj, rfl⟩ := bys_get hu
      obtain ⟨b, off, e', hb, hc⟩ := HS.out.open (by rintro rfl; simp at hj)
      cases e'
      rw [Addr.add_mid]
      exact hk.cellOf (hc j hj) (by simp)
    go_enter Try.func49, Try.ntmps49
    go_wp2_with (first | (go_at_call 46; refine (refnumber_ok n (by omega) _).mono ?_; rintro e w1 ⟨vb, rfl, hnb, hown, hk⟩) | (at_builtin; refine wpList_append_own _ rfl _ _ 32 rfl w.heap.size 5 i0 (.int .u8 0) 1 1 Try.underlying32 hi hz0 hz1 hz2 rfl (by decide) _ _ _ rfl hown ad n cap (bys ds) rfl (by rw [bys_length, HN.out]; omega) (HC.out _ hk) (bys_oneCell _) ?c3 ?c4 ?c5 ?_))
    case c3 => unfold maxLen; omega
    case c4 => omega
    case c5 => exact hk.size
    intro v' w2 hown2 hgrow2 hnn2
    have HR : Hid (w2.ownsRow w.heap.size 5 1 v' (Pure.enc n ++ ds).length (bys (Pure.enc n ++ ds)) ∧ Kept [] w w2 ∧ v' ≠ .slice none 0 0) := by
      refine ⟨?_, hk.grown hgrow2 (fun k hk2 hlt => by have := (hown.lt k hk2).1; omega), fun h => ?_⟩
      · rw [bys_append, List.length_append, HN.out]; exact hown2
      · exact hnn2 h
    clear hown2 hgrow2 hnn2 hown hk hnb
    go_wp2
    go_ret
    exact ⟨v', rfl, HR.out.2.2, HR.out.1, HR.out.2.1⟩

theorem pow256_le {k : Nat} (h : k ≤ 4) : 256 ^ k ≤ 4294967296 := by
  obtain rfl | rfl | rfl | rfl | rfl : k = 0 ∨ k = 1 ∨ k = 2 ∨ k = 3 ∨ k = 4 := by omega
  all_goals decide

set_option maxHeartbeats 1600000 in
set_option maxRecDepth 100000 in
theorem isfixed_in (v : Int) (n : Nat) (hn1 : 1 ≤ n) (hn4 : n ≤ 4) (hv : 0 ≤ v) (w : World) :
    Calls Try.prog 47 #[.int .i64 v, .int .i64 n] w fun e w' => e = .returned (.bool (decide (v < 256 ^ n))) ∧ w' = w := by
  have d1 : decide ((n : Int) < 1) = false := by simp; omega
  have d2 : decide (4 < (n : Int)) = false := by simp; omega
  have d3 : decide (v < 0) = false := by simp; omega
  go_enter Try.func47, Try.ntmps47
  go_wp2
  go_loop [5, 6] (fun a i => ∃ k z : Nat, k ≤ n ∧ i = .int .i64 k ∧ a = .int .i64 z ∧ Hid (z = 256 ^ k)) (fun a i => n - (intOf i).toNat)
  case atStart => exact ⟨0, 1, Nat.zero_le _, rfl, rfl, rfl⟩
  case round =>
    obtain ⟨k, z, hk, rfl, rfl, HZ⟩ := hrel
    have hz4 : z ≤ 4294967296 := by rw [HZ.out]; exact pow256_le (by omega)
    by_cases hlt : k < n
    · have HZ2 : Hid (z * 256 = 256 ^ (k + 1)) := by
        show _ = _
        rw [Nat.pow_succ, ← HZ.out]
      clear HZ
      go_wp2
      go_round
      case rel => exact ⟨k + 1, z * 256, by omega, by go_num, by go_num, HZ2⟩
      case measure => simp [intOf]; omega
    · obtain rfl : k = n := by omega
      have HD : Hid (decide (v < 256 ^ k) = decide (v < (z : Int))) := by
        show _ = _
        rw [HZ.out, Int.natCast_pow]
        rfl
      clear HZ
      by_cases hvz : v < (z : Int)
      · have g : decide (v < (z : Int)) = true := by simpa using hvz
        go_wp2
        go_ret
        exact ⟨by rw [HD.out, g]; rfl, rfl⟩
      · have g : decide (v < (z : Int)) = false := by simpa using hvz
        go_wp2
        go_ret
        exact ⟨by rw [HD.out, g]; rfl, rfl⟩

set_option maxHeartbeats 1600000 in
set_option maxRecDepth 100000 in
theorem isfixed_out (v n : Int) (hb : n < 1 ∨ 4 < n ∨ v < 0) (w : World) :
    Calls Try.prog 47 #[.int .i64 v, .int .i64 n] w fun e w' => e = .returned (.bool false) ∧ w' = w := by
  by_cases c1 : n < 1
  · clear hb
    go_enter Try.func47, Try.ntmps47
    go_wp2
    go_ret
    exact ⟨rfl, rfl⟩
  have d1 : decide (n < 1) = false := by simpa using c1
  by_cases c2 : 4 < n
  · clear hb
    go_enter Try.func47, Try.ntmps47
    go_wp2
    go_ret
    exact ⟨rfl, rfl⟩
  have d2 : decide (4 < n) = false := by simpa using c2
  have c3 : v < 0 := by omega
  clear hb
  go_enter Try.func47, Try.ntmps47
  go_wp2
  go_ret
  exact ⟨rfl, rfl⟩

/-- IsFixed: may it be written? -/
theorem isfixed_any (v n : Int) (w : World) :
    Calls Try.prog 47 #[.int .i64 v, .int .i64 n] w fun e w' => e = .returned (.bool (decide (1 ≤ n ∧ n ≤ 4 ∧ 0 ≤ v ∧ v < 256 ^ n.toNat))) ∧ w' = w := by
  by_cases h : n < 1 ∨ 4 < n ∨ v < 0
  · refine (isfixed_out v n h w).mono fun e w' ⟨he, hw⟩ => ⟨?_, hw⟩
    rw [he]
    congr 2
    symm
    rw [decide_eq_false_iff_not]
    omega
  · obtain ⟨m, rfl⟩ := Int.eq_ofNat_of_zero_le (show 0 ≤ n by omega)
    refine (isfixed_in v m (by omega) (by omega) (by omega) w).mono fun e w' ⟨he, hw⟩ => ⟨?_, hw⟩
    rw [he]
    congr 2
    rw [Int.toNat_natCast]
    by_cases hv : v < 256 ^ m
    · rw [decide_eq_true hv]; symm; rw [decide_eq_true_iff]; omega
    · rw [decide_eq_false hv]; symm; rw [decide_eq_false_iff_not]; omega

/-- The bytes of a number of so many bytes, made from the last one on. -/
structure FixRel (w wr : World) (v n : Nat) (j z : Nat) : Prop where
  row : ∃ R : List UInt8, wr.heap[w.heap.size]? = some (.cells (bys R).toArray 5 (0, 0)) ∧ R.length = n ∧ R.drop j = Pure.fix v (n - j)
  eq : z = v / 256 ^ (n - j)
  kept : Kept [] w wr

theorem FixRel.step {w wr : World} {v n j z : Nat} (h : FixRel w wr v n (j + 1) z) (hj : j + 1 ≤ n) : FixRel w (wr.setCell ⟨w.heap.size, j, none⟩ (.int .u8 (z % 256 : Nat))) v n j (z / 256) := by
  obtain ⟨R, hr, hl, hd⟩ := h.row
  refine ⟨⟨R.set j (UInt8.ofNat (z % 256)), ?_, by simpa using hl, ?_⟩, ?_, h.kept.setCell (by simp) _⟩
  · rw [heap_setCell_same _ _ _ _ _ _ hr]
    simp only [List.setIfInBounds_toArray]
    congr 3
    rw [← bys_set, Pure.toNat_ofNat_small (by omega)]
  · have e1 : n - j = (n - (j + 1)) + 1 := by omega
    rw [e1, Pure.fix, ← hd, ← h.eq]
    rw [List.drop_eq_getElem_cons (by simp; omega)]
    congr 1
    · simp
    · rw [List.drop_set_of_lt (by omega)]
  · rw [h.eq, show n - j = (n - (j + 1)) + 1 by omega, Nat.pow_succ, Nat.div_div_eq_div_mul]

set_option maxHeartbeats 1600000 in
set_option maxRecDepth 100000 in
theorem reffixed_ok (v n : Nat) (hn1 : 1 ≤ n) (hn4 : n ≤ 4) (hv : v < 256 ^ n) (w : World) :
    Calls Try.prog 48 #[.int .i64 v, .int .i64 n] w fun e w' => ∃ ao cap, e = .returned (.slice ao n cap) ∧ Fresh w w' ao cap (Pure.fix v n) ∧ ao ≠ none ∧ Kept [] w w' := by
  obtain ⟨i0, hi, hz0, hz1, hz2⟩ := info_parts Try.infoByte
  have hv4 : v < 4294967296 := Nat.lt_of_lt_of_le hv (pow256_le hn4)
  clear hv
  go_enter Try.func48, Try.ntmps48
  go_wp2_with (at_make; refine wpList_make_full _ rfl _ _ 32 rfl w.heap.size 5 i0 (.int .u8 0) 1 Try.underlying32 hi hz0 hz1 .i64 .i64 n n n rfl rfl rfl rfl ?c1 ?c2 ?c3 ?_)
  case c1 => rw [hz2]; omega
  case c2 => unfold maxLen; omega
  case c3 => exact Nat.le_refl _
  intro w1 hown hgrow
  have HI : Hid (FixRel w w1 v n n v) := by
    refine ⟨?_, by simp, (Kept.refl _ _).grown hgrow (by simp)⟩
    rcases hown.2 with ⟨h, _⟩ | ⟨g', cap', cur, hv', _, hg', _, _, hsz, htk⟩
    · cases h
    · cases hv'
      refine ⟨List.replicate n 0, ?_, by simp, by simp [Pure.fix]⟩
      rw [hg']
      have hcs : cur.size = n := by simpa using hsz
      have : cur.toList = bys (List.replicate n 0) := by
        rw [List.take_of_length_le (by simp; omega)] at htk
        rw [htk]
        exact made_bytes _
      rw [← this]
  clear hown hgrow
  obtain ⟨g, hg⟩ : ∃ g, g = w.heap.size := ⟨_, rfl⟩
  rw [← hg]
  have HG : Hid (g = w.heap.size) := hg
  clear hg
  go_wp2
  go_loopw [0, 6] (fun a i wr => ∃ j z : Nat, j ≤ n ∧ z < 4294967296 ∧ a = .int .i64 z ∧ i = .int .i64 ((j : Int) - 1) ∧ Hid (FixRel w wr v n j z)) (fun a i wr => (intOf i + 1).toNat)
  case atStart => exact ⟨n, v, Nat.le_refl _, hv4, rfl, rfl, HI⟩
  case round =>
    clear HI
    obtain ⟨j, z, hj, hz, rfl, rfl, HR⟩ := hrel
    by_cases hj0 : j = 0
    · subst hj0
      have HF : Hid (Fresh w wr (some ⟨g, 0, none⟩) n (Pure.fix v n) ∧ Kept [] w wr) := by
        obtain ⟨R, hr, hl, hd⟩ := HR.out.row
        simp only [List.drop_zero, Nat.sub_zero] at hd
        refine ⟨⟨Sl.of fun i hi => ?_, by rw [Pure.fix_len]; exact Nat.le_refl _, by simp, fun a ha => by cases ha; rw [HG.out]; exact ⟨Nat.le_refl _, (Array.getElem?_eq_some_iff.1 hr).1, rfl⟩⟩, HR.out.kept⟩
        rw [HG.out, cell_of_row wr _ _ _ _ _ hr, Nat.zero_add, hd]
        simpa using bys_at hi
      clear HR
      go_wp2
      go_ret
      exact ⟨some ⟨g, 0, none⟩, n, rfl, HF.out.1, by simp, HF.out.2⟩
    · obtain ⟨k, rfl⟩ : ∃ k, j = k + 1 := ⟨j - 1, by omega⟩
      have hcg : ∃ u, wr.cell? ⟨g, k, none⟩ = some u := by
        obtain ⟨R, hr, hl, hd⟩ := HR.out.row
        rw [HG.out, cell_of_row _ _ _ _ _ _ hr]
        have hl2 : k < (bys R).length := by rw [bys_length]; omega
        exact ⟨_, by rw [List.getElem?_toArray]; exact List.getElem?_eq_getElem hl2⟩
      obtain ⟨u, hcg⟩ := hcg
      have hfz : wr.frozen? ⟨g, k, none⟩ = false := by
        obtain ⟨R, hr, hl, hd⟩ := HR.out.row
        rw [HG.out]
        exact frozen_of_row _ _ _ _ _ hr
      have HR2 : Hid (FixRel w (wr.setCell ⟨g, k, none⟩ (.int .u8 ((z : Int) % 256))) v n k (z / 256)) := by
        have h1 := HR.out.step hj
        rw [HG.out]
        rw [show ((z : Int) % 256) = ((z % 256 : Nat) : Int) by omega]
        exact h1
      have hkk : ((k + 1 : Nat) : Int) - 1 = (k : Int) := by omega
      rw [hkk]
      clear HR hkk hj0
      go_wp2
      go_roundw
      case rel => exact ⟨k, z / 256, by omega, by omega, by go_num, by go_num, HR2⟩
      case measure => simp [intOf]

end Go.Proofs.Ytjmameknbnflaab
