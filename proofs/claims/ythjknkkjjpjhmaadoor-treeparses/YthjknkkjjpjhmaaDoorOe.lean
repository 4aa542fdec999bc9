/-
  Contract: freightlaw7.copied.
-/
import Derived.Test.YthjknkkjjpjhmaaDoorOd
namespace Go.Proofs.YthjknkkjjpjhmaaDoor
open Go.RowKit
set_option linter.unusedVariables false
set_option linter.unusedSimpArgs false

theorem OwnE.far {w : World} {base : Nat} {v : Value} {L : List Ent} (h : OwnE w base v L) (g : Nat) (hg : v.ownBlock = some g) : base ≤ g ∧ g < w.heap.size := by
  obtain ⟨ao, cap, rfl, _, _, hb, _⟩ := h.ents
  cases ao with
  | none => simp [Value.ownBlock] at hg
  | some a =>
    obtain ⟨g', rfl, h1, h2, h3⟩ := hb a rfl
    rw [hg] at h3; cases h3; exact ⟨h1, h2⟩
/-- append(entries, slice...), nil too. -/
theorem run_appEs (w : World) (base : Nat) (v : Value) (A L : List Ent) (h : OwnE w base v A) (ao : Option Addr) (n c : Nat) (hn : L.length = n) (hs : Ents w ao L) (h0 : ao = none → n = 0 ∧ c = 0) (hl : (A.length + n) * 56 ≤ 140737488355328) (hb : base ≤ w.heap.size) :
    ∃ v' w', (Builtin.append_ #[24, 24] 24 #[v, .slice ao n c]).run Tryd.prog w = .ok v' w' ∧ OwnE w' base v' (A ++ L) ∧ Kept v.ownBlock.toList w w' := by
  subst hn
  obtain ⟨i0, hi, hz0, hz1, hz2⟩ := info_parts Tryd.infoEnt3
  cases ao with
  | none =>
    obtain ⟨h1, rfl⟩ := h0 rfl
    have : L = [] := List.eq_nil_of_length_eq_zero h1
    subst this
    exact ⟨v, w, run_append_owned_none (P := Tryd.prog) (w := w) base 24 24 37 i0 34 Tryd.underlying24 hi v A.length (rows A) h.1, by rw [List.append_nil]; exact h, Kept.refl _ _⟩
  | some ad =>
    have hok : ∀ e ∈ L, EntOk e := fun e he => by
      obtain ⟨i, hi, rfl⟩ := List.getElem_of_mem he
      obtain ⟨_, _, _, _, h⟩ := hs i hi
      simpa [List.getD, List.getElem?_eq_getElem hi] using h
    obtain ⟨v', w', hrun, h1', h2, h3, h4⟩ := run_append_own_at (P := Tryd.prog) w base 24 24 37 i0 (.agg zeroE) 34 56 Tryd.underlying24 hi hz0 hz1 hz2 rfl (by omega) v A.length (rows A) h.1 ad L.length c (rows L) (rows_len hok)
      (fun j u hj => by
        have hjl := (List.getElem?_eq_some_iff.1 hj).1
        rw [rows_len hok] at hjl
        have hi' : j / 34 < L.length := by omega
        obtain ⟨b', off', e', hc, hok'⟩ := hs (j / 34) hi'
        cases e'
        have hcl := hok'.len
        have h5 : (L.getD (j / 34) ent0).cells[j % 34]? = some ((L.getD (j / 34) ent0).cells[j % 34]'(by omega)) := List.getElem?_eq_getElem (by omega)
        have h6 := rows_at hok (j / 34) (j % 34) _ hi' h5
        rw [show j / 34 * 34 + j % 34 = j by omega, hj] at h6
        have h7 := hc (j % 34) _ h5
        rw [← Option.some.inj h6] at h7
        rw [Addr.add_mid]
        rw [show off' + j = off' + j / 34 * 34 + j % 34 by omega]
        exact h7) (rows_one L) (by unfold maxLen; omega) (by omega) hb
    refine ⟨v', w', hrun, ⟨?_, fun x hx => ?_⟩, (Kept.refl _ w).grown h2 (fun k hk _ => by simp [hk])⟩
    · rw [List.length_append]
      have : rows (A ++ L) = rows A ++ rows L := by simp [rows]
      rw [this]
      exact h1'
    · simp only [List.mem_append] at hx
      rcases hx with hx | hx
      · exact h.2 x hx
      · exact hok x hx
theorem marks_len : marks.length = 40 := by simp [marks]
theorem marks_take (k : Nat) (h : k < 40) : marks.take (k + 1) = marks.take k ++ [mark k] := by
  rw [List.take_succ_eq_append_getElem (by rw [marks_len]; exact h)]
  simp [marks]

set_option maxHeartbeats 3200000 in
set_option maxRecDepth 100000 in
theorem copied_ok (ao : Option Addr) (n c : Nat) (L : List Ent) (w : World) (hn : L.length = n) (hL : Ents w ao L) (h0 : ao = none → n = 0 ∧ c = 0) (hm : n * 56 ≤ 140737488351232) :
    Calls Tryd.prog 12 #[.slice ao n c] w fun r w' => (∃ g cap, r = .returned (.slice (some ⟨g, 0, none⟩) n cap) ∧ Cp w' w.heap.size g n cap L) ∧ Kept [] w w' := by
  obtain ⟨i0, hi, hz0, hz1, hz2⟩ := info_parts Tryd.infoEnt3
  have hmk := run_make (P := Tryd.prog) w 24 37 i0 (.agg zeroE) Tryd.underlying24 hi hz0 .i64 .i64 0 ((n + 40 : Nat) : Int) (by omega) (by omega) (by rw [hz2]; omega) (by omega)
  rw [hz1] at hmk
  simp only [Int.toNat_zero, Int.toNat_natCast] at hmk
  have ho1 : OwnE (w.alloc (.cells (madeCells (Value.agg zeroE).cells ((n + 40) * 34)) 37)) w.heap.size (.slice (some ⟨w.heap.size, 0, none⟩) 0 (n + 40)) [] :=
    ⟨World.ownsRow_made w _ (n + 40) (Nat.le_refl _) (by unfold maxLen; omega) (size_madeCells _ _), by simp⟩
  have hk1 : Kept [] w (w.alloc (.cells (madeCells (Value.agg zeroE).cells ((n + 40) * 34)) 37)) := (Kept.refl [] w).alloc _
  generalize w.alloc (.cells (madeCells (Value.agg zeroE).cells ((n + 40) * 34)) 37) = w1 at hmk ho1 hk1
  rw [show ((n + 40 : Nat) : Int) = (n : Int) + 40 by omega] at hmk
  obtain ⟨v2, w2, hrun2, ho2, hk2⟩ := run_appEs w1 w.heap.size _ [] L ho1 ao n c hn (hL.kept hk1 (by simp)) h0 (by simp; omega) hk1.size
  rw [List.nil_append] at ho2
  have hk12 : Kept [] w w2 := hk1.trans hk2 (fun g hg hlt => by simp [Value.ownBlock] at hg; omega)
  have H2 : Hid (OwnE w2 w.heap.size v2 L ∧ Kept [] w w2) := ⟨ho2, hk12⟩
  have HN := hide hn
  clear ho1 hk1 ho2 hk2 hk12 hL hn hi hz0 hz1 hz2
  go_enter Tryd.func12, Tryd.ntmps12
  go_wp2_with (refine wpList_app_run rfl (.tmp 8) (.tmp 9) 24 24 rfl (.slice (some ⟨w.heap.size, 0, none⟩) 0 (n + 40)) (.slice ao n c) rfl rfl v2 w2 hrun2 ?_)
  clear hmk hrun2
  go_loopw [3, 4] (fun x y wr => ∃ k : Nat, k ≤ 40 ∧ y = .int .i64 k ∧ Hid (OwnE wr w.heap.size x (L ++ marks.take k) ∧ Kept [] w wr)) (fun x y wr => 40 - (intOf y).toNat)
  case atStart => exact ⟨0, Nat.zero_le _, rfl, by show _ ∧ _; simpa using H2.out⟩
  case round =>
    obtain ⟨k, hk, rfl, HK⟩ := hrel
    by_cases hlt : k < 40
    · have hmr := marked_ok k hlt wr
      have hok := mark_ok hlt
      have HT := hide (marks_take k hlt)
      have hll : (L ++ marks.take k).length = n + k := by rw [List.length_append, List.length_take, marks_len, HN.out]; omega
      generalize mark k = em at hmr hok HT
      go_upto_region 4 with (first
        | (go_at_call 26; refine hmr.mono ?_; rintro r w3 ⟨rfl, hb3⟩; obtain ⟨v4, w4, hrun4, ho4, hk4, hg4⟩ := run_appE w3 w.heap.size u3 (L ++ marks.take k) em (HK.out.1.kept (Kept.of_below hb3) (by simp)) hok (by rw [hll]; omega) (Nat.le_trans HK.out.2.size hb3.size); have H4 : Hid (OwnE w4 w.heap.size v4 (L ++ marks.take (k + 1)) ∧ Kept [] w w4) := ⟨by rw [HT.out, ← List.append_assoc]; exact ho4, (HK.out.2.trans (Kept.of_below hb3) (by simp)).trans (hk4 u3.ownBlock.toList (by simp)) (fun g hg hl2 => by have := (HK.out.1.far g (by simpa using hg)).1; omega)⟩; clear hmr hb3 ho4 hk4 hg4)
        | refine wpList_build1 rfl (.tmp 17) rfl em rfl hok ?_
        | refine wpList_app_run rfl (.tmp 15) (.tmp 18) 24 24 rfl u3 (.slice (some ⟨w3.heap.size, 0, none⟩) 1 1) rfl rfl v4 w4 hrun4 ?_)
      clear hrun4 hok hll HT
      go_wp2
      go_roundw
      case rel => exact ⟨k + 1, by omega, by go_num, H4.out⟩
      case measure => simp [intOf]; omega
    · obtain rfl : k = 40 := by omega
      have ho := HK.out.1
      rw [List.take_of_length_le (by rw [marks_len]; omega)] at ho
      have hll : (L ++ marks).length = n + 40 := by rw [List.length_append, marks_len, HN.out]
      rcases ho.1.2 with ⟨_, h2⟩ | ⟨g, cap, cur, hv, hb, hg, hnn, hc, hs, hta⟩
      · rw [hll] at h2; omega
      · rw [hll] at hv hnn
        subst hv
        have hcut := fun W => Tryd.cutEnt W (some ⟨g, 0, none⟩) (n + 40) cap n (by omega)
        have HC : Hid (Cp wr w.heap.size g n cap L ∧ Kept [] w wr) := ⟨⟨ho, HN.out, hnn⟩, HK.out.2⟩
        clear ho HK hg hs hta hll
        go_wp2
        go_ret
        exact ⟨⟨g, cap, rfl, HC.out.1⟩, HC.out.2⟩
end Go.Proofs.YthjknkkjjpjhmaaDoor
