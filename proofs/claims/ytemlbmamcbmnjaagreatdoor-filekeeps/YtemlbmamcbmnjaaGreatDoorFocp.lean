/-
  freightlaw6.others.
-/
import Derived.Test.YtemlbmamcbmnjaaGreatDoorFobp
namespace Go.Proofs.YtemlbmamcbmnjaaGreatDoor
open Go.RowKit Dsk
set_option linter.unusedVariables false
set_option linter.unusedSimpArgs false

/-- A list of files, made behind w, whose bytes lie where they lay in w. -/
structure Rowf (w wr : World) (v : Value) (L : List (By × By)) (vs : List Value) : Prop where
  len : vs.length = L.length
  row : wr.ownsRow w.heap.size 88 2 v L.length (fcells L vs)
  sl : ∀ (i : Nat) (f : By × By) (u : Value), L[i]? = some f → vs[i]? = some u → ∃ bo bc, u = .slice bo f.2.length bc ∧ Sl w bo f.2
  kept : Kept [] w wr
theorem Rowf.start (w : World) : Rowf w w (.slice none 0 0) [] [] := ⟨rfl, World.ownsRow_nil _ _ _ _, by simp, Kept.refl [] w⟩
theorem Rowf.step {w wr w5 : World} {v v' u : Value} {L : List (By × By)} {vs : List Value} {f : By × By} {bo : Option Addr} {bc : Nat} (h : Rowf w wr v L vs) (hu : u = .slice bo f.2.length bc) (hs : Sl w bo f.2)
    (ho : w5.ownsRow 0 88 2 v' (L.length + 1) (fcells L vs ++ [encStr f.1, u])) (hK : ∀ F : Nat → Prop, (∀ k, v.ownBlock = some k → F k) → Keep F wr w5) (hl : ∀ g, v'.ownBlock = some g → v.ownBlock = some g ∨ wr.heap.size ≤ g) : Rowf w w5 v' (L ++ [f]) (vs ++ [u]) := by
  have hsz := h.kept.size
  refine ⟨by simp [h.len], ?_, fun i f' u' hf hu' => ?_, ?_⟩
  · rw [fcells_snoc h.len]
    refine ⟨by have := ho.1; simpa using this, ?_⟩
    rcases ho.2 with ⟨rfl, h0⟩ | ⟨g, cap, cur, rfl, _, r⟩
    · omega
    · refine .inr ⟨g, cap, cur, by simp, ?_, by simpa using r⟩
      rcases hl g rfl with e | e
      · exact (h.row.lt g e).1
      · omega
  · by_cases hi : i < L.length
    · rw [List.getElem?_append_left hi] at hf
      rw [List.getElem?_append_left (by rw [h.len]; exact hi)] at hu'
      exact h.sl i f' u' hf hu'
    · have hi2 : i = L.length := by
        have := (List.getElem?_eq_some_iff.1 hf).1
        simp at this
        omega
      subst hi2
      rw [List.getElem?_append_right (Nat.le_refl _)] at hf
      rw [List.getElem?_append_right (by rw [h.len]; exact Nat.le_refl _), h.len] at hu'
      simp at hf hu'
      subst hf hu'
      exact ⟨bo, bc, hu, hs⟩
  · have h1 := h.kept
    have hK5 := hK (fun k => w.heap.size ≤ k) (fun k e => (h.row.lt k e).1)
    exact ⟨hK5.os.trans h1.os, hK5.tape.trans h1.tape, hK5.output.trans h1.output, Nat.le_trans h1.size hK5.size, fun i hi _ => (hK5.block i (Nat.lt_of_lt_of_le hi h1.size) (by omega)).trans (h1.block i hi (by simp))⟩
theorem Rowf.fis {w wr w' : World} {ao : Option Addr} {n c : Nat} {L : List (By × By)} {vs : List Value} (h : Rowf w wr (.slice ao n c) L vs) (hk : Kept [] wr w') : Fis w' ao L ∧ n = L.length := by
  have hn : n = L.length := by
    rcases h.row.2 with ⟨e, e2⟩ | ⟨g, cap, cur, e, _⟩
    · injection e with _ e _; omega
    · injection e
  refine ⟨fun i hi => ?_, hn⟩
  have hv : i < vs.length := by rw [h.len]; exact hi
  obtain ⟨q1, q2⟩ := fcells_get L vs i _ _ h.len (List.getElem?_eq_getElem hi) (List.getElem?_eq_getElem hv)
  obtain ⟨bo, bc, e, hs⟩ := h.sl i _ _ (List.getElem?_eq_getElem hi) (List.getElem?_eq_getElem hv)
  rw [e] at q2
  rcases h.row.2 with ⟨e, e2⟩ | ⟨g, cap, cur, e, _⟩
  · omega
  · injection e with e _ _
    subst e
    refine ⟨g, rfl, _, List.getElem?_eq_getElem hi, ?_, bo, bc, ?_, hs.kept (h.kept.trans hk (by simp)) (by simp)⟩
    · have := h.row.cells (g := g) rfl _ _ q1
      rw [add0] at this
      exact hk.cellOf this (by simp)
    · have := h.row.cells (g := g) rfl _ _ q2
      rw [add0] at this
      exact hk.cellOf this (by simp)
/-- The files but two. -/
def flt (one two : By) (L : List (By × By)) : List (By × By) := L.filter (fun f => !(f.1 == one) && !(f.1 == two))
theorem flt_take (one two : By) (L : List (By × By)) (k : Nat) (f : By × By) (h : L[k]? = some f) : flt one two (L.take (k + 1)) = flt one two (L.take k) ++ (if f.1 = one ∨ f.1 = two then [] else [f]) := by
  rw [List.take_add_one, h]
  unfold flt
  rw [List.filter_append]
  congr 1
  by_cases h1 : f.1 = one
  · simp [h1]
  · by_cases h2 : f.1 = two
    · simp [h2]
    · simp [h1, h2]
theorem Rowf.app {w wr : World} {fo : Option Addr} {m fc : Nat} {L : List (By × By)} {vs : List Value} {x d : By} {bo : Option Addr} {bc : Nat} (h : Rowf w wr (.slice fo m fc) L vs) (hm : m ≤ 4194304) (hs : Sl w bo d) :
    ∃ g c w5, (Builtin.append_ #[36, 36] 36 #[.slice fo m fc, .slice (some ⟨wr.heap.size, 0, none⟩) 1 1]).run Tryz.prog (wr.alloc (.cells #[encStr x, .slice bo d.length bc] 88)) = .ok (.slice (some ⟨g, 0, none⟩) (m + 1) c) w5 ∧ Hid (∃ vs', Rowf w w5 (.slice (some ⟨g, 0, none⟩) (m + 1) c) (L ++ [(x, d)]) vs') := by
  have hn : m = L.length := (h.fis (Kept.refl [] wr)).2
  have hr4 := ownsRow_base_a h.row (Nat.zero_le _)
  rw [← hn] at hr4
  obtain ⟨g, c, w', e1, e2, e3, e4, _⟩ := run_app (P := Tryz.prog) wr 36 36 88 Tryz.underlying36 Tryz.infoFile rfl (by decide) _ m _ hr4 [encStr x, .slice bo d.length bc] rfl (fun z hz => by simp only [List.mem_cons, List.not_mem_nil, or_false] at hz; rcases hz with rfl | rfl <;> rfl) (by unfold maxLen; omega) (by omega)
  refine ⟨g, c, w', e1, hide ⟨_, h.step (f := (x, d)) rfl hs (by rw [← hn]; exact e2) e3 (fun g' hg' => ?_)⟩⟩
  simp only [Value.ownBlock, Option.some.injEq] at hg'
  subst hg'
  rcases e4 with e | e
  · exact .inl e.symm
  · exact .inr e

set_option maxHeartbeats 1600000 in
set_option maxRecDepth 100000 in
theorem others_yes (a1 a2 : Option Addr) (n1 c1 n2 c2 : Nat) (L1 L2 : List (By × By)) (one two : By) (w : World) (hx1 : L1.length = n1) (hx2 : L2.length = n2) (hm1 : n1 ≤ 4194304) (hm2 : n2 ≤ 4194304) (hM : ∀ f ∈ L1, f.2.length ≤ 4611686018427387904) (h1 : Fis w a1 L1) (h2 : Fis w a2 L2) (he : flt one two L1 = flt one two L2) :
    Calls Tryz.prog 24 #[.slice a1 n1 c1, .slice a2 n2 c2, encStr one, encStr two] w fun e w' => e = .returned (.bool true) ∧ Kept [] w w' := by
  have HX1 := hide hx1
  have HX2 := hide hx2
  have HM := hide hM
  have H1 := hide h1
  have H2 := hide h2
  have HE := hide he
  clear hx1 hx2 hM h1 h2 he
  go_enter Tryz.func24, Tryz.ntmps24
  go_wp2
  go_loopw [9, 11] (fun f i wr => ∃ (k m : Nat) (fo : Option Addr) (fc : Nat), k ≤ n1 ∧ i = .int .i64 k ∧ f = .slice fo m fc ∧ m ≤ k ∧ Hid (∃ vs, Rowf w wr (.slice fo m fc) (flt one two (L1.take k)) vs)) (fun f i wr => n1 - (intOf i).toNat)
  case atStart => exact ⟨0, 0, none, 0, Nat.zero_le _, rfl, rfl, Nat.le_refl _, hide ⟨[], Rowf.start w⟩⟩
  case round =>
    obtain ⟨k, m, fo, fc, hk, rfl, rfl, hmk, HR⟩ := hrel
    by_cases hlt : k < n1
    · obtain ⟨b1, rfl, ⟨x, d⟩, hs, e1, bo1, bc1, e2, s1⟩ := H1.out k (by rw [HX1.out]; exact hlt)
      obtain ⟨vs, hR⟩ := HR.out
      replace e1 := hR.kept.cellOf e1 (by simp)
      replace e2 := hR.kept.cellOf e2 (by simp)
      have htk := flt_take one two L1 k _ hs
      dsimp only at htk e1 e2 s1
      by_cases ho : x = one
      · rw [if_pos (.inl ho), List.append_nil] at htk
        have HT := hide htk
        have HRR : Hid (∃ vs, Rowf w wr (.slice fo m fc) (flt one two (L1.take (k + 1))) vs) := hide (by rw [htk]; exact ⟨vs, hR⟩)
        subst ho
        clear hR htk hs s1 e2 HR
        go_wp2
        go_roundw
        case rel => exact ⟨k + 1, m, fo, fc, by omega, by go_num, rfl, by omega, HRR⟩
        case measure => simp [intOf]; omega
      · by_cases ho2 : x = two
        · rw [if_pos (.inr ho2), List.append_nil] at htk
          have HRR : Hid (∃ vs, Rowf w wr (.slice fo m fc) (flt one two (L1.take (k + 1))) vs) := hide (by rw [htk]; exact ⟨vs, hR⟩)
          subst ho2
          have hb : (x == one) = false := by simpa using ho
          have hb' : (x != one) = true := by simpa using ho
          clear hR htk hs s1 e2 HR ho
          go_wp2
          go_roundw
          case rel => exact ⟨k + 1, m, fo, fc, by omega, by go_num, rfl, by omega, HRR⟩
          case measure => simp [intOf]; omega
        · rw [if_neg (by rintro (h | h); exact ho h; exact ho2 h)] at htk
          obtain ⟨ga, gc, w5, hap, H5⟩ := hR.app (x := x) (d := d) (bo := bo1) (bc := bc1) (by omega) s1
          rw [← htk] at H5
          have hb : (x == one) = false := by simpa using ho
          have hb' : (x != one) = true := by simpa using ho
          have hc : (x == two) = false := by simpa using ho2
          have hc' : (x != two) = true := by simpa using ho2
          clear hR htk hs s1 HR ho ho2
          generalize d.length = z at e2 hap
          go_wp2_with (at_builtin; refine wpList_app_run rfl _ _ 36 36 rfl _ _ rfl rfl _ _ hap ?_)
          go_roundw
          case rel => exact ⟨k + 1, m + 1, _, _, by omega, by go_num, rfl, by omega, H5⟩
          case measure => simp [intOf]; omega
    · have hkn : k = n1 := by omega
      subst hkn
      have HT : Hid (L1.take k = L1) := hide (List.take_of_length_le (by rw [HX1.out]; exact Nat.le_refl _))
      rw [HT.out] at HR
      clear HT
      have HXR := HR
      have hxm := hmk
      have HK1 : Hid (Kept [] w wr) := hide (by
        obtain ⟨vs, hR⟩ := HR.out
        exact hR.kept)
      replace H2 := hide (H2.out.kept HK1.out)
      clear HR hmk
      generalize fo = xo at *
      generalize m = xm at *
      generalize fc = xc at *
      generalize wr = w2 at *
      go_wp2
      go_loopw [10, 12] (fun f i wr => ∃ (k m : Nat) (fo : Option Addr) (fc : Nat), k ≤ n2 ∧ i = .int .i64 k ∧ f = .slice fo m fc ∧ m ≤ k ∧ Hid (∃ vs, Rowf w2 wr (.slice fo m fc) (flt one two (L2.take k)) vs)) (fun f i wr => n2 - (intOf i).toNat)
      case atStart => exact ⟨0, 0, none, 0, Nat.zero_le _, rfl, rfl, Nat.le_refl _, hide ⟨[], Rowf.start w2⟩⟩
      case round =>
        obtain ⟨k, m, fo, fc, hk, rfl, rfl, hmk, HR⟩ := hrel
        by_cases hlt : k < n2
        · obtain ⟨b1, rfl, ⟨x, d⟩, hs, e1, bo1, bc1, e2, s1⟩ := H2.out k (by rw [HX2.out]; exact hlt)
          obtain ⟨vs, hR⟩ := HR.out
          replace e1 := hR.kept.cellOf e1 (by simp)
          replace e2 := hR.kept.cellOf e2 (by simp)
          have htk := flt_take one two L2 k _ hs
          dsimp only at htk e1 e2 s1
          by_cases ho : x = one
          · rw [if_pos (.inl ho), List.append_nil] at htk
            have HT := hide htk
            have HRR : Hid (∃ vs, Rowf w2 wr (.slice fo m fc) (flt one two (L2.take (k + 1))) vs) := hide (by rw [htk]; exact ⟨vs, hR⟩)
            subst ho
            clear hR htk hs s1 e2 HR
            go_wp2
            go_roundw
            case rel => exact ⟨k + 1, m, fo, fc, by omega, by go_num, rfl, by omega, HRR⟩
            case measure => simp [intOf]; omega
          · by_cases ho2 : x = two
            · rw [if_pos (.inr ho2), List.append_nil] at htk
              have HRR : Hid (∃ vs, Rowf w2 wr (.slice fo m fc) (flt one two (L2.take (k + 1))) vs) := hide (by rw [htk]; exact ⟨vs, hR⟩)
              subst ho2
              have hb : (x == one) = false := by simpa using ho
              have hb' : (x != one) = true := by simpa using ho
              clear hR htk hs s1 e2 HR ho
              go_wp2
              go_roundw
              case rel => exact ⟨k + 1, m, fo, fc, by omega, by go_num, rfl, by omega, HRR⟩
              case measure => simp [intOf]; omega
            · rw [if_neg (by rintro (h | h); exact ho h; exact ho2 h)] at htk
              obtain ⟨ga, gc, w5, hap, H5⟩ := hR.app (x := x) (d := d) (bo := bo1) (bc := bc1) (by omega) s1
              rw [← htk] at H5
              have hb : (x == one) = false := by simpa using ho
              have hb' : (x != one) = true := by simpa using ho
              have hc : (x == two) = false := by simpa using ho2
              have hc' : (x != two) = true := by simpa using ho2
              clear hR htk hs s1 HR ho ho2
              generalize d.length = z at e2 hap
              go_wp2_with (at_builtin; refine wpList_app_run rfl _ _ 36 36 rfl _ _ rfl rfl _ _ hap ?_)
              go_roundw
              case rel => exact ⟨k + 1, m + 1, _, _, by omega, by go_num, rfl, by omega, H5⟩
              case measure => simp [intOf]; omega
        · have hkn : k = n2 := by omega
          subst hkn
          have HT : Hid (L2.take k = L2) := hide (List.take_of_length_le (by rw [HX2.out]; exact Nat.le_refl _))
          rw [HT.out] at HR
          clear HT
          have HF : Hid (Calls Tryz.prog 20 #[.slice xo xm xc, .slice fo m fc] wr fun e w' => e = .returned (.bool true) ∧ ∃ k, w' = wr.drewN k) := hide (by
            obtain ⟨vs1, hR1⟩ := HXR.out
            obtain ⟨vs2, hR2⟩ := HR.out
            obtain ⟨q1, q2⟩ := hR1.fis hR2.kept
            obtain ⟨q3, q4⟩ := hR2.fis (Kept.refl [] wr)
            rw [← HE.out] at q3 q4
            obtain rfl : xm = m := by omega
            exact files6_yes xo fo xm xc fc _ wr q2.symm (by omega) (fun f hf => HM.out f (List.mem_filter.1 hf).1) q1 q3)
          have HKK : Hid (Kept [] w wr) := hide (by
            obtain ⟨vs1, hR1⟩ := HXR.out
            obtain ⟨vs2, hR2⟩ := HR.out
            exact hR1.kept.trans hR2.kept (by simp))
          go_wp2_with (go_at_call 20; refine HF.out.mono ?_; rintro e w6 ⟨rfl, hw6⟩; have H6 := hide hw6; clear hw6)
          go_ret
          obtain ⟨kk, h6⟩ := H6.out
          exact ⟨rfl, by rw [h6]; exact HKK.out.drewN _⟩
end Go.Proofs.YtemlbmamcbmnjaaGreatDoor
