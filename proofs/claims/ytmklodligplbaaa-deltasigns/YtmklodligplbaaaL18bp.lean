/-
  Contracts: freightref18.sized, Sign. (Written by tools/l18b.py.)
-/
import Derived.Test.YtmklodligplbaaaL18ap
import Derived.Test.YtmklodligplbaaaDr5p
namespace Go.Proofs.Ytmklodligplbaaa
open Go.RowKit
open Dlt
set_option linter.unusedVariables false
set_option linter.unusedSimpArgs false

theorem rof_ok (width : Int) (ao : Option Addr) (n cap : Nat) (m : List UInt8) (w : World) (hn : m.length = n) (hlen : n ≤ 140737488351232) (hs : Sl w ao m) (hnl : ao = none → m = [] ∧ cap = 0) :
    Calls Try.prog 27 #[.int .i64 width, .slice ao n cap] w fun e w' => e = .returned (.agg (bys (Sha.ident width m)).toArray) ∧ Kept [] w w' :=
  (rof_of width ao cap m w n fun w1 hb => rfull_any ao cap m w1 n hn hlen (hs.kept (Kept.of_below hb) (by simp)) hnl).mono fun e w' h => ⟨h.1, Kept.of_below h.2⟩
theorem Try.builtW1a (f : Nat → UInt8) (x : Int) (W : World) : (Instr.buildSlice 27 1 #[(0, .agg (.int .i64 x :: bys ((List.range 32).map f)).toArray)]).run Try.prog W = .ok (.slice (some ⟨W.heap.size, 0, none⟩) 1 1) (W.alloc (.cells (.int .i64 x :: bys ((List.range 32).map f)).toArray 45)) := by kernel_rfl
theorem Try.builtW1 (e : Wk) (W : World) : (Instr.buildSlice 27 1 #[(0, .agg e.cells.toArray)]).run Try.prog W = .ok (.slice (some ⟨W.heap.size, 0, none⟩) 1 1) (W.alloc (.cells e.cells.toArray 45)) := by
  have h := Try.builtW1a (fun i => e.id.getD i 0) e.sum W
  rw [range32 e.hid] at h
  exact h
/-- append(list, block). -/
theorem OwnW.add {w : World} {base : Nat} {v : Value} {L : List Wk} (h : OwnW w base v L) (hb : base ≤ w.heap.size) (N : Nat) (e : Wk) (hN : w.rangeAt N 0 e.cells) (hl : L.length ≤ 1000000) :
    ∃ v' w', (Builtin.append_ #[27, 27] 27 #[v, .slice (some ⟨N, 0, none⟩) 1 1]).run Try.prog w = .ok v' w' ∧ OwnW w' base v' (L ++ [e]) ∧ Kept v.ownBlock.toList w w' := by
  obtain ⟨i0, hi, hz0, hz1, hz2⟩ := info_parts Try.infoWeak
  obtain ⟨v', w', hrun, h4, h5, _, _⟩ := run_append_own_at (P := Try.prog) w base 27 27 45 i0 (.agg zeroK) 33 40 Try.underlying27 hi hz0 hz1 hz2 rfl (by decide) v _ _ h ⟨N, 0, none⟩ 1 1 e.cells (by rw [e.len]) (fun j u hv => by
      rw [Addr.add_mid]; exact hN j u hv) (wk_one e) (by unfold maxLen; omega) (by omega) hb
  refine ⟨v', w', hrun, ?_, (Kept.refl _ w).grown h5 (fun g hg _ => by rw [hg]; simp)⟩
  unfold OwnW
  rw [List.length_append, wrows_app, show wrows [e] = e.cells by simp [wrows]]
  exact h4

theorem wp_buildSl9 {o : Oper} {a : Act} {w : World} {K : Act → World → Prop} {Q : Exit → Act → World → Prop} (t : TypeId) (n : Nat) (parts : Array (Nat × Operand)) (ho : o.op = .buildSlice t n parts) (vals : Array (Nat × Value)) (hv : (parts.map fun (i, x) => (i, a.eval x)) = vals) {v : Value} {w' : World} (hrun : (Instr.buildSlice t n vals).run Try.prog w = .ok v w') (h : K (a.put o.dst v) w') : o.wp Try.prog a w K Q := by
  unfold Oper.wp execOp
  simp only [ho, hv, Sem.run_bind, hrun, Result.andThen_ok]
  exact h
set_option maxHeartbeats 1600000 in
theorem rsized_ok (x z : Int) (w : World) :
    Calls Try.prog 26 #[.int .i64 x, .int .i64 z] w fun e w' => e = .returned (.bool (isW x && isZ z)) ∧ w' = w := by
  have HR : Hid ((isW x && isZ z) = (decide (1 ≤ x) && decide (x ≤ 32) && decide (16 ≤ z) && decide (z ≤ 4096))) := by
    show _ = _
    rw [Bool.eq_iff_iff]
    simp only [Bool.and_eq_true, decide_eq_true_eq, isW, isZ, Dlt.within_iff]
    omega
  by_cases h1 : 1 ≤ x <;> by_cases h2 : x ≤ 32 <;> by_cases h3 : 16 ≤ z <;> by_cases h4 : z ≤ 4096 <;>
    (go_enter Try.func26, Try.ntmps26; go_wp2; go_ret; exact ⟨by rw [HR.out]; simp [h1, h2, h3, h4], rfl⟩)

set_option maxHeartbeats 6400000 in
set_option maxRecDepth 100000 in
theorem rsign_arg (width : Int) (ao : Option Addr) (n cap : Nat) (size : Int) (xs : List UInt8) (w : World) (h : InB8 w ao n cap xs) (hm : n ≤ 140737488351232) (hg : (isW width && isZ size) = false) :
    Calls Try.prog 9 #[.int .i64 width, .slice ao n cap, .int .i64 size] w fun e w' => TellS w w' e 1 sig0 ∧ Kept [] w w' := by
  have hz := Try.zeroSig
  have hbz := Try.builtSigZ
  have hnz : (w.alloc (.cells zeroS 29)).heap[w.heap.size]? = some (.cells zeroS 29 (0, 0)) := heap_new w _
  have hK0 : Kept [] w (w.alloc (.cells zeroS 29)) := (Kept.refl [] w).alloc _
  have hi0 : (Try.prog.info? 29).map (·.size) = some zeroS.size := Try.infoSigA sig0 (.slice none 0 0)
  have ha0 : zeroS.all (·.oneCell') = true := sig_one sig0 _ rfl
  have H := hide h
  clear h
  have h1 := rsized_ok width size (w.alloc (.cells zeroS 29))
  rw [hg] at h1
  clear hg
  obtain ⟨R, hR⟩ : ∃ R, w.heap.size = R := ⟨_, rfl⟩
  rw [hR] at hnz
  have hK : Kept [] w ((w.alloc (.cells zeroS 29)).setRow R zeroS) := hK0.trans (kept_row _ _ _) (by simp; omega)
  go_enter Try.func9, Try.ntmps9
  go_wp2_with (first
    | (go_at_call 26; refine h1.mono ?_; rintro r w' ⟨rfl, hw⟩; obtain rfl := hw.symm)
    | refine wpList_buildRun8 rfl 29 #[] rfl #[] rfl _ (hbz _) ?_
    | refine wpList_store_rowTo rfl 29 (.tmp 6) (.tmp 16) rfl rfl R zeroS rfl rfl 29 zeroS hnz hi0 rfl ha0 ?_)
  exact ret_row_slot rfl rfl R 29 zeroS (0, 0) _ rfl (setRow_heap _ _ _ _ _ _ hnz) Try.underlying29 rfl hi0 ⟨⟨.slice none 0 0, rfl, World.ownsRow_nil _ _ _ _⟩, hK⟩

set_option maxHeartbeats 6400000 in
set_option maxRecDepth 100000 in
theorem rsign_long (width : Int) (ao : Option Addr) (n cap : Nat) (Z : Nat) (xs : List UInt8) (w : World) (h : InB8 w ao n cap xs) (hm : n ≤ 140737488351232) (hg : (isW width && isZ (Z : Int)) = true) (hl : 131072 < n) :
    Calls Try.prog 9 #[.int .i64 width, .slice ao n cap, .int .i64 Z] w fun e w' => TellS w w' e 2 sig0 ∧ Kept [] w w' := by
  have hz := Try.zeroSig
  have hbz := Try.builtSigZ
  have hnz : (w.alloc (.cells zeroS 29)).heap[w.heap.size]? = some (.cells zeroS 29 (0, 0)) := heap_new w _
  have hK0 : Kept [] w (w.alloc (.cells zeroS 29)) := (Kept.refl [] w).alloc _
  have hi0 : (Try.prog.info? 29).map (·.size) = some zeroS.size := Try.infoSigA sig0 (.slice none 0 0)
  have ha0 : zeroS.all (·.oneCell') = true := sig_one sig0 _ rfl
  have H := hide h
  clear h
  have h1 := rsized_ok width (Z : Int) (w.alloc (.cells zeroS 29))
  rw [hg] at h1
  have hz2 : isZ (Z : Int) = true := by rw [Bool.and_eq_true] at hg; exact hg.2
  rw [isZ, Dlt.within_iff] at hz2
  have hz16 : 16 ≤ Z := by omega
  have hz40 : Z ≤ 4096 := by omega
  clear hg hz2
  obtain ⟨R, hR⟩ : ∃ R, w.heap.size = R := ⟨_, rfl⟩
  rw [hR] at hnz
  have hK : Kept [] w ((w.alloc (.cells zeroS 29)).setRow R zeroS) := hK0.trans (kept_row _ _ _) (by simp; omega)
  go_enter Try.func9, Try.ntmps9
  go_wp2_with (first
    | (go_at_call 26; refine h1.mono ?_; rintro r w' ⟨rfl, hw⟩; obtain rfl := hw.symm)
    | refine wpList_buildRun8 rfl 29 #[] rfl #[] rfl _ (hbz _) ?_
    | refine wpList_store_rowTo rfl 29 (.tmp 6) (.tmp 21) rfl rfl R zeroS rfl rfl 29 zeroS hnz hi0 rfl ha0 ?_)
  exact ret_row_slot rfl rfl R 29 zeroS (0, 0) _ rfl (setRow_heap _ _ _ _ _ _ hnz) Try.underlying29 rfl hi0 ⟨⟨.slice none 0 0, rfl, World.ownsRow_nil _ _ _ _⟩, hK⟩

set_option maxHeartbeats 6400000 in
set_option maxRecDepth 100000 in
theorem rsign_parts (width : Int) (ao : Option Addr) (n cap : Nat) (Z c : Nat) (xs : List UInt8) (w : World) (h : InB8 w ao n cap xs) (hm : n ≤ 140737488351232) (hg : (isW width && isZ (Z : Int)) = true) (hl : n ≤ 131072) (hcq : n / Z = c) (hp : 2048 < c) :
    Calls Try.prog 9 #[.int .i64 width, .slice ao n cap, .int .i64 Z] w fun e w' => TellS w w' e 183 sig0 ∧ Kept [] w w' := by
  have hz := Try.zeroSig
  have hbz := Try.builtSigZ
  have hnz : (w.alloc (.cells zeroS 29)).heap[w.heap.size]? = some (.cells zeroS 29 (0, 0)) := heap_new w _
  have hK0 : Kept [] w (w.alloc (.cells zeroS 29)) := (Kept.refl [] w).alloc _
  have hi0 : (Try.prog.info? 29).map (·.size) = some zeroS.size := Try.infoSigA sig0 (.slice none 0 0)
  have ha0 : zeroS.all (·.oneCell') = true := sig_one sig0 _ rfl
  have H := hide h
  clear h
  have h1 := rsized_ok width (Z : Int) (w.alloc (.cells zeroS 29))
  rw [hg] at h1
  have hz2 : isZ (Z : Int) = true := by rw [Bool.and_eq_true] at hg; exact hg.2
  rw [isZ, Dlt.within_iff] at hz2
  have hz16 : 16 ≤ Z := by omega
  have hz40 : Z ≤ 4096 := by omega
  clear hg hz2
  have hl2 : ¬ 131072 < n := by omega
  have hdiv : (n : Int).tdiv (Z : Int) = (c : Int) := by rw [← hcq, Int.ofNat_tdiv]
  have hz0 : ((Z : Int) == 0) = false := by simp; omega
  have hzn : ¬ Z = 0 := by omega
  have hcn : c ≤ 131072 := by rw [← hcq]; exact Nat.le_trans (Nat.div_le_self _ _) hl
  have hcw : IntKind.i64.wrap (c : Int) = (c : Int) := wrap64 (by omega) (by omega)
  have HCQ := hide hcq
  clear hcq
  obtain ⟨R, hR⟩ : ∃ R, w.heap.size = R := ⟨_, rfl⟩
  rw [hR] at hnz
  have hK : Kept [] w ((w.alloc (.cells zeroS 29)).setRow R zeroS) := hK0.trans (kept_row _ _ _) (by simp; omega)
  go_enter Try.func9, Try.ntmps9
  go_wp2_with (first
    | (go_at_call 26; refine h1.mono ?_; rintro r w' ⟨rfl, hw⟩; obtain rfl := hw.symm)
    | refine wpList_buildRun8 rfl 29 #[] rfl #[] rfl _ (hbz _) ?_
    | refine wpList_store_rowTo rfl 29 (.tmp 6) (.tmp 28) rfl rfl R zeroS rfl rfl 29 zeroS hnz hi0 rfl ha0 ?_)
  exact ret_row_slot rfl rfl R 29 zeroS (0, 0) _ rfl (setRow_heap _ _ _ _ _ _ hnz) Try.underlying29 rfl hi0 ⟨⟨.slice none 0 0, rfl, World.ownsRow_nil _ _ _ _⟩, hK⟩

set_option maxHeartbeats 6400000 in
set_option maxRecDepth 100000 in
theorem rsign_good (width : Int) (ao : Option Addr) (n cap : Nat) (Z c : Nat) (xs : List UInt8) (w : World) (h : InB8 w ao n cap xs) (hm : n ≤ 140737488351232) (hg : (isW width && isZ (Z : Int)) = true) (hl : n ≤ 131072) (hcq : n / Z = c) (hp : c ≤ 2048) :
    Calls Try.prog 9 #[.int .i64 width, .slice ao n cap, .int .i64 Z] w fun e w' => TellS w w' e 0 (sign width xs Z) ∧ Kept [] w w' := by
  have hz := Try.zeroSig
  have hbz := Try.builtSigZ
  have hnz : (w.alloc (.cells zeroS 29)).heap[w.heap.size]? = some (.cells zeroS 29 (0, 0)) := heap_new w _
  have hK0 : Kept [] w (w.alloc (.cells zeroS 29)) := (Kept.refl [] w).alloc _
  have hi0 : (Try.prog.info? 29).map (·.size) = some zeroS.size := Try.infoSigA sig0 (.slice none 0 0)
  have ha0 : zeroS.all (·.oneCell') = true := sig_one sig0 _ rfl
  have H := hide h
  clear h
  have h1 := rsized_ok width (Z : Int) (w.alloc (.cells zeroS 29))
  rw [hg] at h1
  have hz2 : isZ (Z : Int) = true := by rw [Bool.and_eq_true] at hg; exact hg.2
  rw [isZ, Dlt.within_iff] at hz2
  have hz16 : 16 ≤ Z := by omega
  have hz40 : Z ≤ 4096 := by omega
  clear hg hz2
  have hl2 : ¬ 131072 < n := by omega
  have hdiv : (n : Int).tdiv (Z : Int) = (c : Int) := by rw [← hcq, Int.ofNat_tdiv]
  have hz0 : ((Z : Int) == 0) = false := by simp; omega
  have hzn : ¬ Z = 0 := by omega
  have hcn : c ≤ 131072 := by rw [← hcq]; exact Nat.le_trans (Nat.div_le_self _ _) hl
  have hcw : IntKind.i64.wrap (c : Int) = (c : Int) := wrap64 (by omega) (by omega)
  have HCQ := hide hcq
  clear hcq
  have hp2 : ¬ 2048 < c := by omega
  obtain ⟨sg, hsg⟩ : ∃ sg, sign width xs Z = sg := ⟨_, rfl⟩
  have HSG : Hid (sg.width = width ∧ sg.size = (Z : Nat) ∧ sg.length = (n : Nat) ∧ sg.base = Sha.ident width xs ∧ sg.blocks = weaks width Z xs c) := by
    rw [← hsg]
    refine ⟨rfl, rfl, ?_, rfl, ?_⟩
    · show ((xs.length : Nat) : Int) = _; rw [H.out.len]
    · show weaks width Z xs (xs.length / Z) = _; rw [H.out.len, HCQ.out]
  rw [hsg]
  clear hsg
  obtain ⟨R, hR⟩ : ∃ R, w.heap.size = R := ⟨_, rfl⟩
  rw [hR] at hnz
  go_enter Try.func9, Try.ntmps9
  go_upto_region 1 with (fail)
  have HRW := hide hR
  clear hR
  generalize w.alloc (.cells zeroS 29) = w1 at *
  have hof := rof_ok width ao n cap xs w1 H.out.len hm (H.out.sl.kept hK0 (by simp)) H.out.nil
  have hbs : ∀ W, (Instr.build 29 #[(0, .int .i64 width), (1, .int .i64 Z), (2, .int .i64 n), (3, .agg (bys (Sha.ident width xs)).toArray)]).run Try.prog W = .ok (.agg (sg.cells (.slice none 0 0)).toArray) W := fun W => by
    have h := Try.builtSig sg W
    rw [HSG.out.1, HSG.out.2.1, HSG.out.2.2.1, HSG.out.2.2.2.1] at h
    exact h
  go_upto_region 8 with (first
    | (go_at_call 26; refine h1.mono ?_; rintro r w' ⟨rfl, hw⟩; obtain rfl := hw.symm; clear h1)
    | (go_at_call 27; refine hof.mono ?_; rintro r w2 ⟨rfl, hk2⟩; have H2 := hide hk2; have hoz := heap_new w2 (.cells zeroS 29); have hia := Try.infoSigA sg (.slice none 0 0); have hzs : zeroS.size = (sg.cells (.slice none 0 0)).toArray.size := (by rw [sig_size]; exact sig_size _ _); have hal := sig_one sg (.slice none 0 0) rfl; clear hof hk2)
    | refine wpList_buildRun8 rfl 29 #[(0, .tmp 29), (1, .tmp 30), (2, .tmp 32), (3, .tmp 35)] rfl #[(0, .int .i64 width), (1, .int .i64 Z), (2, .int .i64 n), (3, .agg (bys (Sha.ident width xs)).toArray)] (by simp [Act.eval]) _ (hbs _) ?_
    | refine wpList_store_rowTo rfl 29 (.tmp 8) (.tmp 36) rfl rfl w2.heap.size (sg.cells (.slice none 0 0)).toArray rfl rfl 29 zeroS hoz hia hzs hal ?_)
  have kb : Kept [] w2 ((w2.alloc (.cells zeroS 29)).setRow w2.heap.size (sg.cells (.slice none 0 0)).toArray) := ((Kept.refl [] w2).alloc _).trans (kept_row _ w2.heap.size _) (fun i hi hl => by simp only [List.mem_singleton] at hi; omega)
  have hA : SigAt ((w2.alloc (.cells zeroS 29)).setRow w2.heap.size (sg.cells (.slice none 0 0)).toArray) w2.heap.size sg (.slice none 0 0) := ⟨setRow_heap _ _ _ _ _ _ hoz⟩
  obtain ⟨S, hS⟩ : ∃ S, w2.heap.size = S := ⟨_, rfl⟩
  have HRS : Hid (R < S) := by show R < S; rw [← hS]; exact Nat.lt_of_lt_of_le (Array.getElem?_eq_some_iff.1 hnz).1 H2.out.size
  rw [hS] at kb hA ⊢
  have hnr := (kb.block R (Nat.lt_of_lt_of_le (Array.getElem?_eq_some_iff.1 hnz).1 H2.out.size) (by simp)).trans ((H2.out.block R (Array.getElem?_eq_some_iff.1 hnz).1 (by simp)).trans hnz)
  have HKb := hide ((hK0.trans H2.out (by simp)).trans kb (by simp))
  clear hS hoz hia hzs hal kb H2 hnz hK0 hbs
  generalize (w2.alloc (.cells zeroS 29)).setRow S (sg.cells (.slice none 0 0)).toArray = wb at hA hnr HKb ⊢
  obtain ⟨B, hB⟩ : ∃ B, wb.heap.size = B := ⟨_, rfl⟩
  have HSB : Hid (S < B ∧ R < S ∧ w.heap.size = R) := ⟨by rw [← hB]; exact hA.lt, HRS.out, HRW.out⟩
  have HIN : Hid (∃ v, OwnW wb B v (weaks width Z xs 0) ∧ SigAt wb S sg v ∧ wb.heap[R]? = some (.cells zeroS 29 (0, 0)) ∧ Kept [] w wb ∧ B ≤ wb.heap.size) := ⟨.slice none 0 0, World.ownsRow_nil _ _ _ _, hA, hnr, HKb.out, by rw [hB]; exact Nat.le_refl _⟩
  clear hA hnr HKb hB HRS HRW
  go_wp2
  go_loopw [9] (fun x wr => ∃ k f : Nat, k ≤ c ∧ f = k * Z ∧ f ≤ 131072 ∧ x = .int .i64 f ∧ Hid (∃ v, OwnW wr B v (weaks width Z xs k) ∧ SigAt wr S sg v ∧ wr.heap[R]? = some (.cells zeroS 29 (0, 0)) ∧ Kept [] w wr ∧ B ≤ wr.heap.size)) (fun x wr => n - (intOf x).toNat)
  case atStart => exact ⟨0, 0, Nat.zero_le _, by simp, by omega, rfl, HIN⟩
  case round =>
    clear HIN
    obtain ⟨k, f, hk, hf, hf13, rfl, HP⟩ := hrel
    obtain ⟨v, hO, hA, hnr, hkk, hBs⟩ := HP.out
    clear HP
    have HF := hide hf
    clear hf
    by_cases hlt : k < c
    · have hkz : f + Z ≤ n := by
        have h : (k + 1) * Z ≤ c * Z := Nat.mul_le_mul_right Z hlt
        rw [Nat.add_mul, Nat.one_mul, ← HF.out] at h
        have := Nat.div_mul_le_self n Z
        rw [HCQ.out] at this
        omega
      have hxl := H.out.len
      have hne : xs ≠ [] := by rintro rfl; simp at hxl; omega
      obtain ⟨b, off, rfl, hbl, hcell⟩ := H.out.sl.open hne
      have hsl : Sl wr (some ⟨b, off + f, none⟩) (blk Z xs k) := by
        have := (H.out.sl.kept hkk (by simp)).cut f Z (by rw [hxl]; exact hkz)
        unfold blk
        rw [← HF.out]
        exact this
      have hblen : (blk Z xs k).length = Z := by unfold blk; rw [List.length_take, List.length_drop, hxl, ← HF.out]; omega
      have hcut : ∀ W, (Instr.slice 22 (.slice (some ⟨b, off, none⟩) n cap) (some (.int .i64 f)) (some (.int .i64 ((f + Z : Nat) : Int))) none).run Try.prog W = .ok (.slice (some ⟨b, off + f, none⟩) Z (cap - f)) W := fun W => cut2 W b off n cap f (f + Z) Z (by omega) (by omega) H.out.le (by omega) (by have := H.out.le; omega)
      rw [show ((f + Z : Nat) : Int) = (f : Int) + (Z : Int) by omega] at hcut
      have hle : (f : Int) + (Z : Int) ≤ (n : Int) := by omega
      have hwa : IntKind.i64.wrap ((f : Int) + (Z : Int)) = (f : Int) + (Z : Int) := wrap64 (by omega) (by omega)
      have HSM := hide (fun W (h : Kept [] wr W) => refsum_n (some ⟨b, off + f, none⟩) Z (cap - f) (blk Z xs k) W hblen (by omega) (hsl.kept h (by simp)))
      have HOF := hide (fun W (h : Kept [] wr W) => rof_ok width (some ⟨b, off + f, none⟩) Z (cap - f) (blk Z xs k) W hblen (by omega) (hsl.kept h (by simp)) (fun e => by cases e))
      have HWS : Hid (weaks width Z xs (k + 1) = weaks width Z xs k ++ [weak width (blk Z xs k)]) := weaks_snoc _ _ _ _
      have hE1 : (weak width (blk Z xs k)).sum = (Rol.sum (blk Z xs k) : Nat) := rfl
      have hE2 : (weak width (blk Z xs k)).id = Sha.ident width (blk Z xs k) := rfl
      generalize weak width (blk Z xs k) = e at HWS hE1 hE2
      have hbw : ∀ W, (Instr.build 45 #[(0, .int .i64 (Rol.sum (blk Z xs k) : Nat)), (1, .agg (bys (Sha.ident width (blk Z xs k))).toArray)]).run Try.prog W = .ok (.agg e.cells.toArray) W := fun W => by rw [← hE1, ← hE2]; exact Try.builtWk e W
      have hbsl := Try.builtW1 e
      clear hE1 hE2
      generalize Rol.sum (blk Z xs k) = sm at HSM hbw
      generalize Sha.ident width (blk Z xs k) = idk at HOF hbw
      obtain ⟨vo, vc, rfl, hvc⟩ := own_shape hO
      have cv := hA.cell (sg.cv _)
      have HO := hide hO
      have HA := hide hA
      have HNR := hide hnr
      have HKK := hide hkk
      have HBS := hide hBs
      clear hO hA hnr hkk hBs hbl hcell hne hsl hblen hkz hxl hvc
      go_upto_region 12 with (fail)
      clear hcut
      refine wp_region_late (fun w' => Kept [] wr w') (fun i => i == 9 || i == 11) (by kernel_rfl) ?_
      have h0 : Kept [] wr wr.drew := (Kept.refl [] wr).drew
      generalize World.drew wr = v0 at h0  ⊢
      have k0 := h0
      refine wpAnyL_free (i := 0) (v := .pointer (some ⟨S, 35, none⟩)) rfl (by kernel_rfl) (by kernel_rfl) (by kernel_rfl) (fun _ _ _ h => h) (Or.inl ⟨by rfl, fun w _ => by go_simp⟩) ?_
      try simp only [List.getElem_toArray, List.getElem_cons_zero, List.getElem_cons_succ, Act.put, List.setIfInBounds_toArray, List.set_cons_zero, List.set_cons_succ]
      refine wpAnyL_take (i := 1) (v := .slice vo (weaks width Z xs k).length vc) rfl (by kernel_rfl) (by kernel_rfl) (by kernel_rfl) (by kernel_rfl) (by kernel_rfl) (fun _ _ _ h => h) (Or.inl ⟨by rfl, fun w hSw => by have q0 := Kept.cellOf hSw cv (by simp); go_simp⟩) h0 ?_
      try simp only [List.getElem_toArray, List.getElem_cons_zero, List.getElem_cons_succ, Act.put, List.setIfInBounds_toArray, List.set_cons_zero, List.set_cons_succ]
      refine wpAnyL_free (i := 2) (v := .slice (some ⟨b, off + f, none⟩) Z (cap - f)) rfl (by kernel_rfl) (by kernel_rfl) (by kernel_rfl) (fun _ _ _ h => h) (Or.inl ⟨by rfl, fun w _ => by go_simp⟩) ?_
      try simp only [List.getElem_toArray, List.getElem_cons_zero, List.getElem_cons_succ, Act.put, List.setIfInBounds_toArray, List.set_cons_zero, List.set_cons_succ]
      refine wpAnyL_free (i := 4) (v := .int .i64 width) rfl (by kernel_rfl) (by kernel_rfl) (by kernel_rfl) (fun _ _ _ h => h) (Or.inl ⟨by rfl, fun w _ => by go_simp⟩) ?_
      try simp only [List.getElem_toArray, List.getElem_cons_zero, List.getElem_cons_succ, Act.put, List.setIfInBounds_toArray, List.set_cons_zero, List.set_cons_succ]
      refine wpAnyL_free (i := 5) (v := .slice (some ⟨b, off + f, none⟩) Z (cap - f)) rfl (by kernel_rfl) (by kernel_rfl) (by kernel_rfl) (fun _ _ _ h => h) (Or.inl ⟨by rfl, fun w _ => by go_simp⟩) ?_
      try simp only [List.getElem_toArray, List.getElem_cons_zero, List.getElem_cons_succ, Act.put, List.setIfInBounds_toArray, List.set_cons_zero, List.set_cons_succ]
      have hsm := HSM.out v0 k0
      refine wpAnyL_one (i := 3) (by kernel_rfl) rfl (fun K hK => ?_)
      rw [if_pos (by rfl)]
      go_simp
      refine hsm.mono ?_
      rintro e3 w3 ⟨rfl, hw3⟩
      obtain rfl := hw3.symm
      refine hK.out _ _ (fun hS _ => hS) ?_
      clear hK K hsm
      try simp only [List.getElem_toArray, List.getElem_cons_zero, List.getElem_cons_succ, Act.put, List.setIfInBounds_toArray, List.set_cons_zero, List.set_cons_succ]
      have hof := HOF.out v0 k0
      refine wpAnyL_one (i := 6) (by kernel_rfl) rfl (fun K hK => ?_)
      rw [if_pos (by rfl)]
      go_simp
      refine hof.mono ?_
      rintro e6 w6 ⟨rfl, hk6⟩
      have k6 := k0.trans hk6 (by simp)
      refine hK.out _ _ (fun hS _ => hS.trans hk6 (by simp)) ?_
      clear hK K hof
      try simp only [List.getElem_toArray, List.getElem_cons_zero, List.getElem_cons_succ, Act.put, List.setIfInBounds_toArray, List.set_cons_zero, List.set_cons_succ]
      refine wpAnyL_free (i := 7) (v := .agg e.cells.toArray) rfl (by kernel_rfl) (by kernel_rfl) (by kernel_rfl) (fun _ _ _ h => h) (yieldsIf_build8 (by rfl) 45 #[(0, .tmp 55), (1, .tmp 58)] rfl #[(0, .int .i64 (sm : Nat)), (1, .agg (bys idk).toArray)] (by simp [Act.eval, Act.put]) _ hbw) ?_
      try simp only [List.getElem_toArray, List.getElem_cons_zero, List.getElem_cons_succ, Act.put, List.setIfInBounds_toArray, List.set_cons_zero, List.set_cons_succ]
      have k8 : Kept [] w6 (w6.alloc (.cells e.cells.toArray 45)) := (Kept.refl [] w6).alloc _
      have hO8 := ((HO.out.kept k6 (by simp)).kept k8 (by simp))
      obtain ⟨v9, w9, hrun9, hO9, hk9⟩ := OwnW.add hO8 (Nat.le_trans HBS.out (Nat.le_trans k6.size k8.size)) w6.heap.size e (row_rangeK (heap_new w6 (.cells e.cells.toArray 45))) (by rw [weaks_len]; omega)
      obtain ⟨vo9, vc9, rfl, hvc9⟩ := own_shape hO9
      obtain ⟨q9, hq9⟩ : ∃ q9, (weaks width Z xs k ++ [e]).length = q9 := ⟨_, rfl⟩
      rw [hq9] at hrun9 hO9
      clear hq9 hvc9
      refine wpAnyL_one (i := 8) (by kernel_rfl) rfl (fun K hK => ?_)
      rw [if_pos (by rfl)]
      refine wp_buildSl9 27 1 #[(0, .tmp 59)] rfl #[(0, .agg e.cells.toArray)] (by simp [Act.eval, Act.put]) (hbsl w6) ?_
      refine hK.out _ _ (fun hS _ => hS.trans k8 (by simp)) ?_
      clear hK K
      try simp only [List.getElem_toArray, List.getElem_cons_zero, List.getElem_cons_succ, Act.put, List.setIfInBounds_toArray, List.set_cons_zero, List.set_cons_succ]
      refine wpAnyL_one (i := 9) (by kernel_rfl) rfl (fun K hK => ?_)
      rw [if_pos (by rfl)]
      refine wp_append_run8 _ (.tmp 53) (.tmp 60) 27 rfl (.slice vo (weaks width Z xs k).length vc) (.slice (some ⟨w6.heap.size, 0, none⟩) 1 1) rfl rfl hrun9 ?_
      refine hK.out _ _ (fun _ h => by cases h) ?_
      clear hK K
      try simp only [List.getElem_toArray, List.getElem_cons_zero, List.getElem_cons_succ, Act.put, List.setIfInBounds_toArray, List.set_cons_zero, List.set_cons_succ]
      have k19 : Kept (Value.slice vo (weaks width Z xs k).length vc).ownBlock.toList wr w9 := (show Kept _ wr (w6.alloc (.cells e.cells.toArray 45)) from (k6.trans k8 (by simp)).mono (by simp)).trans hk9 (fun i hi _ => hi)
      have hnS : ∀ g, g ∈ (Value.slice vo (weaks width Z xs k).length vc).ownBlock.toList → B ≤ g := fun g hg => OwnW.ge HO.out (by simpa using hg)
      have hA9 := HA.out.kept k19 (fun h => by have := hnS _ h; have := HSB.out; omega)
      have c35 := hA9.cell (sg.cv _)
      have f35 := hA9.fr 35
      have hA10 := hA9.setV (.slice vo9 q9 vc9)
      have k10 : Kept [S] w9 (w9.setCell ⟨S, 35, none⟩ (.slice vo9 q9 vc9)) := (Kept.refl [S] w9).setCell (by simp) _
      refine wpAnyL_free (i := 10) (v := .pointer (some ⟨S, 35, none⟩)) rfl (by kernel_rfl) (by kernel_rfl) (by kernel_rfl) (fun _ _ _ h => h) (Or.inl ⟨by rfl, fun w _ => by go_simp⟩) ?_
      try simp only [List.getElem_toArray, List.getElem_cons_zero, List.getElem_cons_succ, Act.put, List.setIfInBounds_toArray, List.set_cons_zero, List.set_cons_succ]
      refine wpAnyL_one (i := 11) (by kernel_rfl) rfl (fun K hK => ?_)
      rw [if_pos (by rfl)]
      go_simp
      refine hK.out _ _ (fun _ h => by cases h) ?_
      clear hK K
      try simp only [List.getElem_toArray, List.getElem_cons_zero, List.getElem_cons_succ, Act.put, List.setIfInBounds_toArray, List.set_cons_zero, List.set_cons_succ]
      refine wpAnyL_done (by kernel_rfl) ?_ _
      have HPF : Hid (∃ v, OwnW (w9.setCell ⟨S, 35, none⟩ (.slice vo9 q9 vc9)) B v (weaks width Z xs (k + 1)) ∧ SigAt (w9.setCell ⟨S, 35, none⟩ (.slice vo9 q9 vc9)) S sg v ∧ (w9.setCell ⟨S, 35, none⟩ (.slice vo9 q9 vc9)).heap[R]? = some (.cells zeroS 29 (0, 0)) ∧ Kept [] w (w9.setCell ⟨S, 35, none⟩ (.slice vo9 q9 vc9)) ∧ B ≤ (w9.setCell ⟨S, 35, none⟩ (.slice vo9 q9 vc9)).heap.size) := by
        refine ⟨.slice vo9 q9 vc9, ?_, hA10, ?_, ?_, ?_⟩
        · rw [HWS.out]; exact OwnW.kept hO9 k10 (fun g hg => by have := OwnW.ge hO9 hg; have := HSB.out; simp; omega)
        · rw [k10.block R (Nat.lt_of_lt_of_le (Array.getElem?_eq_some_iff.1 HNR.out).1 k19.size) (by have := HSB.out; simp; omega), k19.block R (Array.getElem?_eq_some_iff.1 HNR.out).1 (fun h => by have := hnS _ h; have := HSB.out; omega)]; exact HNR.out
        · exact (HKK.out.trans k19 (fun i hi hl => by have := hnS i hi; have := HSB.out; omega)).trans k10 (fun i hi hl => by simp only [List.mem_singleton] at hi; have := HSB.out; omega)
        · exact Nat.le_trans HBS.out (Nat.le_trans k19.size k10.size)
      clear hA10 hA9 k10 k19 hO9 hk9 hO8 k8 k6 hk6 k0 h0 c35 f35 hnS cv HO HA HNR HKK HBS HSM HOF HWS hbw hbsl
      generalize w9.setCell ⟨S, 35, none⟩ (.slice vo9 q9 vc9) = wn at HPF ⊢
      go_wp2
      go_roundw
      case rel => exact ⟨k + 1, f + Z, by omega, by rw [HF.out]; rw [Nat.add_mul, Nat.one_mul], by have := hle; omega, by go_num, HPF⟩
      case measure => simp [intOf]; omega
    · obtain rfl : k = c := by omega
      have hgt : ¬ (f : Int) + (Z : Int) ≤ (n : Int) := by
        have := Nat.lt_div_mul_add (a := n) (b := Z) (by omega)
        rw [HCQ.out, ← HF.out] at this
        omega
      have hwa : IntKind.i64.wrap ((f : Int) + (Z : Int)) = (f : Int) + (Z : Int) := wrap64 (by omega) (by omega)
      obtain ⟨vo, vc, rfl, hvc⟩ := own_shape hO
      obtain ⟨q, hq⟩ : ∃ q, (weaks width Z xs k).length = q := ⟨_, rfl⟩
      rw [hq] at hA hO
      have hrz := hA.range
      have hil := Try.infoSig sg (.slice vo q vc)
      have hia := Try.infoSigA sg (.slice vo q vc)
      have hzs : zeroS.size = (sg.cells (.slice vo q vc)).toArray.size := by rw [sig_size]; exact sig_size _ _
      have hal := sig_one sg (.slice vo q vc) rfl
      have hkR : Kept [R] wr (wr.setRow R (sg.cells (.slice vo q vc)).toArray) := kept_row wr R _
      have HFIN : Hid (TellS w (wr.setRow R (sg.cells (.slice vo q vc)).toArray) (.returned (.tuple #[.agg (sg.cells (.slice vo q vc)).toArray, .int .i64 0])) 0 sg ∧ Kept [] w (wr.setRow R (sg.cells (.slice vo q vc)).toArray)) := by
        refine ⟨⟨.slice vo q vc, rfl, ?_⟩, hkk.trans hkR (fun i hi hl => by simp only [List.mem_singleton] at hi; have := HSB.out; omega)⟩
        rw [HSG.out.2.2.2.2]
        exact own_base (OwnW.kept (by rw [← hq] at hO ⊢; exact hO) hkR (fun g hg => by have := OwnW.ge hO hg; have := HSB.out; simp; omega)) (by have := HSB.out; omega)
      have HNR := hide hnr
      clear hO hA hkk hBs hkR hvc hq
      go_wp2_with (first
        | refine wpList_load_mid rfl 29 (.tmp 8) rfl S 0 rfl (sg.cells (.slice vo q vc)) _ hrz Try.underlying29 rfl hil ?_
        | refine wpList_store_rowTo rfl 29 (.tmp 6) (.tmp 63) rfl rfl R (sg.cells (.slice vo q vc)).toArray rfl rfl 29 zeroS HNR.out hia hzs hal ?_)
      exact ret_row_slot rfl rfl R 29 (sg.cells (.slice vo q vc)).toArray (0, 0) _ rfl (setRow_heap _ _ _ _ _ _ HNR.out) Try.underlying29 rfl hia HFIN.out

end Go.Proofs.Ytmklodligplbaaa
