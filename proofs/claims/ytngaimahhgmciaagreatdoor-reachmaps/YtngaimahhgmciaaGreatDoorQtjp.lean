/-
  ReachMaps: the walk. (Written by tools/qtj.py.)
-/
import Derived.Test.YtngaimahhgmciaaGreatDoorQtip
import Derived.Test.YtngaimahhgmciaaGreatDoorNjp
namespace Go.Proofs.YtngaimahhgmciaaGreatDoor
open Go.RowKit Go.Lib Go.Sort
set_option linter.unusedVariables false
set_option linter.unusedSimpArgs false

section
variable {w : World} {si sd sc : Value} {I : List (List UInt8)} {D : List Value} {C : List Int} {f : List UInt8 → An} {cf : List UInt8 → Int} {U : List (List UInt8)}
theorem rneedT_ok (hS : Sr9 w si sd sc I D C) (hF : Fnd9 w I D C f cf) (ra : Option Addr) (rn rc : Nat) (RL : List Rz) (hrl : RL.length = rn) (hR : Rss w ra RL) (hn : I.length ≤ 4611686018427387904)
    (hUR : ∀ q ∈ RL.map (·.root), q ∈ U) (hUE : ∀ i xs E, f i = .data xs → Tn.parse xs = some E → ∀ e ∈ E, e.id ∈ U) (hUl : (U.length + 2) * 32 ≤ 140737488355328) (hrm : rn ≤ 4611686018427387904) (hf : ∀ i, f i ≠ .fail) {r : Option (List UInt8) × Ws × List (List UInt8)} (ht : Tls f (RL.map (·.root)) r) :
    Calls Tryz.prog 21 #[.agg #[si, sd, sc], .slice ra rn rc] w fun e w' => ∃ v c i, e = .returned (.tuple #[v, .int .i64 c, .agg (bys i).toArray]) ∧ Kept [] w w' ∧ ((picks r.2.1.B r.2.2 r.2.1.L = none ∧ c = 0 ∧ i = z32 ∧ OwnI w' w.heap.size v (canon r.2.1.N)) ∨ ∃ cd q, picks r.2.1.B r.2.2 r.2.1.L = some (cd, q) ∧ v = .slice none 0 0 ∧ c = cd ∧ i = q) := by
  obtain ⟨t1, t2, t3, t4⟩ := ref_tells hf ht
  refine (rneed9_ok hS hF ra rn rc RL hrl hR hn hUR hUE hUl hrm).mono (fun e w' h => ?_)
  obtain ⟨v, c, i, h1, h2, h3, h4⟩ := h
  refine ⟨v, c, i, h1, h2, ?_⟩
  rcases h4 with ⟨q, h5, _⟩ | ⟨cd, q, _, h5, h6, h7, h8⟩ | ⟨_, h5, h6, h7, h8⟩
  · rw [t1] at h5; cases h5
  · rw [t4] at h5; exact .inr ⟨cd, q, h5, h6, h7, h8⟩
  · rw [t4] at h5
    rw [t2] at h6
    exact .inl ⟨h5, h7, h8, h6⟩
theorem rlacksT_ok (hS : Sr9 w si sd sc I D C) (hF : Fnd9 w I D C f cf) (ra : Option Addr) (rn rc : Nat) (RL : List Rz) (hrl : RL.length = rn) (hR : Rss w ra RL) (hn : I.length ≤ 4611686018427387904)
    (hUR : ∀ q ∈ RL.map (·.root), q ∈ U) (hUE : ∀ i xs E, f i = .data xs → Tn.parse xs = some E → ∀ e ∈ E, e.id ∈ U) (hUl : (U.length + 2) * 32 ≤ 140737488355328) (hrm : rn ≤ 4611686018427387904) (hf : ∀ i, f i ≠ .fail) {r : Option (List UInt8) × Ws × List (List UInt8)} (ht : Tls f (RL.map (·.root)) r) :
    Calls Tryz.prog 22 #[.agg #[si, sd, sc], .slice ra rn rc] w fun e w' => ∃ v, e = .returned (.tuple #[v, .int .i64 0, .agg (bys z32).toArray]) ∧ OwnI w' w.heap.size v (canon r.2.1.L) ∧ Kept [] w w' := by
  obtain ⟨t1, t2, t3, t4⟩ := ref_tells hf ht
  refine (rlacks9_ok hS hF ra rn rc RL hrl hR hn hUR hUE hUl hrm).mono (fun e w' h => ?_)
  obtain ⟨v, c, i, h1, h2, h3, h4⟩ := h
  rcases h4 with ⟨q, h5, _⟩ | ⟨_, h6, h7, h8⟩
  · rw [t1] at h5; cases h5
  · subst h7
    subst h8
    rw [t3] at h6
    exact ⟨v, h1, h6, h2⟩
end
theorem picks_ne1 {B R L : List (List UInt8)} {cd : Int} {i : List UInt8} (h : picks B R L = some (cd, i)) : cd ≠ 1 := by
  rcases picks_cases h with (rfl | rfl) | ⟨rfl, _⟩ <;> decide
theorem picks_ne0 {B R L : List (List UInt8)} {cd : Int} {i : List UInt8} (h : picks B R L = some (cd, i)) : (cd != 0) = true := by
  rcases picks_cases h with (rfl | rfl) | ⟨rfl, _⟩ <;> rfl
theorem own_slT {w : World} {base n c : Nat} {ao : Option Addr} {ys : List UInt8} (h : w.ownsRow base 5 1 (.slice ao n c) ys.length (bys ys)) : Sl w ao ys := by
  by_cases hv : (Value.slice ao n c) = .slice none 0 0
  · injection hv with h1 h2 h3
    have hl : ys.length = 0 := by
      rcases h.2 with ⟨_, e⟩ | ⟨g, cap, cur, e, _⟩
      · exact e
      · rw [h1] at e; cases e
    have : ys = [] := List.eq_nil_of_length_eq_zero hl
    subst this
    exact fun j hj => by simp at hj
  · obtain ⟨g, cap, e, _, _, _, hs⟩ := own_sl h hv
    injection e with e1 _ _
    rw [e1]
    exact hs
theorem own_nilT {w : World} {base n c : Nat} {ao : Option Addr} {xs : List Value} {e : TypeId} {s m : Nat} (h : w.ownsRow base e s (.slice ao n c) m xs) (h0 : ao = none) : n = 0 := by
  rcases h.2 with ⟨e, _⟩ | ⟨g, cap, cur, e, _⟩
  · injection e
  · rw [h0] at e; cases e
theorem own_curT {w : World} {base n c : Nat} {ao : Option Addr} {ys : List Value} {e : TypeId} (h : w.ownsRow base e 1 (.slice ao n c) n ys) : 0 < n → ∃ gb cur, ao = some ⟨gb, 0, none⟩ ∧ base ≤ gb ∧ w.heap[gb]? = some (.cells cur e (0, 0)) ∧ n ≤ cur.size ∧ n ≤ c := fun hn0 => by
  rcases h.2 with ⟨e, h1⟩ | ⟨g, cap, cur, e1, hb, hg, hn, hm, hs, ht⟩
  · injection e with _ e2 _
    omega
  · injection e1 with e1 _ e3
    subst e1
    subst e3
    have hl := h.1
    refine ⟨g, _, rfl, hb, hg, ?_, hn⟩
    have h5 := congrArg List.length ht
    simp at h5
    simp
    omega

set_option maxHeartbeats 12800000 in
set_option maxRecDepth 100000 in
theorem maps_walk (ia : Option Addr) (in_ ic : Nat) (ra : Option Addr) (rn rc : Nat) (IL : List It9) (RL : List Rz) (qa : List UInt8) (w : World) (gl : GlE w) (tabs : Tabs w) (hI : InI w ia in_ ic IL) (hR : InZ w ra rn rc RL) (hqa : qa.length = 32) :
    Calls Tryz.prog 5 #[.slice ia in_ ic, .slice ra rn rc, .agg (bys qa).toArray] w fun e w' => e = .returned (.bool true) ∧ Kept [] w w' := by
  obtain ⟨A, hA⟩ : ∃ r, r = w.heap.size := ⟨_, rfl⟩
  obtain ⟨w1, hw1⟩ : ∃ r, r = w.alloc (.cells (bys qa).toArray 25) := ⟨_, rfl⟩
  have hk1 : Kept [] w w1 := by rw [hw1]; exact (Kept.refl [] w).alloc _
  have hA1 := new_atK w (.cells (bys qa).toArray 25)
  rw [← hA, ← hw1] at hA1
  have hkn := known9_ok w1 (gl.kept hk1) (tabs.kept hk1 (by simp))
  have HG := hide gl
  have HT := hide tabs
  have HI := hide hI
  have HR := hide hR
  have HA1 := hide hA1
  have HK01 := hide hk1
  have hr72 := hR.max
  have hrle := hR.le
  have hrn : rn ≤ 1954687338211 := by omega
  have hqal := idl qa hqa
  have hzs := Tryz.zeroSr9
  have hsrs := Tryz.infoSr9
  clear gl tabs hI hR hr72 hrle hk1 hA1
  go_enter Tryz.func5, Tryz.ntmps5
  go_upto_region 1 with (fail)
  rw [← hA, ← hw1]
  clear hA hw1
  go_upto_region 3 with (go_at_call 10; refine hkn.mono ?_; rintro e w2 ⟨rfl, hk2⟩; have HK2 := hide (HK01.out.trans hk2 (by simp)); have HK12 := hide hk2; have hmp := mapped9_ok ia in_ ic IL w2 (HI.out.kept HK2.out); clear hkn hk2)
  go_upto_region 4 with (go_at_call 13; refine hmp.mono ?_; rintro e w3 ⟨b, V, rfl, hmw, hk3⟩; have HMW := hide hmw; have HK23 := hide hk3; have HK3 := hide (HK2.out.trans hk3 (by simp)); clear hmp hk3 hmw)
  have hth := there9_ok ia in_ ic IL w3 (HI.out.kept HK3.out)
  obtain ⟨m, hm⟩ : ∃ m, (keyT IL).length = m := ⟨_, rfl⟩
  have HMK := hide hm
  have HMB : Hid (m ≤ 60) := hide (by rw [← hm]; exact keyT_len IL)
  clear hm
  go_upto_region 5 with (first
    | (go_at_call 15; refine hth.mono ?_; rintro e w4 ⟨v4, rfl, ho4, hk4⟩; have HK34 := hide hk4; obtain ⟨a4, c4, e4, _⟩ := own_shape ho4; have HO4 := hide ho4; subst e4; have hpl := plain9b_ok a4 _ c4 (thrs IL (ids9 IL)) w4 (itsT HI.out (HK3.out.trans hk4 (by simp)) ho4).1 rfl (Nat.le_trans (thrs_le IL _) (Nat.le_trans (ids9_len IL) (by decide))); clear hth hk4 ho4)
    | (go_at_call 14; refine hpl.mono ?_; rintro e w5 ⟨vi, vd, vc, rfl, hs⟩; have HS5 := hide hs; have hsr := srT hs; obtain ⟨⟨aI, cI, hvi, _⟩, ⟨aD, cD, hvd, _⟩, ⟨aC, cC, hvc, _⟩⟩ := hsr; rw [HMK.out] at hvi hvd hvc; subst hvi; subst hvd; subst hvc; have hnz := new_atK w5 (.cells zeroS 39); clear hpl hs)
    | refine wpList_store_rowTo rfl 39 (.tmp 8) (.tmp 30) rfl rfl w5.heap.size #[.slice aI m cI, .slice aD m cD, .slice aC m cC] rfl rfl 39 zeroS hnz hsrs rfl (sl3 _ _ _ _ _ _ _ _ _) ?_)
  have HT8a : Hid (((w5.alloc (.cells zeroS 39)).setRow w5.heap.size #[.slice aI m cI, .slice aD m cD, .slice aC m cC]).heap[w5.heap.size]? = some (.cells #[.slice aI m cI, .slice aD m cD, .slice aC m cC] 39 (0, 0))) := hide (setRow_heap _ _ _ _ _ _ hnz)
  have HK56 : Hid (Kept [] w5 ((w5.alloc (.cells zeroS 39)).setRow w5.heap.size #[.slice aI m cI, .slice aD m cD, .slice aC m cC])) := hide (kept_rowK ((Kept.refl [] w5).alloc _) (fun h => absurd h (Nat.lt_irrefl _)) _)
  clear hnz hzs
  generalize (w5.alloc (.cells zeroS 39)).setRow w5.heap.size #[.slice aI m cI, .slice aD m cD, .slice aC m cC] = w6 at HT8a HK56 ⊢
  obtain ⟨T8, hT8⟩ : ∃ r, w5.heap.size = r := ⟨_, rfl⟩
  rw [hT8] at HT8a ⊢
  have HT8 := HT8a
  have HT8L : Hid (T8 < w6.heap.size) := hide (Array.getElem?_eq_some_iff.1 HT8.out).1
  clear hT8
  have HK36 : Hid (Kept [] w3 w6) := hide ((HK34.out.trans HS5.out.kp (by simp)).trans HK56.out (by simp))
  have HK06 : Hid (Kept [] w w6) := hide (HK3.out.trans HK36.out (by simp))
  have HSR : Hid (Sr9 w6 (.slice aI m cI) (.slice aD m cD) (.slice aC m cC) (keyT IL) (dat9 (thrs IL (ids9 IL)) (keyT IL)) (codT IL)) := hide ((srT HS5.out).kept HK56.out)
  obtain ⟨M, hM⟩ : ∃ M, map9 IL (ids9 IL) = M := ⟨_, rfl⟩
  have HME : Hid (map9 IL (ids9 IL) = M) := hide hM
  have HML : Hid (M.length ≤ 60) := hide (by rw [← hM]; exact Nat.le_trans (map9_len IL _) (ids9_len IL))
  have HMM : Hid (M.length = m) := hide (by have h := congrArg List.length (keyT_eq IL); rw [List.length_map, HMK.out, hM] at h; exact h)
  have HFN : Hid (Fnd9 w6 (keyT IL) (dat9 (thrs IL (ids9 IL)) (keyT IL)) (codT IL) (mpf M) (fun _ => 0)) := hide (by rw [← hM]; exact fndT (HI.out.kept HK06.out) _)
  rw [hM] at HMW
  obtain ⟨lo, hlo⟩ : ∃ r, w2.heap.size = r := ⟨_, rfl⟩
  obtain ⟨hi, hhi⟩ : ∃ r, w3.heap.size = r := ⟨_, rfl⟩
  have HGT : Hid (4 ≤ lo) := hide (by rw [← hlo]; exact Nat.le_trans HT.out.big HK2.out.size)
  have HMS : Hid (Ms9 lo hi b M V w6) := hide (by rw [← hlo, ← hhi]; exact HMW.out.ms.keptT HK36.out)
  have HHI : Hid (hi ≤ w6.heap.size) := hide (by rw [← hhi]; exact HK36.out.size)
  have HA6 : Hid (A < w6.heap.size ∧ w6.heap[A]? = some (.cells (bys qa).toArray 25 (0, 0))) := hide (by
    have h := ((HK12.out.trans HK23.out (by simp)).trans HK36.out (by simp)).block A (Array.getElem?_eq_some_iff.1 HA1.out).1 (by simp)
    rw [HA1.out] at h
    exact ⟨(Array.getElem?_eq_some_iff.1 h).1, h⟩)
  have hra6 : w6.rangeAt A 0 (bys qa) := row_rangeK HA6.out.2
  have hsrl : (Tryz.prog.info? 39).map (·.size) = some [Value.slice aI m cI, Value.slice aD m cD, Value.slice aC m cC].length := Tryz.infoSr9
  clear hM hlo hhi HMW HK34 HS5 HO4 HT8a HK56 HK3 HK36 HK2 HK12 HK23 HK01 HA1 hsrs
  cases hma : mpf M qa with
  | fail => exact absurd hma (mpf_nofail M qa)
  | lack =>
    as_aux_lemma =>
    have hnk : qa ∉ keyT IL := fun h => by have h2 := mpf_key h; rw [HME.out, hma] at h2; cases h2
    have hget : Calls Tryz.prog 16 #[.map (some b), .agg (bys qa).toArray] w6 fun e w' => ∃ eb, e = .returned (.tuple #[.slice none 0 0, faultV eb]) ∧ Kept [] w6 w' ∧ FltAt w' eb opGet qa (.iface 57 (.int .i64 93)) := (get9_ok (.map (some b)) M qa w6 (HMS.out.mapAtT HGT.out) hqa).mono (fun e w' ⟨hk, h⟩ => by
      rcases h with ⟨_, eb, h1, h2, _⟩ | ⟨xs, v, h1, _⟩
      · exact ⟨eb, h1, hk, h2⟩
      · rw [hma] at h1; cases h1)
    go_upto_region 6 with (first
      | refine wpList_load_mid rfl 25 (.tmp 5) rfl A 0 rfl (bys qa) _ hra6 Tryz.underlying25 rfl hqal ?_
      | (go_at_call 16; refine hget.mono ?_; rintro e w7 ⟨eb, rfl, hk7, hf7⟩; have HK67 := hide hk7; have HFL := hide hf7; clear hk7 hf7; clear hget))
    have HK7 := hide (HK06.out.trans HK67.out (by simp))
    have hrow7 : w7.rangeAt T8 0 [Value.slice aI m cI, Value.slice aD m cD, Value.slice aC m cC] := row_rangeK ((HK67.out.block T8 HT8L.out (by simp)).trans HT8.out)
    have hra7 : w7.rangeAt A 0 (bys qa) := row_rangeK ((HK67.out.block A HA6.out.1 (by simp)).trans HA6.out.2)
    have hfd := find9_ok (.slice aI m cI) (.slice aD m cD) (.slice aC m cC) (keyT IL) (dat9 (thrs IL (ids9 IL)) (keyT IL)) (codT IL) qa w7 (HSR.out.kept HK67.out) hqa (by have := HMK.out; have := HMB.out; omega)
    clear hra6
    rw [fnd_nokey hnk] at hfd
    clear hnk hma
    unfold faultV
    go_upto_region 7 with (first
      | refine wpList_load_mid rfl 39 (.tmp 8) rfl T8 0 rfl [Value.slice aI m cI, Value.slice aD m cD, Value.slice aC m cC] _ hrow7 Tryz.underlying39 rfl hsrl ?_
      | refine wpList_load_mid rfl 25 (.tmp 5) rfl A 0 rfl (bys qa) _ hra7 Tryz.underlying25 rfl hqal ?_
      | (go_at_call 17; refine hfd.mono ?_; rintro e w8 ⟨rfl, hk8⟩; have HK78 := hide hk8; clear hfd hk8))
    have HK6b0 := hide (HK67.out.trans HK78.out (by simp))
    have HKB0 := hide (HK06.out.trans HK6b0.out (by simp))
    have hrf := refused9_ok eb opGet qa 93 w8 (HG.out.kept HKB0.out) (HFL.out.kept HK78.out) hqa (by decide)
    rw [show (⟨opGet.toArray⟩ : ByteArray) = ⟨#[114, 101, 97, 99, 104, 46, 103, 101, 116]⟩ from rfl] at hrf
    have hra8 : w8.rangeAt A 0 (bys qa) := row_rangeK ((HK6b0.out.block A HA6.out.1 (by simp)).trans HA6.out.2)
    clear hrow7 hra7
    go_upto_region 9 with (first
      | refine wpList_load_midw9 25 (.tmp 5) rfl A 0 rfl (bys qa) _ hra8 Tryz.underlying25 rfl hqal (by kernel_rfl) ?_
      | (go_at_call 18; refine hrf.mono ?_; rintro e wb ⟨rfl, hkb⟩; have HK6b := hide (HK6b0.out.trans hkb (by simp)); have HKB := hide (HKB0.out.trans hkb (by simp)); clear hrf hkb))
    clear hra8 HK6b0 HKB0 HK78 HK67 HK7 HFL
    go_wp2
    go_loopw [13] (fun y wr => y = .int .i64 0 ∧ wr = wb) (fun y wr => 0)
    case atStart => exact ⟨rfl, rfl⟩
    case round =>
      obtain ⟨rfl, rfl⟩ := hrel
      obtain ⟨wb, rfl⟩ : ∃ r, r = wr := ⟨_, rfl⟩
      have hR9 := HR.out.kept HKB.out
      have hnd := needf_ok ((HMS.out.keptT HK6b.out).mfT HML.out) HGT.out (Nat.le_trans HHI.out HK6b.out.size) (HG.out.kept HKB.out) (HT.out.kept HKB.out (by simp)) ra rn rc RL hR9.len hR9.rss (by omega) hR9.far
      clear hR9
      go_upto_region 16 with (go_at_call 19; refine hnd.mono ?_; rintro e wa ⟨vA, evA, rr, rfl, ht, hE, _, hk⟩; have HE := hide hE; have HTL := hide ht; have HKba := hide hk; clear hnd hE ht hk)
      have HK6a := hide (HK6b.out.trans HKba.out (by simp))
      have HKa := hide (HKB.out.trans HKba.out (by simp))
      clear HK6b HKB
      rcases HE.out with ⟨hp, rfl, ho⟩ | ⟨cd, i, eb, hp, rfl, rfl, hf7, _, hil⟩
      · as_aux_lemma =>
        obtain ⟨aA, cA, e9, _⟩ := own_shape ho.1
        obtain ⟨nA, hnA⟩ : ∃ n, (canon rr.2.1.N).length = n := ⟨_, rfl⟩
        rw [hnA] at e9
        subst e9
        have HNA := hide hnA
        have HOA := hide ho
        have HPK := hide hp
        clear hp ho hnA HE
        have hR9 := HR.out.kept HKa.out
        have hla := lacksf_ok ((HMS.out.keptT HK6a.out).mfT HML.out) HGT.out (Nat.le_trans HHI.out HK6a.out.size) (HG.out.kept HKa.out) (HT.out.kept HKa.out (by simp)) ra rn rc RL hR9.len hR9.rss (by omega) hR9.far
        go_upto_region 17 with (go_at_call 20; refine hla.mono ?_; rintro e wc ⟨vL, r2, rfl, ht2, hO2, hk2⟩; have HO2 := hide hO2; have HT2 := hide ht2; have HKac := hide hk2; clear hla hO2 ht2 hk2)
        have eL := (tls_cong (fun q => Iff.rfl) HT2.out HTL.out).2.1
        have hoL := HO2.out
        rw [eL] at hoL
        obtain ⟨aL, cL, e9, _⟩ := own_shape hoL.1
        obtain ⟨nLk, hnLk⟩ : ∃ n, (canon rr.2.1.L).length = n := ⟨_, rfl⟩
        rw [hnLk] at e9
        subst e9
        have HNL := hide hnLk
        have HOL : Hid (OwnI wc wa.heap.size (.slice aL nLk cL) (canon rr.2.1.L)) := hide hoL
        have HK6c := hide (HK6a.out.trans HKac.out (by simp))
        have HKc := hide (HKa.out.trans HKac.out (by simp))
        have hR9 := HR.out.kept HKc.out
        have hnd := rneedT_ok (HSR.out.kept HK6c.out) (HFN.out.kept HK6c.out) ra rn rc RL hR9.len hR9.rss (by have := HMK.out; have := HMB.out; omega) (U := RL.map (·.root) ++ idsM M) (fun q hq => List.mem_append_left _ hq) (fun i xs E h1 h2 e he => List.mem_append_right _ (idsM_in i xs E h1 h2 e he)) (by have h1 := idsM_len (M := M); have h2 := HML.out; have h3 := HR.out.len; rw [List.length_append, List.length_map]; omega) (by omega) (mpf_nofail M) HTL.out
        have hnd : Calls Tryz.prog 21 #[.agg #[.slice aI m cI, .slice aD m cD, .slice aC m cC], .slice ra rn rc] wc (fun e w' => ∃ v, e = .returned (.tuple #[v, .int .i64 0, .agg (bys z32).toArray]) ∧ (True ∧ OwnI w' wc.heap.size v (canon rr.2.1.N)) ∧ Kept [] wc w') := hnd.mono (fun e w' h => by
          obtain ⟨v, c, i9, h1, h2, h3⟩ := h
          rcases h3 with ⟨_, rfl, rfl, h6⟩ | ⟨cd, q, h5, _⟩
          · exact ⟨v, h1, ⟨trivial, h6⟩, h2⟩
          · rw [HPK.out] at h5; cases h5)
        have hrowc : wc.rangeAt T8 0 [Value.slice aI m cI, Value.slice aD m cD, Value.slice aC m cC] := row_rangeK ((HK6c.out.block T8 HT8L.out (by simp)).trans HT8.out)
        have hzid := Tryz.zeroId
        clear hR9 eL hoL hnLk HT2 HO2
        go_upto_region 18 with (first
          | refine wpList_load_mid rfl 39 (.tmp 8) rfl T8 0 rfl [Value.slice aI m cI, Value.slice aD m cD, Value.slice aC m cC] _ hrowc Tryz.underlying39 rfl hsrl ?_
          | (go_at_call 21; refine hnd.mono ?_; rintro e wd ⟨vD, rfl, hcase, hk3⟩; have HCS := hide hcase; have HKcd := hide hk3; have hnz := new_atK wd (.cells zeroI 25); clear hnd hk3 hcase)
          | refine wpList_store_rowTo rfl 25 (.tmp 19) (.tmp 93) rfl rfl wd.heap.size (bys z32).toArray rfl rfl 25 zeroI hnz (by rw [List.size_toArray]; exact idl _ rfl) (by simp [zeroI, bys_length, z32]) (bys_allT _) ?_)
        have HRN : Hid (((wd.alloc (.cells zeroI 25)).setRow wd.heap.size (bys z32).toArray).heap[wd.heap.size]? = some (.cells (bys z32).toArray 25 (0, 0))) := hide (setRow_heap _ _ _ _ _ _ hnz)
        have HKde : Hid (Kept [] wd ((wd.alloc (.cells zeroI 25)).setRow wd.heap.size (bys z32).toArray)) := hide (kept_rowK ((Kept.refl [] wd).alloc _) (fun h => absurd h (Nat.lt_irrefl _)) _)
        clear hnz
        generalize (wd.alloc (.cells zeroI 25)).setRow wd.heap.size (bys z32).toArray = wd2 at HRN HKde ⊢
        obtain ⟨tI, htI⟩ : ∃ r, wd.heap.size = r := ⟨_, rfl⟩
        rw [htI] at HRN ⊢
        clear htI
        have HKcd2 := hide (HKcd.out.trans HKde.out (by simp))
        have HK6d := hide (HK6c.out.trans HKcd2.out (by simp))
        have HKd := hide (HKc.out.trans HKcd2.out (by simp))
        have hR9 := HR.out.kept HKd.out
        have hlk := rlacksT_ok (HSR.out.kept HK6d.out) (HFN.out.kept HK6d.out) ra rn rc RL hR9.len hR9.rss (by have := HMK.out; have := HMB.out; omega) (U := RL.map (·.root) ++ idsM M) (fun q hq => List.mem_append_left _ hq) (fun i xs E h1 h2 e he => List.mem_append_right _ (idsM_in i xs E h1 h2 e he)) (by have h1 := idsM_len (M := M); have h2 := HML.out; have h3 := HR.out.len; rw [List.length_append, List.length_map]; omega) (by omega) (mpf_nofail M) HTL.out
        have hrowd : wd2.rangeAt T8 0 [Value.slice aI m cI, Value.slice aD m cD, Value.slice aC m cC] := row_rangeK ((HK6d.out.block T8 HT8L.out (by simp)).trans HT8.out)
        clear hR9
        go_upto_region 19 with (first
          | refine wpList_load_mid rfl 39 (.tmp 8) rfl T8 0 rfl [Value.slice aI m cI, Value.slice aD m cD, Value.slice aC m cC] _ hrowd Tryz.underlying39 rfl hsrl ?_
          | (go_at_call 22; refine hlk.mono ?_; rintro e we0 ⟨vK, rfl, hoK, hk3⟩; have HOK := hide hoK; have HKde0 := hide hk3; have hnz := new_atK we0 (.cells zeroI 25); clear hlk hk3 hoK)
          | refine wpList_store_rowTo rfl 25 (.tmp 22) (.tmp 100) rfl rfl we0.heap.size (bys z32).toArray rfl rfl 25 zeroI hnz (by rw [List.size_toArray]; exact idl _ rfl) (by simp [zeroI, bys_length, z32]) (bys_allT _) ?_)
        have HKe0 : Hid (Kept [] we0 ((we0.alloc (.cells zeroI 25)).setRow we0.heap.size (bys z32).toArray)) := hide (kept_rowK ((Kept.refl [] we0).alloc _) (fun h => absurd h (Nat.lt_irrefl _)) _)
        clear hnz hzid
        generalize (we0.alloc (.cells zeroI 25)).setRow we0.heap.size (bys z32).toArray = we at HKe0 ⊢
        have HKd2e := hide (HKde0.out.trans HKe0.out (by simp))
        have HK6e := hide (HK6d.out.trans HKd2e.out (by simp))
        have HKE := hide (HKd.out.trans HKd2e.out (by simp))
        have HKce := hide (HKcd2.out.trans HKd2e.out (by simp))
        have HKae := hide (HKac.out.trans HKce.out (by simp))
        obtain ⟨aK, cK, e9, _⟩ := own_shape HOK.out.1
        rw [HNL.out] at e9
        subst e9
        have hsm := same9_ok aL aK nLk nLk cL cK (canon rr.2.1.L) (canon rr.2.1.L) we HNL.out HNL.out ((HOL.out.kept HKce.out (by simp)).ids.1) ((HOK.out.kept HKe0.out (by simp)).ids.1) (own_max9 HOL.out) (own_max9 HOL.out)
        rw [decide_eq_true rfl] at hsm
        have him := (HMS.out.keptT HK6e.out).im
        have hlen : (M.map (·.1)).length = m := by rw [List.length_map]; exact HMM.out
        have hlm := him.size Tryz.underlying33
        rw [hlen] at hlm
        have c0 : we.cell? ⟨T8, 0, none⟩ = some (.slice aI m cI) := HK6e.out.cellOf (by rw [cell_of_row _ _ _ _ _ _ HT8.out]; rfl) (by simp)
        have hmm : ((m : Int) != (m : Int)) = false := by simp
        clear him hlen

        go_upto_region 21 with (first
          | (go_at_call 23; refine hsm.mono ?_; rintro e wz ⟨rfl, hkz⟩; have HKez := hide hkz; clear hsm hkz)
          | (at_builtin; refine wpList_lenI rfl 33 (.tmp 101) rfl (.map (some b)) rfl _ _ (hlm _) ?_))
        have HK6e := hide (HK6e.out.trans HKez.out (by simp))
        have HKE := hide (HKE.out.trans HKez.out (by simp))
        have HKce := hide (HKce.out.trans HKez.out (by simp))
        have HKae := hide (HKae.out.trans HKez.out (by simp))
        have hoB := HCS.out.2
        obtain ⟨aB, cB, e8, _⟩ := own_shape hoB.1
        rw [HNA.out] at e8
        have e8 := e8
        subst e8
        have HKdz : Hid (Kept [] wd wz) := hide ((HKde.out.trans HKd2e.out (by simp)).trans HKez.out (by simp))
        have HOB : Hid (OwnI wz wc.heap.size (.slice aB nA cB) (canon rr.2.1.N)) := hide (hoB.kept HKdz.out (by simp))
        have HKce : Hid (Kept [] wz wz) := hide (Kept.refl _ _)
        clear hoB
        clear hlm c0 HKez
        obtain ⟨we, rfl⟩ : ∃ r, r = wz := ⟨_, rfl⟩
        go_wp2
        go_loopw [23] (fun y wr => ∃ k : Nat, k ≤ m ∧ y = .int .i64 k ∧ Hid (Kept [] we wr)) (fun y wr => m - (intOf y).toNat)
        case atStart => exact ⟨0, Nat.zero_le _, rfl, hide (Kept.refl _ _)⟩
        case round =>
          obtain ⟨k, hk, rfl, HP⟩ := hrel
          have HRW := hide (HK6e.out.trans HP.out (by simp))
          have c0 : wr.cell? ⟨T8, 0, none⟩ = some (.slice aI m cI) := HRW.out.cellOf (by rw [cell_of_row _ _ _ _ _ _ HT8.out]; rfl) (by simp)
          have c1 : wr.cell? ⟨T8, 1, none⟩ = some (.slice aD m cD) := HRW.out.cellOf (by rw [cell_of_row _ _ _ _ _ _ HT8.out]; rfl) (by simp)
          by_cases hlt : k < m
          · as_aux_lemma =>
            have hlt1 : (k : Int) < (m : Int) := by omega
            have hmb : m ≤ 60 := HMB.out
            have hkl : k < (keyT IL).length := by rw [HMK.out]; exact hlt
            obtain ⟨⟨ai, ci, e1, hids⟩, ⟨ad, cd9, e2, hdat⟩, _⟩ := HSR.out.kept HRW.out
            injection e1 with e1a e1b e1c
            injection e2 with e2a e2b e2c
            subst e1a
            subst e2a
            clear e1b e1c e2b e2c
            obtain ⟨g1, o1, hao1, hrq⟩ := hids.1 k hkl
            obtain ⟨g2, o2, hao2, cd⟩ := hdat k hkl
            subst hao1
            subst hao2
            have hq : ((keyT IL).getD k []).length = 32 := hids.2 _ (gmem9 hkl)
            have hqk : (keyT IL).getD k [] ∈ keyT IL := gmem9 hkl
            have hdv : (dat9 (thrs IL (ids9 IL)) (keyT IL)).getD k unitv = (thr (fst9 IL ((keyT IL).getD k []))).dv := by
              unfold dat9
              rw [List.getD_eq_getElem?_getD, List.getElem?_map, List.getElem?_eq_getElem hkl, List.getD_eq_getElem?_getD, List.getElem?_eq_getElem hkl]
              show (fst9 (thrs IL (ids9 IL)) (keyT IL)[k]).dv = _
              rw [thrs_fst (List.getElem_mem _)]
              rfl
            obtain ⟨q, hqe⟩ : ∃ q, (keyT IL).getD k [] = q := ⟨_, rfl⟩
            rw [hqe] at hrq hq hqk hdv
            rw [hdv] at cd
            have hql := idl q hq
            have hfm := mpf_key hqk
            rw [HME.out] at hfm
            obtain ⟨z, hz, hz1, _⟩ := fst9_in (keyT_in hqk)
            have hin := ((HI.out.its z hz).2.inb.kept9 (HK06.out.trans HRW.out (by simp)))
            rw [← hz1] at hin
            obtain ⟨vv, hvo, _, hvl, hlk0⟩ := ((HMS.out.keptT HRW.out).mfT HML.out).lookT q hq hfm
            have hlk := fun W (hW : Kept [] wr W) => hlk0 [] W (by simp) hW
            obtain ⟨av, cv, ev, _⟩ := own_shape hvo
            have hov := hvo
            obtain ⟨ys, hys⟩ : ∃ ys, (fst9 IL q).bs = ys := ⟨_, rfl⟩
            obtain ⟨ao2, hao2⟩ : ∃ a, (fst9 IL q).ao = a := ⟨_, rfl⟩
            obtain ⟨yn, hyn⟩ : ∃ a, (fst9 IL q).n = a := ⟨_, rfl⟩
            obtain ⟨cc2, hcc2⟩ : ∃ a, (fst9 IL q).cap = a := ⟨_, rfl⟩
            have cd : wr.cell? ⟨g2, o2 + k, none⟩ = some (.slice ao2 yn cc2) := by rw [← hao2, ← hyn, ← hcc2]; exact cd
            rw [hys, hao2, hyn, hcc2] at hin
            rw [hys] at hvo hvl ev
            have hyl : ys.length = yn := hin.len
            rw [hyl] at ev
            subst ev
            have hslv : Sl wr av ys := own_slT hvo
            have hcv1 := fun W (hW : Kept [] wr W) => conv_sl W av yn cv ys hyl (hslv.kept hW (by simp)) (fun h => own_nilT hvo h)
            have hcv2 := fun W (hW : Kept [] wr W) => conv_sl W ao2 yn cc2 ys hyl (hin.sl.kept hW (by simp)) (fun h => by rw [← hyl, (hin.nil h).1]; rfl)
            have hcv1 := fun W (hW : Kept [] wr W) => hcv1 W hW
            have hse : (⟨ys.toArray⟩ : ByteArray) = ⟨ys.toArray⟩ := rfl
            clear hids hdat hkl hqk hdv hqe hfm hz hz1 hin hvo hvl hlk0 hov hys hao2 hyn hcc2 hyl hslv
            go_upto_region 24 with (fail)
            refine wp_region_held_drew (S := fun w' => Kept [] wr w') (by kernel_rfl) ((Kept.refl [] wr).drew) (fun h0 => ?_)
            generalize World.drew wr = v0 at h0  ⊢
            refine wpAnyH_take (i := 0) (v := .map (some b)) rfl (by kernel_rfl) (by kernel_rfl) (by kernel_rfl) (fun _ _ _ h => h) (Or.inl ⟨by rfl, fun w hSw => by go_simp⟩) h0 ?_
            try simp only [List.getElem_toArray, List.getElem_cons_zero, List.getElem_cons_succ, Act.put, List.setIfInBounds_toArray, List.set_cons_zero, List.set_cons_succ]
            refine wpAnyH_take (i := 1) (v := .pointer (some ⟨T8, 0, none⟩)) rfl (by kernel_rfl) (by kernel_rfl) (by kernel_rfl) (fun _ _ _ h => h) (Or.inl ⟨by rfl, fun w hSw => by go_simp⟩) h0 ?_
            try simp only [List.getElem_toArray, List.getElem_cons_zero, List.getElem_cons_succ, Act.put, List.setIfInBounds_toArray, List.set_cons_zero, List.set_cons_succ]
            refine wpAnyH_take (i := 2) (v := .slice (some ⟨g1, o1, none⟩) m cI) rfl (by kernel_rfl) (by kernel_rfl) (by kernel_rfl) (fun _ _ _ h => h) (Or.inl ⟨by rfl, fun w hSw => by have c0 := Kept.cellOf hSw c0 (by simp); go_simp⟩) h0 ?_
            try simp only [List.getElem_toArray, List.getElem_cons_zero, List.getElem_cons_succ, Act.put, List.setIfInBounds_toArray, List.set_cons_zero, List.set_cons_succ]
            refine wpAnyH_take (i := 3) (v := .int .i64 k) rfl (by kernel_rfl) (by kernel_rfl) (by kernel_rfl) (fun _ _ _ h => h) (Or.inl ⟨by rfl, fun w hSw => by go_simp⟩) h0 ?_
            try simp only [List.getElem_toArray, List.getElem_cons_zero, List.getElem_cons_succ, Act.put, List.setIfInBounds_toArray, List.set_cons_zero, List.set_cons_succ]
            refine wpAnyH_take (i := 4) (v := .pointer (some ⟨g1, o1 + k * 32, none⟩)) rfl (by kernel_rfl) (by kernel_rfl) (by kernel_rfl) (fun _ _ _ h => h) (Or.inl ⟨by rfl, fun w hSw => by go_simp⟩) h0 ?_
            try simp only [List.getElem_toArray, List.getElem_cons_zero, List.getElem_cons_succ, Act.put, List.setIfInBounds_toArray, List.set_cons_zero, List.set_cons_succ]
            refine wpAnyH_take (i := 5) (v := .agg (bys q).toArray) rfl (by kernel_rfl) (by kernel_rfl) (by kernel_rfl) (fun _ _ _ h => h) (yieldsIf_load_mid (by rfl) _ _ rfl g1 (o1 + k * 32) rfl (bys q) _ (fun W h => fun jj u hu => Kept.cellOf h (hrq jj u hu) (by simp)) Tryz.underlying25 rfl hql) h0 ?_
            try simp only [List.getElem_toArray, List.getElem_cons_zero, List.getElem_cons_succ, Act.put, List.setIfInBounds_toArray, List.set_cons_zero, List.set_cons_succ]
            refine wpAnyH_take (i := 6) (v := .slice av yn cv) rfl (by kernel_rfl) (by kernel_rfl) (by kernel_rfl) (fun _ _ _ h => h) (Or.inl ⟨by rfl, fun w hSw => by have c0 := hlk w hSw; go_simp⟩) h0 ?_
            try simp only [List.getElem_toArray, List.getElem_cons_zero, List.getElem_cons_succ, Act.put, List.setIfInBounds_toArray, List.set_cons_zero, List.set_cons_succ]
            refine wpAnyH_take (i := 7) (v := .string ⟨ys.toArray⟩) rfl (by kernel_rfl) (by kernel_rfl) (by kernel_rfl) (fun _ _ _ h => h) (Or.inl ⟨by rfl, fun w hSw => by have c0 := hcv1 w hSw; go_simp⟩) h0 ?_
            try simp only [List.getElem_toArray, List.getElem_cons_zero, List.getElem_cons_succ, Act.put, List.setIfInBounds_toArray, List.set_cons_zero, List.set_cons_succ]
            refine wpAnyH_take (i := 8) (v := .pointer (some ⟨T8, 1, none⟩)) rfl (by kernel_rfl) (by kernel_rfl) (by kernel_rfl) (fun _ _ _ h => h) (Or.inl ⟨by rfl, fun w hSw => by go_simp⟩) h0 ?_
            try simp only [List.getElem_toArray, List.getElem_cons_zero, List.getElem_cons_succ, Act.put, List.setIfInBounds_toArray, List.set_cons_zero, List.set_cons_succ]
            refine wpAnyH_take (i := 9) (v := .slice (some ⟨g2, o2, none⟩) m cD) rfl (by kernel_rfl) (by kernel_rfl) (by kernel_rfl) (fun _ _ _ h => h) (Or.inl ⟨by rfl, fun w hSw => by have c0 := Kept.cellOf hSw c1 (by simp); go_simp⟩) h0 ?_
            try simp only [List.getElem_toArray, List.getElem_cons_zero, List.getElem_cons_succ, Act.put, List.setIfInBounds_toArray, List.set_cons_zero, List.set_cons_succ]
            refine wpAnyH_take (i := 10) (v := .int .i64 k) rfl (by kernel_rfl) (by kernel_rfl) (by kernel_rfl) (fun _ _ _ h => h) (Or.inl ⟨by rfl, fun w hSw => by go_simp⟩) h0 ?_
            try simp only [List.getElem_toArray, List.getElem_cons_zero, List.getElem_cons_succ, Act.put, List.setIfInBounds_toArray, List.set_cons_zero, List.set_cons_succ]
            refine wpAnyH_take (i := 11) (v := .pointer (some ⟨g2, o2 + k, none⟩)) rfl (by kernel_rfl) (by kernel_rfl) (by kernel_rfl) (fun _ _ _ h => h) (Or.inl ⟨by rfl, fun w hSw => by go_simp⟩) h0 ?_
            try simp only [List.getElem_toArray, List.getElem_cons_zero, List.getElem_cons_succ, Act.put, List.setIfInBounds_toArray, List.set_cons_zero, List.set_cons_succ]
            refine wpAnyH_take (i := 12) (v := .slice ao2 yn cc2) rfl (by kernel_rfl) (by kernel_rfl) (by kernel_rfl) (fun _ _ _ h => h) (Or.inl ⟨by rfl, fun w hSw => by have c0 := Kept.cellOf hSw cd (by simp); go_simp⟩) h0 ?_
            try simp only [List.getElem_toArray, List.getElem_cons_zero, List.getElem_cons_succ, Act.put, List.setIfInBounds_toArray, List.set_cons_zero, List.set_cons_succ]
            refine wpAnyH_take (i := 13) (v := .string ⟨ys.toArray⟩) rfl (by kernel_rfl) (by kernel_rfl) (by kernel_rfl) (fun _ _ _ h => h) (Or.inl ⟨by rfl, fun w hSw => by have c0 := hcv2 w hSw; go_simp⟩) h0 ?_
            try simp only [List.getElem_toArray, List.getElem_cons_zero, List.getElem_cons_succ, Act.put, List.setIfInBounds_toArray, List.set_cons_zero, List.set_cons_succ]
            refine wpAnyH_take (i := 14) (v := .bool false) rfl (by kernel_rfl) (by kernel_rfl) (by kernel_rfl) (fun _ _ _ h => h) (Or.inl ⟨by rfl, fun w hSw => by have c0 := hse; go_simp⟩) h0 ?_
            try simp only [List.getElem_toArray, List.getElem_cons_zero, List.getElem_cons_succ, Act.put, List.setIfInBounds_toArray, List.set_cons_zero, List.set_cons_succ]
            refine wpAnyH_done (by kernel_rfl) ?_ _
            have HN := hide (HP.out.trans h0 (by simp))
            clear h0 hlk hcv1 hcv2 hrq cd c0 c1
            go_wp2
            go_roundw
            case rel => exact ⟨k + 1, by omega, by go_num, HN⟩
            case measure => simp [intOf]; omega
          · obtain rfl : k = m := by omega
            have hlt1 : ¬ (k : Int) < (k : Int) := by omega
            have HKF := hide (HKE.out.trans HP.out (by simp))
            have HKP := hide HP.out
            obtain ⟨m, rfl⟩ : ∃ r, r = k := ⟨_, rfl⟩
            clear HP HRW c1
            obtain ⟨wf, rfl⟩ : ∃ wo, wo = wr := ⟨_, rfl⟩
            have hsm := same9_ok aA aB nA nA cA cB (canon rr.2.1.N) (canon rr.2.1.N) wf HNA.out HNA.out ((HOA.out.kept (HKae.out.trans HKP.out (by simp)) (by simp)).ids.1) ((HOB.out.kept (HKce.out.trans HKP.out (by simp)) (by simp)).ids.1) (own_max9 HOA.out) (own_max9 HOA.out)
            rw [decide_eq_true rfl] at hsm
            go_wp2_with (go_at_call 23; refine hsm.mono ?_; rintro e wz ⟨rfl, hkz⟩; have HKZ := hide (HKF.out.trans hkz (by simp)); clear hsm hkz)

            go_ret
            exact ⟨rfl, HKZ.out⟩
      · as_aux_lemma =>
        have HF7 := hide hf7
        have HPK := hide hp
        clear hp hf7 HE
        have hR9 := HR.out.kept HKa.out
        have hla := lacksf_ok ((HMS.out.keptT HK6a.out).mfT HML.out) HGT.out (Nat.le_trans HHI.out HK6a.out.size) (HG.out.kept HKa.out) (HT.out.kept HKa.out (by simp)) ra rn rc RL hR9.len hR9.rss (by omega) hR9.far
        go_upto_region 17 with (go_at_call 20; refine hla.mono ?_; rintro e wc ⟨vL, r2, rfl, ht2, hO2, hk2⟩; have HO2 := hide hO2; have HT2 := hide ht2; have HKac := hide hk2; clear hla hO2 ht2 hk2)
        have eL := (tls_cong (fun q => Iff.rfl) HT2.out HTL.out).2.1
        have hoL := HO2.out
        rw [eL] at hoL
        obtain ⟨aL, cL, e9, _⟩ := own_shape hoL.1
        obtain ⟨nLk, hnLk⟩ : ∃ n, (canon rr.2.1.L).length = n := ⟨_, rfl⟩
        rw [hnLk] at e9
        subst e9
        have HNL := hide hnLk
        have HOL : Hid (OwnI wc wa.heap.size (.slice aL nLk cL) (canon rr.2.1.L)) := hide hoL
        have HK6c := hide (HK6a.out.trans HKac.out (by simp))
        have HKc := hide (HKa.out.trans HKac.out (by simp))
        have hR9 := HR.out.kept HKc.out
        have hnd := rneedT_ok (HSR.out.kept HK6c.out) (HFN.out.kept HK6c.out) ra rn rc RL hR9.len hR9.rss (by have := HMK.out; have := HMB.out; omega) (U := RL.map (·.root) ++ idsM M) (fun q hq => List.mem_append_left _ hq) (fun i xs E h1 h2 e he => List.mem_append_right _ (idsM_in i xs E h1 h2 e he)) (by have h1 := idsM_len (M := M); have h2 := HML.out; have h3 := HR.out.len; rw [List.length_append, List.length_map]; omega) (by omega) (mpf_nofail M) HTL.out
        have hnd : Calls Tryz.prog 21 #[.agg #[.slice aI m cI, .slice aD m cD, .slice aC m cC], .slice ra rn rc] wc (fun e w' => ∃ v : Value, e = .returned (.tuple #[.slice none 0 0, .int .i64 cd, .agg (bys i).toArray]) ∧ True ∧ Kept [] wc w') := hnd.mono (fun e w' h => by
          obtain ⟨v, c, i9, h1, h2, h3⟩ := h
          rcases h3 with ⟨h5, _⟩ | ⟨cd9, q, h5, rfl, rfl, rfl⟩
          · rw [HPK.out] at h5; cases h5
          · rw [HPK.out] at h5
            injection h5 with h5
            injection h5 with h5 h6
            subst h5
            subst h6
            exact ⟨.nilIface, h1, trivial, h2⟩)
        have hrowc : wc.rangeAt T8 0 [Value.slice aI m cI, Value.slice aD m cD, Value.slice aC m cC] := row_rangeK ((HK6c.out.block T8 HT8L.out (by simp)).trans HT8.out)
        have hzid := Tryz.zeroId
        clear hR9 eL hoL hnLk HT2 HO2
        go_upto_region 18 with (first
          | refine wpList_load_mid rfl 39 (.tmp 8) rfl T8 0 rfl [Value.slice aI m cI, Value.slice aD m cD, Value.slice aC m cC] _ hrowc Tryz.underlying39 rfl hsrl ?_
          | (go_at_call 21; refine hnd.mono ?_; rintro e wd ⟨vD, rfl, hcase, hk3⟩; have HCS := hide hcase; have HKcd := hide hk3; have hnz := new_atK wd (.cells zeroI 25); clear hnd hk3 hcase)
          | refine wpList_store_rowTo rfl 25 (.tmp 19) (.tmp 93) rfl rfl wd.heap.size (bys i).toArray rfl rfl 25 zeroI hnz (by rw [List.size_toArray]; exact idl _ hil) (by simp [zeroI, bys_length, hil, z32]) (bys_allT _) ?_)
        have HRN : Hid (((wd.alloc (.cells zeroI 25)).setRow wd.heap.size (bys i).toArray).heap[wd.heap.size]? = some (.cells (bys i).toArray 25 (0, 0))) := hide (setRow_heap _ _ _ _ _ _ hnz)
        have HKde : Hid (Kept [] wd ((wd.alloc (.cells zeroI 25)).setRow wd.heap.size (bys i).toArray)) := hide (kept_rowK ((Kept.refl [] wd).alloc _) (fun h => absurd h (Nat.lt_irrefl _)) _)
        clear hnz
        generalize (wd.alloc (.cells zeroI 25)).setRow wd.heap.size (bys i).toArray = wd2 at HRN HKde ⊢
        obtain ⟨tI, htI⟩ : ∃ r, wd.heap.size = r := ⟨_, rfl⟩
        rw [htI] at HRN ⊢
        clear htI
        have HKcd2 := hide (HKcd.out.trans HKde.out (by simp))
        have HK6d := hide (HK6c.out.trans HKcd2.out (by simp))
        have HKd := hide (HKc.out.trans HKcd2.out (by simp))
        have hR9 := HR.out.kept HKd.out
        have hlk := rlacksT_ok (HSR.out.kept HK6d.out) (HFN.out.kept HK6d.out) ra rn rc RL hR9.len hR9.rss (by have := HMK.out; have := HMB.out; omega) (U := RL.map (·.root) ++ idsM M) (fun q hq => List.mem_append_left _ hq) (fun i xs E h1 h2 e he => List.mem_append_right _ (idsM_in i xs E h1 h2 e he)) (by have h1 := idsM_len (M := M); have h2 := HML.out; have h3 := HR.out.len; rw [List.length_append, List.length_map]; omega) (by omega) (mpf_nofail M) HTL.out
        have hrowd : wd2.rangeAt T8 0 [Value.slice aI m cI, Value.slice aD m cD, Value.slice aC m cC] := row_rangeK ((HK6d.out.block T8 HT8L.out (by simp)).trans HT8.out)
        clear hR9
        go_upto_region 19 with (first
          | refine wpList_load_mid rfl 39 (.tmp 8) rfl T8 0 rfl [Value.slice aI m cI, Value.slice aD m cD, Value.slice aC m cC] _ hrowd Tryz.underlying39 rfl hsrl ?_
          | (go_at_call 22; refine hlk.mono ?_; rintro e we0 ⟨vK, rfl, hoK, hk3⟩; have HOK := hide hoK; have HKde0 := hide hk3; have hnz := new_atK we0 (.cells zeroI 25); clear hlk hk3 hoK)
          | refine wpList_store_rowTo rfl 25 (.tmp 22) (.tmp 100) rfl rfl we0.heap.size (bys z32).toArray rfl rfl 25 zeroI hnz (by rw [List.size_toArray]; exact idl _ rfl) (by simp [zeroI, bys_length, z32]) (bys_allT _) ?_)
        have HKe0 : Hid (Kept [] we0 ((we0.alloc (.cells zeroI 25)).setRow we0.heap.size (bys z32).toArray)) := hide (kept_rowK ((Kept.refl [] we0).alloc _) (fun h => absurd h (Nat.lt_irrefl _)) _)
        clear hnz hzid
        generalize (we0.alloc (.cells zeroI 25)).setRow we0.heap.size (bys z32).toArray = we at HKe0 ⊢
        have HKd2e := hide (HKde0.out.trans HKe0.out (by simp))
        have HK6e := hide (HK6d.out.trans HKd2e.out (by simp))
        have HKE := hide (HKd.out.trans HKd2e.out (by simp))
        have HKce := hide (HKcd2.out.trans HKd2e.out (by simp))
        have HKae := hide (HKac.out.trans HKce.out (by simp))
        obtain ⟨aK, cK, e9, _⟩ := own_shape HOK.out.1
        rw [HNL.out] at e9
        subst e9
        have hsm := same9_ok aL aK nLk nLk cL cK (canon rr.2.1.L) (canon rr.2.1.L) we HNL.out HNL.out ((HOL.out.kept HKce.out (by simp)).ids.1) ((HOK.out.kept HKe0.out (by simp)).ids.1) (own_max9 HOL.out) (own_max9 HOL.out)
        rw [decide_eq_true rfl] at hsm
        have him := (HMS.out.keptT HK6e.out).im
        have hlen : (M.map (·.1)).length = m := by rw [List.length_map]; exact HMM.out
        have hlm := him.size Tryz.underlying33
        rw [hlen] at hlm
        have c0 : we.cell? ⟨T8, 0, none⟩ = some (.slice aI m cI) := HK6e.out.cellOf (by rw [cell_of_row _ _ _ _ _ _ HT8.out]; rfl) (by simp)
        have hmm : ((m : Int) != (m : Int)) = false := by simp
        clear him hlen
        unfold faultV
        go_upto_region 21 with (first
          | (go_at_call 23; refine hsm.mono ?_; rintro e wz ⟨rfl, hkz⟩; have HKez := hide hkz; clear hsm hkz)
          | (at_builtin; refine wpList_lenI rfl 33 (.tmp 101) rfl (.map (some b)) rfl _ _ (hlm _) ?_))
        have HK6e := hide (HK6e.out.trans HKez.out (by simp))
        have HKE := hide (HKE.out.trans HKez.out (by simp))
        have HKce := hide (HKce.out.trans HKez.out (by simp))
        have HKae := hide (HKae.out.trans HKez.out (by simp))
        have HRI : Hid (wz.rangeAt tI 0 (bys i)) := hide (row_rangeK (((HKd2e.out.trans HKez.out (by simp)).block tI (Array.getElem?_eq_some_iff.1 HRN.out).1 (by simp)).trans HRN.out))
        clear hlm c0 HKez
        obtain ⟨we, rfl⟩ : ∃ r, r = wz := ⟨_, rfl⟩
        go_wp2
        go_loopw [23] (fun y wr => ∃ k : Nat, k ≤ m ∧ y = .int .i64 k ∧ Hid (Kept [] we wr)) (fun y wr => m - (intOf y).toNat)
        case atStart => exact ⟨0, Nat.zero_le _, rfl, hide (Kept.refl _ _)⟩
        case round =>
          obtain ⟨k, hk, rfl, HP⟩ := hrel
          have HRW := hide (HK6e.out.trans HP.out (by simp))
          have c0 : wr.cell? ⟨T8, 0, none⟩ = some (.slice aI m cI) := HRW.out.cellOf (by rw [cell_of_row _ _ _ _ _ _ HT8.out]; rfl) (by simp)
          have c1 : wr.cell? ⟨T8, 1, none⟩ = some (.slice aD m cD) := HRW.out.cellOf (by rw [cell_of_row _ _ _ _ _ _ HT8.out]; rfl) (by simp)
          by_cases hlt : k < m
          · as_aux_lemma =>
            have hlt1 : (k : Int) < (m : Int) := by omega
            have hmb : m ≤ 60 := HMB.out
            have hkl : k < (keyT IL).length := by rw [HMK.out]; exact hlt
            obtain ⟨⟨ai, ci, e1, hids⟩, ⟨ad, cd9, e2, hdat⟩, _⟩ := HSR.out.kept HRW.out
            injection e1 with e1a e1b e1c
            injection e2 with e2a e2b e2c
            subst e1a
            subst e2a
            clear e1b e1c e2b e2c
            obtain ⟨g1, o1, hao1, hrq⟩ := hids.1 k hkl
            obtain ⟨g2, o2, hao2, cd⟩ := hdat k hkl
            subst hao1
            subst hao2
            have hq : ((keyT IL).getD k []).length = 32 := hids.2 _ (gmem9 hkl)
            have hqk : (keyT IL).getD k [] ∈ keyT IL := gmem9 hkl
            have hdv : (dat9 (thrs IL (ids9 IL)) (keyT IL)).getD k unitv = (thr (fst9 IL ((keyT IL).getD k []))).dv := by
              unfold dat9
              rw [List.getD_eq_getElem?_getD, List.getElem?_map, List.getElem?_eq_getElem hkl, List.getD_eq_getElem?_getD, List.getElem?_eq_getElem hkl]
              show (fst9 (thrs IL (ids9 IL)) (keyT IL)[k]).dv = _
              rw [thrs_fst (List.getElem_mem _)]
              rfl
            obtain ⟨q, hqe⟩ : ∃ q, (keyT IL).getD k [] = q := ⟨_, rfl⟩
            rw [hqe] at hrq hq hqk hdv
            rw [hdv] at cd
            have hql := idl q hq
            have hfm := mpf_key hqk
            rw [HME.out] at hfm
            obtain ⟨z, hz, hz1, _⟩ := fst9_in (keyT_in hqk)
            have hin := ((HI.out.its z hz).2.inb.kept9 (HK06.out.trans HRW.out (by simp)))
            rw [← hz1] at hin
            obtain ⟨vv, hvo, _, hvl, hlk0⟩ := ((HMS.out.keptT HRW.out).mfT HML.out).lookT q hq hfm
            have hlk := fun W (hW : Kept [] wr W) => hlk0 [] W (by simp) hW
            obtain ⟨av, cv, ev, _⟩ := own_shape hvo
            have hov := hvo
            obtain ⟨ys, hys⟩ : ∃ ys, (fst9 IL q).bs = ys := ⟨_, rfl⟩
            obtain ⟨ao2, hao2⟩ : ∃ a, (fst9 IL q).ao = a := ⟨_, rfl⟩
            obtain ⟨yn, hyn⟩ : ∃ a, (fst9 IL q).n = a := ⟨_, rfl⟩
            obtain ⟨cc2, hcc2⟩ : ∃ a, (fst9 IL q).cap = a := ⟨_, rfl⟩
            have cd : wr.cell? ⟨g2, o2 + k, none⟩ = some (.slice ao2 yn cc2) := by rw [← hao2, ← hyn, ← hcc2]; exact cd
            rw [hys, hao2, hyn, hcc2] at hin
            rw [hys] at hvo hvl ev
            have hyl : ys.length = yn := hin.len
            rw [hyl] at ev
            subst ev
            have hslv : Sl wr av ys := own_slT hvo
            have hcv1 := fun W (hW : Kept [] wr W) => conv_sl W av yn cv ys hyl (hslv.kept hW (by simp)) (fun h => own_nilT hvo h)
            have hcv2 := fun W (hW : Kept [] wr W) => conv_sl W ao2 yn cc2 ys hyl (hin.sl.kept hW (by simp)) (fun h => by rw [← hyl, (hin.nil h).1]; rfl)
            have hcv1 := fun W (hW : Kept [] wr W) => hcv1 W hW
            have hse : (⟨ys.toArray⟩ : ByteArray) = ⟨ys.toArray⟩ := rfl
            clear hids hdat hkl hqk hdv hqe hfm hz hz1 hin hvo hvl hlk0 hov hys hao2 hyn hcc2 hyl hslv
            go_upto_region 24 with (fail)
            refine wp_region_held_drew (S := fun w' => Kept [] wr w') (by kernel_rfl) ((Kept.refl [] wr).drew) (fun h0 => ?_)
            generalize World.drew wr = v0 at h0  ⊢
            refine wpAnyH_take (i := 0) (v := .map (some b)) rfl (by kernel_rfl) (by kernel_rfl) (by kernel_rfl) (fun _ _ _ h => h) (Or.inl ⟨by rfl, fun w hSw => by go_simp⟩) h0 ?_
            try simp only [List.getElem_toArray, List.getElem_cons_zero, List.getElem_cons_succ, Act.put, List.setIfInBounds_toArray, List.set_cons_zero, List.set_cons_succ]
            refine wpAnyH_take (i := 1) (v := .pointer (some ⟨T8, 0, none⟩)) rfl (by kernel_rfl) (by kernel_rfl) (by kernel_rfl) (fun _ _ _ h => h) (Or.inl ⟨by rfl, fun w hSw => by go_simp⟩) h0 ?_
            try simp only [List.getElem_toArray, List.getElem_cons_zero, List.getElem_cons_succ, Act.put, List.setIfInBounds_toArray, List.set_cons_zero, List.set_cons_succ]
            refine wpAnyH_take (i := 2) (v := .slice (some ⟨g1, o1, none⟩) m cI) rfl (by kernel_rfl) (by kernel_rfl) (by kernel_rfl) (fun _ _ _ h => h) (Or.inl ⟨by rfl, fun w hSw => by have c0 := Kept.cellOf hSw c0 (by simp); go_simp⟩) h0 ?_
            try simp only [List.getElem_toArray, List.getElem_cons_zero, List.getElem_cons_succ, Act.put, List.setIfInBounds_toArray, List.set_cons_zero, List.set_cons_succ]
            refine wpAnyH_take (i := 3) (v := .int .i64 k) rfl (by kernel_rfl) (by kernel_rfl) (by kernel_rfl) (fun _ _ _ h => h) (Or.inl ⟨by rfl, fun w hSw => by go_simp⟩) h0 ?_
            try simp only [List.getElem_toArray, List.getElem_cons_zero, List.getElem_cons_succ, Act.put, List.setIfInBounds_toArray, List.set_cons_zero, List.set_cons_succ]
            refine wpAnyH_take (i := 4) (v := .pointer (some ⟨g1, o1 + k * 32, none⟩)) rfl (by kernel_rfl) (by kernel_rfl) (by kernel_rfl) (fun _ _ _ h => h) (Or.inl ⟨by rfl, fun w hSw => by go_simp⟩) h0 ?_
            try simp only [List.getElem_toArray, List.getElem_cons_zero, List.getElem_cons_succ, Act.put, List.setIfInBounds_toArray, List.set_cons_zero, List.set_cons_succ]
            refine wpAnyH_take (i := 5) (v := .agg (bys q).toArray) rfl (by kernel_rfl) (by kernel_rfl) (by kernel_rfl) (fun _ _ _ h => h) (yieldsIf_load_mid (by rfl) _ _ rfl g1 (o1 + k * 32) rfl (bys q) _ (fun W h => fun jj u hu => Kept.cellOf h (hrq jj u hu) (by simp)) Tryz.underlying25 rfl hql) h0 ?_
            try simp only [List.getElem_toArray, List.getElem_cons_zero, List.getElem_cons_succ, Act.put, List.setIfInBounds_toArray, List.set_cons_zero, List.set_cons_succ]
            refine wpAnyH_take (i := 6) (v := .slice av yn cv) rfl (by kernel_rfl) (by kernel_rfl) (by kernel_rfl) (fun _ _ _ h => h) (Or.inl ⟨by rfl, fun w hSw => by have c0 := hlk w hSw; go_simp⟩) h0 ?_
            try simp only [List.getElem_toArray, List.getElem_cons_zero, List.getElem_cons_succ, Act.put, List.setIfInBounds_toArray, List.set_cons_zero, List.set_cons_succ]
            refine wpAnyH_take (i := 7) (v := .string ⟨ys.toArray⟩) rfl (by kernel_rfl) (by kernel_rfl) (by kernel_rfl) (fun _ _ _ h => h) (Or.inl ⟨by rfl, fun w hSw => by have c0 := hcv1 w hSw; go_simp⟩) h0 ?_
            try simp only [List.getElem_toArray, List.getElem_cons_zero, List.getElem_cons_succ, Act.put, List.setIfInBounds_toArray, List.set_cons_zero, List.set_cons_succ]
            refine wpAnyH_take (i := 8) (v := .pointer (some ⟨T8, 1, none⟩)) rfl (by kernel_rfl) (by kernel_rfl) (by kernel_rfl) (fun _ _ _ h => h) (Or.inl ⟨by rfl, fun w hSw => by go_simp⟩) h0 ?_
            try simp only [List.getElem_toArray, List.getElem_cons_zero, List.getElem_cons_succ, Act.put, List.setIfInBounds_toArray, List.set_cons_zero, List.set_cons_succ]
            refine wpAnyH_take (i := 9) (v := .slice (some ⟨g2, o2, none⟩) m cD) rfl (by kernel_rfl) (by kernel_rfl) (by kernel_rfl) (fun _ _ _ h => h) (Or.inl ⟨by rfl, fun w hSw => by have c0 := Kept.cellOf hSw c1 (by simp); go_simp⟩) h0 ?_
            try simp only [List.getElem_toArray, List.getElem_cons_zero, List.getElem_cons_succ, Act.put, List.setIfInBounds_toArray, List.set_cons_zero, List.set_cons_succ]
            refine wpAnyH_take (i := 10) (v := .int .i64 k) rfl (by kernel_rfl) (by kernel_rfl) (by kernel_rfl) (fun _ _ _ h => h) (Or.inl ⟨by rfl, fun w hSw => by go_simp⟩) h0 ?_
            try simp only [List.getElem_toArray, List.getElem_cons_zero, List.getElem_cons_succ, Act.put, List.setIfInBounds_toArray, List.set_cons_zero, List.set_cons_succ]
            refine wpAnyH_take (i := 11) (v := .pointer (some ⟨g2, o2 + k, none⟩)) rfl (by kernel_rfl) (by kernel_rfl) (by kernel_rfl) (fun _ _ _ h => h) (Or.inl ⟨by rfl, fun w hSw => by go_simp⟩) h0 ?_
            try simp only [List.getElem_toArray, List.getElem_cons_zero, List.getElem_cons_succ, Act.put, List.setIfInBounds_toArray, List.set_cons_zero, List.set_cons_succ]
            refine wpAnyH_take (i := 12) (v := .slice ao2 yn cc2) rfl (by kernel_rfl) (by kernel_rfl) (by kernel_rfl) (fun _ _ _ h => h) (Or.inl ⟨by rfl, fun w hSw => by have c0 := Kept.cellOf hSw cd (by simp); go_simp⟩) h0 ?_
            try simp only [List.getElem_toArray, List.getElem_cons_zero, List.getElem_cons_succ, Act.put, List.setIfInBounds_toArray, List.set_cons_zero, List.set_cons_succ]
            refine wpAnyH_take (i := 13) (v := .string ⟨ys.toArray⟩) rfl (by kernel_rfl) (by kernel_rfl) (by kernel_rfl) (fun _ _ _ h => h) (Or.inl ⟨by rfl, fun w hSw => by have c0 := hcv2 w hSw; go_simp⟩) h0 ?_
            try simp only [List.getElem_toArray, List.getElem_cons_zero, List.getElem_cons_succ, Act.put, List.setIfInBounds_toArray, List.set_cons_zero, List.set_cons_succ]
            refine wpAnyH_take (i := 14) (v := .bool false) rfl (by kernel_rfl) (by kernel_rfl) (by kernel_rfl) (fun _ _ _ h => h) (Or.inl ⟨by rfl, fun w hSw => by have c0 := hse; go_simp⟩) h0 ?_
            try simp only [List.getElem_toArray, List.getElem_cons_zero, List.getElem_cons_succ, Act.put, List.setIfInBounds_toArray, List.set_cons_zero, List.set_cons_succ]
            refine wpAnyH_done (by kernel_rfl) ?_ _
            have HN := hide (HP.out.trans h0 (by simp))
            clear h0 hlk hcv1 hcv2 hrq cd c0 c1
            go_wp2
            go_roundw
            case rel => exact ⟨k + 1, by omega, by go_num, HN⟩
            case measure => simp [intOf]; omega
          · obtain rfl : k = m := by omega
            have hlt1 : ¬ (k : Int) < (k : Int) := by omega
            have HKF := hide (HKE.out.trans HP.out (by simp))
            have HKP := hide HP.out
            obtain ⟨m, rfl⟩ : ∃ r, r = k := ⟨_, rfl⟩
            clear HP HRW c1
            obtain ⟨wf, rfl⟩ : ∃ wo, wo = wr := ⟨_, rfl⟩
            have hrf := refused9_ok eb opNeed i cd wf (HG.out.kept HKF.out) (HF7.out.kept (HKae.out.trans HKP.out (by simp))) hil (picks_ne1 HPK.out)
            rw [show (⟨opNeed.toArray⟩ : ByteArray) = ⟨#[114, 101, 97, 99, 104, 46, 110, 101, 101, 100]⟩ from rfl] at hrf
            have hrI : wf.rangeAt tI 0 (bys i) := fun jj u hu => HKP.out.cellOf (HRI.out jj u hu) (by simp)
            have hcn : (cd != 0) = true := picks_ne0 HPK.out
            have hiI := idl i hil
            go_wp2_with (first
              | refine wpList_load_midw9 25 (.tmp 19) rfl tI 0 rfl (bys i) _ hrI Tryz.underlying25 rfl hiI (by kernel_rfl) ?_
              | (go_at_call 18; refine hrf.mono ?_; rintro e wz ⟨rfl, hkz⟩; have HKZ := hide (HKF.out.trans hkz (by simp)); clear hrf hkz))
            go_ret
            exact ⟨rfl, HKZ.out⟩
  | data xs =>
    as_aux_lemma =>
    have hkk : qa ∈ keyT IL := by
      by_cases h : qa ∈ keyT IL
      · exact h
      · have h2 := mpf_nokey h; rw [HME.out, hma] at h2; cases h2
    have hxs : xs = (fst9 IL qa).bs := by
      have h2 := mpf_key hkk
      rw [HME.out, hma] at h2
      injection h2
    have hget : Calls Tryz.prog 16 #[.map (some b), .agg (bys qa).toArray] w6 fun e w' => ∃ v, e = .returned (.tuple #[v, .nilIface]) ∧ Kept [] w6 w' ∧ w'.ownsRow w6.heap.size 5 1 v xs.length (bys xs) := (get9_ok (.map (some b)) M qa w6 (HMS.out.mapAtT HGT.out) hqa).mono (fun e w' ⟨hk, h⟩ => by
      rcases h with ⟨h1, _⟩ | ⟨ys, v, h1, h2, _, h3⟩
      · rw [hma] at h1; cases h1
      · rw [hma] at h1
        injection h1 with h1
        subst h1
        exact ⟨v, h2, hk, h3⟩)
    obtain ⟨xn, hxn⟩ : ∃ n, xs.length = n := ⟨_, rfl⟩
    rw [hxn] at hget
    go_upto_region 6 with (first
      | refine wpList_load_mid rfl 25 (.tmp 5) rfl A 0 rfl (bys qa) _ hra6 Tryz.underlying25 rfl hqal ?_
      | (go_at_call 16; refine hget.mono ?_; rintro e w7 ⟨vb, rfl, hk7, ho7⟩; have HK67 := hide hk7; have HO7 := hide ho7; clear hk7 ho7; clear hget))
    have HK7 := hide (HK06.out.trans HK67.out (by simp))
    have hrow7 : w7.rangeAt T8 0 [Value.slice aI m cI, Value.slice aD m cD, Value.slice aC m cC] := row_rangeK ((HK67.out.block T8 HT8L.out (by simp)).trans HT8.out)
    have hra7 : w7.rangeAt A 0 (bys qa) := row_rangeK ((HK67.out.block A HA6.out.1 (by simp)).trans HA6.out.2)
    have hfd := find9_ok (.slice aI m cI) (.slice aD m cD) (.slice aC m cC) (keyT IL) (dat9 (thrs IL (ids9 IL)) (keyT IL)) (codT IL) qa w7 (HSR.out.kept HK67.out) hqa (by have := HMK.out; have := HMB.out; omega)
    clear hra6
    obtain ⟨ab, cb, eb, _⟩ := own_shape HO7.out
    subst eb
    rw [fnd_key hkk] at hfd
    obtain ⟨z, hz, hz1, _⟩ := fst9_in (keyT_in hkk)
    have hin := (HI.out.its z hz).2.inb
    rw [← hz1] at hin
    obtain ⟨ao2, hao2⟩ : ∃ a, (fst9 IL qa).ao = a := ⟨_, rfl⟩
    obtain ⟨yn, hyn⟩ : ∃ a, (fst9 IL qa).n = a := ⟨_, rfl⟩
    obtain ⟨cc2, hcc2⟩ : ∃ a, (fst9 IL qa).cap = a := ⟨_, rfl⟩
    rw [hao2, hyn, hcc2] at hin hfd
    rw [← hxs] at hin
    have hyl : yn = xn := by rw [← hin.len]; exact hxn
    rw [hyl] at hin hfd
    have HIN9 := hide hin
    have HXN := hide hxn
    clear hkk hxs hma hz hz1 hin hao2 hyn hcc2 hyl hxn
    go_upto_region 7 with (first
      | refine wpList_load_mid rfl 39 (.tmp 8) rfl T8 0 rfl [Value.slice aI m cI, Value.slice aD m cD, Value.slice aC m cC] _ hrow7 Tryz.underlying39 rfl hsrl ?_
      | refine wpList_load_mid rfl 25 (.tmp 5) rfl A 0 rfl (bys qa) _ hra7 Tryz.underlying25 rfl hqal ?_
      | (go_at_call 17; refine hfd.mono ?_; rintro e w8 ⟨rfl, hk8⟩; have HK78 := hide hk8; clear hfd hk8))
    have HK68 := hide (HK67.out.trans HK78.out (by simp))
    have HK08 := hide (HK06.out.trans HK68.out (by simp))
    have HO8 := hide (own_kept9 HO7.out HK78.out (fun _ _ => by simp))
    have hcv1 := conv_sl w8 ab xn cb xs HXN.out (own_slT (n := xn) (c := cb) (by rw [HXN.out]; exact HO8.out)) (fun h => own_nilT (n := xn) HO8.out h)
    have hcv2 := conv_sl w8 ao2 xn cc2 xs HXN.out (HIN9.out.sl.kept HK08.out (by simp)) (fun h => by rw [← HXN.out, (HIN9.out.nil h).1]; rfl)
    have hse : (⟨xs.toArray⟩ : ByteArray) = ⟨xs.toArray⟩ := rfl
    clear hrow7 hra7
    go_upto_region 11 with (fail)
    clear hcv1 hcv2
    have HCU : Hid (0 < xn → ∃ gb cur, ab = some ⟨gb, 0, none⟩ ∧ w6.heap.size ≤ gb ∧ w8.heap[gb]? = some (.cells cur 5 (0, 0)) ∧ xn ≤ cur.size ∧ xn ≤ cb) := hide (own_curT HO8.out)
    have HXB : Hid (xn ≤ 9223372036854775807) := hide (by have h := HIN9.out.le; have h2 := HIN9.out.max; omega)
    clear HIN9 HO7 HO8
    go_wp2
    go_loopw [13] (fun y wr => ∃ k : Nat, k ≤ xn ∧ y = .int .i64 k ∧ Hid (Kept [] w6 wr ∧ (0 < xn → ∃ gb cur, ab = some ⟨gb, 0, none⟩ ∧ w6.heap.size ≤ gb ∧ wr.heap[gb]? = some (.cells cur 5 (0, 0)) ∧ xn ≤ cur.size ∧ xn ≤ cb))) (fun y wr => xn - (intOf y).toNat)
    case atStart => exact ⟨0, Nat.zero_le _, rfl, hide ⟨HK68.out, HCU.out⟩⟩
    case round =>
      clear HCU
      obtain ⟨k, hk, rfl, HP⟩ := hrel
      by_cases hlt : k < xn
      · as_aux_lemma =>
        have hlt1 : (k : Int) < (xn : Int) := by omega
        have hxb := HXB.out
        obtain ⟨gb, cur, hab, hgb, hrow, hcu, hcb⟩ := HP.out.2 (by omega)
        subst hab
        have hc1 : wr.cell? ⟨gb, k, none⟩ = some (cur[k]'(by omega)) := by rw [cell_of_row _ _ _ _ _ _ hrow, Array.getElem?_eq_getElem (by omega)]
        have hfz : wr.frozen? ⟨gb, k, none⟩ = false := frozen_of_row _ _ _ _ _ hrow
        obtain ⟨u0, hu0⟩ : ∃ u, cur[k]'(by omega) = u := ⟨_, rfl⟩
        rw [hu0] at hc1
        have hnew := heap_setCell_same wr gb k cur 5 (.int .u8 99) hrow
        have hks : Kept [gb] wr (wr.setCell ⟨gb, k, none⟩ (.int .u8 99)) := (Kept.refl [gb] wr).setCell (fun _ => by simp) _
        have HN : Hid (Kept [] w6 (wr.setCell ⟨gb, k, none⟩ (.int .u8 99)) ∧ (0 < xn → ∃ gb' cur, (some ⟨gb, 0, none⟩ : Option Addr) = some ⟨gb', 0, none⟩ ∧ w6.heap.size ≤ gb' ∧ (wr.setCell ⟨gb, k, none⟩ (.int .u8 99)).heap[gb']? = some (.cells cur 5 (0, 0)) ∧ xn ≤ cur.size ∧ xn ≤ cb)) := hide ⟨HP.out.1.trans hks (fun j hj hlt => by have : j = gb := (by simpa using hj); omega), fun _ => ⟨gb, _, rfl, hgb, hnew, by simpa using hcu, hcb⟩⟩
        clear hnew hks hrow hu0 HP
        go_wp2
        go_roundw
        case rel => exact ⟨k + 1, by omega, by go_num, HN⟩
        case measure => simp [intOf]; omega
      · obtain rfl : k = xn := by omega
        have hlt1 : ¬ (k : Int) < (k : Int) := by omega
        have HK6b := hide HP.out.1
        have HKB := hide (HK06.out.trans HK6b.out (by simp))
        clear HP HK68 HK08 HK78 HK67 HK7 HXN HXB
        obtain ⟨wb, rfl⟩ : ∃ r, r = wr := ⟨_, rfl⟩
        have hR9 := HR.out.kept HKB.out
        have hnd := needf_ok ((HMS.out.keptT HK6b.out).mfT HML.out) HGT.out (Nat.le_trans HHI.out HK6b.out.size) (HG.out.kept HKB.out) (HT.out.kept HKB.out (by simp)) ra rn rc RL hR9.len hR9.rss (by omega) hR9.far
        clear hR9
        go_upto_region 16 with (go_at_call 19; refine hnd.mono ?_; rintro e wa ⟨vA, evA, rr, rfl, ht, hE, _, hk⟩; have HE := hide hE; have HTL := hide ht; have HKba := hide hk; clear hnd hE ht hk)
        have HK6a := hide (HK6b.out.trans HKba.out (by simp))
        have HKa := hide (HKB.out.trans HKba.out (by simp))
        clear HK6b HKB
        rcases HE.out with ⟨hp, rfl, ho⟩ | ⟨cd, i, eb, hp, rfl, rfl, hf7, _, hil⟩
        · as_aux_lemma =>
          obtain ⟨aA, cA, e9, _⟩ := own_shape ho.1
          obtain ⟨nA, hnA⟩ : ∃ n, (canon rr.2.1.N).length = n := ⟨_, rfl⟩
          rw [hnA] at e9
          subst e9
          have HNA := hide hnA
          have HOA := hide ho
          have HPK := hide hp
          clear hp ho hnA HE
          have hR9 := HR.out.kept HKa.out
          have hla := lacksf_ok ((HMS.out.keptT HK6a.out).mfT HML.out) HGT.out (Nat.le_trans HHI.out HK6a.out.size) (HG.out.kept HKa.out) (HT.out.kept HKa.out (by simp)) ra rn rc RL hR9.len hR9.rss (by omega) hR9.far
          go_upto_region 17 with (go_at_call 20; refine hla.mono ?_; rintro e wc ⟨vL, r2, rfl, ht2, hO2, hk2⟩; have HO2 := hide hO2; have HT2 := hide ht2; have HKac := hide hk2; clear hla hO2 ht2 hk2)
          have eL := (tls_cong (fun q => Iff.rfl) HT2.out HTL.out).2.1
          have hoL := HO2.out
          rw [eL] at hoL
          obtain ⟨aL, cL, e9, _⟩ := own_shape hoL.1
          obtain ⟨nLk, hnLk⟩ : ∃ n, (canon rr.2.1.L).length = n := ⟨_, rfl⟩
          rw [hnLk] at e9
          subst e9
          have HNL := hide hnLk
          have HOL : Hid (OwnI wc wa.heap.size (.slice aL nLk cL) (canon rr.2.1.L)) := hide hoL
          have HK6c := hide (HK6a.out.trans HKac.out (by simp))
          have HKc := hide (HKa.out.trans HKac.out (by simp))
          have hR9 := HR.out.kept HKc.out
          have hnd := rneedT_ok (HSR.out.kept HK6c.out) (HFN.out.kept HK6c.out) ra rn rc RL hR9.len hR9.rss (by have := HMK.out; have := HMB.out; omega) (U := RL.map (·.root) ++ idsM M) (fun q hq => List.mem_append_left _ hq) (fun i xs E h1 h2 e he => List.mem_append_right _ (idsM_in i xs E h1 h2 e he)) (by have h1 := idsM_len (M := M); have h2 := HML.out; have h3 := HR.out.len; rw [List.length_append, List.length_map]; omega) (by omega) (mpf_nofail M) HTL.out
          have hnd : Calls Tryz.prog 21 #[.agg #[.slice aI m cI, .slice aD m cD, .slice aC m cC], .slice ra rn rc] wc (fun e w' => ∃ v, e = .returned (.tuple #[v, .int .i64 0, .agg (bys z32).toArray]) ∧ (True ∧ OwnI w' wc.heap.size v (canon rr.2.1.N)) ∧ Kept [] wc w') := hnd.mono (fun e w' h => by
            obtain ⟨v, c, i9, h1, h2, h3⟩ := h
            rcases h3 with ⟨_, rfl, rfl, h6⟩ | ⟨cd, q, h5, _⟩
            · exact ⟨v, h1, ⟨trivial, h6⟩, h2⟩
            · rw [HPK.out] at h5; cases h5)
          have hrowc : wc.rangeAt T8 0 [Value.slice aI m cI, Value.slice aD m cD, Value.slice aC m cC] := row_rangeK ((HK6c.out.block T8 HT8L.out (by simp)).trans HT8.out)
          have hzid := Tryz.zeroId
          clear hR9 eL hoL hnLk HT2 HO2
          go_upto_region 18 with (first
            | refine wpList_load_mid rfl 39 (.tmp 8) rfl T8 0 rfl [Value.slice aI m cI, Value.slice aD m cD, Value.slice aC m cC] _ hrowc Tryz.underlying39 rfl hsrl ?_
            | (go_at_call 21; refine hnd.mono ?_; rintro e wd ⟨vD, rfl, hcase, hk3⟩; have HCS := hide hcase; have HKcd := hide hk3; have hnz := new_atK wd (.cells zeroI 25); clear hnd hk3 hcase)
            | refine wpList_store_rowTo rfl 25 (.tmp 19) (.tmp 93) rfl rfl wd.heap.size (bys z32).toArray rfl rfl 25 zeroI hnz (by rw [List.size_toArray]; exact idl _ rfl) (by simp [zeroI, bys_length, z32]) (bys_allT _) ?_)
          have HRN : Hid (((wd.alloc (.cells zeroI 25)).setRow wd.heap.size (bys z32).toArray).heap[wd.heap.size]? = some (.cells (bys z32).toArray 25 (0, 0))) := hide (setRow_heap _ _ _ _ _ _ hnz)
          have HKde : Hid (Kept [] wd ((wd.alloc (.cells zeroI 25)).setRow wd.heap.size (bys z32).toArray)) := hide (kept_rowK ((Kept.refl [] wd).alloc _) (fun h => absurd h (Nat.lt_irrefl _)) _)
          clear hnz
          generalize (wd.alloc (.cells zeroI 25)).setRow wd.heap.size (bys z32).toArray = wd2 at HRN HKde ⊢
          obtain ⟨tI, htI⟩ : ∃ r, wd.heap.size = r := ⟨_, rfl⟩
          rw [htI] at HRN ⊢
          clear htI
          have HKcd2 := hide (HKcd.out.trans HKde.out (by simp))
          have HK6d := hide (HK6c.out.trans HKcd2.out (by simp))
          have HKd := hide (HKc.out.trans HKcd2.out (by simp))
          have hR9 := HR.out.kept HKd.out
          have hlk := rlacksT_ok (HSR.out.kept HK6d.out) (HFN.out.kept HK6d.out) ra rn rc RL hR9.len hR9.rss (by have := HMK.out; have := HMB.out; omega) (U := RL.map (·.root) ++ idsM M) (fun q hq => List.mem_append_left _ hq) (fun i xs E h1 h2 e he => List.mem_append_right _ (idsM_in i xs E h1 h2 e he)) (by have h1 := idsM_len (M := M); have h2 := HML.out; have h3 := HR.out.len; rw [List.length_append, List.length_map]; omega) (by omega) (mpf_nofail M) HTL.out
          have hrowd : wd2.rangeAt T8 0 [Value.slice aI m cI, Value.slice aD m cD, Value.slice aC m cC] := row_rangeK ((HK6d.out.block T8 HT8L.out (by simp)).trans HT8.out)
          clear hR9
          go_upto_region 19 with (first
            | refine wpList_load_mid rfl 39 (.tmp 8) rfl T8 0 rfl [Value.slice aI m cI, Value.slice aD m cD, Value.slice aC m cC] _ hrowd Tryz.underlying39 rfl hsrl ?_
            | (go_at_call 22; refine hlk.mono ?_; rintro e we0 ⟨vK, rfl, hoK, hk3⟩; have HOK := hide hoK; have HKde0 := hide hk3; have hnz := new_atK we0 (.cells zeroI 25); clear hlk hk3 hoK)
            | refine wpList_store_rowTo rfl 25 (.tmp 22) (.tmp 100) rfl rfl we0.heap.size (bys z32).toArray rfl rfl 25 zeroI hnz (by rw [List.size_toArray]; exact idl _ rfl) (by simp [zeroI, bys_length, z32]) (bys_allT _) ?_)
          have HKe0 : Hid (Kept [] we0 ((we0.alloc (.cells zeroI 25)).setRow we0.heap.size (bys z32).toArray)) := hide (kept_rowK ((Kept.refl [] we0).alloc _) (fun h => absurd h (Nat.lt_irrefl _)) _)
          clear hnz hzid
          generalize (we0.alloc (.cells zeroI 25)).setRow we0.heap.size (bys z32).toArray = we at HKe0 ⊢
          have HKd2e := hide (HKde0.out.trans HKe0.out (by simp))
          have HK6e := hide (HK6d.out.trans HKd2e.out (by simp))
          have HKE := hide (HKd.out.trans HKd2e.out (by simp))
          have HKce := hide (HKcd2.out.trans HKd2e.out (by simp))
          have HKae := hide (HKac.out.trans HKce.out (by simp))
          obtain ⟨aK, cK, e9, _⟩ := own_shape HOK.out.1
          rw [HNL.out] at e9
          subst e9
          have hsm := same9_ok aL aK nLk nLk cL cK (canon rr.2.1.L) (canon rr.2.1.L) we HNL.out HNL.out ((HOL.out.kept HKce.out (by simp)).ids.1) ((HOK.out.kept HKe0.out (by simp)).ids.1) (own_max9 HOL.out) (own_max9 HOL.out)
          rw [decide_eq_true rfl] at hsm
          have him := (HMS.out.keptT HK6e.out).im
          have hlen : (M.map (·.1)).length = m := by rw [List.length_map]; exact HMM.out
          have hlm := him.size Tryz.underlying33
          rw [hlen] at hlm
          have c0 : we.cell? ⟨T8, 0, none⟩ = some (.slice aI m cI) := HK6e.out.cellOf (by rw [cell_of_row _ _ _ _ _ _ HT8.out]; rfl) (by simp)
          have hmm : ((m : Int) != (m : Int)) = false := by simp
          clear him hlen

          go_upto_region 21 with (first
            | (go_at_call 23; refine hsm.mono ?_; rintro e wz ⟨rfl, hkz⟩; have HKez := hide hkz; clear hsm hkz)
            | (at_builtin; refine wpList_lenI rfl 33 (.tmp 101) rfl (.map (some b)) rfl _ _ (hlm _) ?_))
          have HK6e := hide (HK6e.out.trans HKez.out (by simp))
          have HKE := hide (HKE.out.trans HKez.out (by simp))
          have HKce := hide (HKce.out.trans HKez.out (by simp))
          have HKae := hide (HKae.out.trans HKez.out (by simp))
          have hoB := HCS.out.2
          obtain ⟨aB, cB, e8, _⟩ := own_shape hoB.1
          rw [HNA.out] at e8
          have e8 := e8
          subst e8
          have HKdz : Hid (Kept [] wd wz) := hide ((HKde.out.trans HKd2e.out (by simp)).trans HKez.out (by simp))
          have HOB : Hid (OwnI wz wc.heap.size (.slice aB nA cB) (canon rr.2.1.N)) := hide (hoB.kept HKdz.out (by simp))
          have HKce : Hid (Kept [] wz wz) := hide (Kept.refl _ _)
          clear hoB
          clear hlm c0 HKez
          obtain ⟨we, rfl⟩ : ∃ r, r = wz := ⟨_, rfl⟩
          go_wp2
          go_loopw [23] (fun y wr => ∃ k : Nat, k ≤ m ∧ y = .int .i64 k ∧ Hid (Kept [] we wr)) (fun y wr => m - (intOf y).toNat)
          case atStart => exact ⟨0, Nat.zero_le _, rfl, hide (Kept.refl _ _)⟩
          case round =>
            obtain ⟨k, hk, rfl, HP⟩ := hrel
            have HRW := hide (HK6e.out.trans HP.out (by simp))
            have c0 : wr.cell? ⟨T8, 0, none⟩ = some (.slice aI m cI) := HRW.out.cellOf (by rw [cell_of_row _ _ _ _ _ _ HT8.out]; rfl) (by simp)
            have c1 : wr.cell? ⟨T8, 1, none⟩ = some (.slice aD m cD) := HRW.out.cellOf (by rw [cell_of_row _ _ _ _ _ _ HT8.out]; rfl) (by simp)
            by_cases hlt : k < m
            · as_aux_lemma =>
              have hlt1 : (k : Int) < (m : Int) := by omega
              have hmb : m ≤ 60 := HMB.out
              have hkl : k < (keyT IL).length := by rw [HMK.out]; exact hlt
              obtain ⟨⟨ai, ci, e1, hids⟩, ⟨ad, cd9, e2, hdat⟩, _⟩ := HSR.out.kept HRW.out
              injection e1 with e1a e1b e1c
              injection e2 with e2a e2b e2c
              subst e1a
              subst e2a
              clear e1b e1c e2b e2c
              obtain ⟨g1, o1, hao1, hrq⟩ := hids.1 k hkl
              obtain ⟨g2, o2, hao2, cd⟩ := hdat k hkl
              subst hao1
              subst hao2
              have hq : ((keyT IL).getD k []).length = 32 := hids.2 _ (gmem9 hkl)
              have hqk : (keyT IL).getD k [] ∈ keyT IL := gmem9 hkl
              have hdv : (dat9 (thrs IL (ids9 IL)) (keyT IL)).getD k unitv = (thr (fst9 IL ((keyT IL).getD k []))).dv := by
                unfold dat9
                rw [List.getD_eq_getElem?_getD, List.getElem?_map, List.getElem?_eq_getElem hkl, List.getD_eq_getElem?_getD, List.getElem?_eq_getElem hkl]
                show (fst9 (thrs IL (ids9 IL)) (keyT IL)[k]).dv = _
                rw [thrs_fst (List.getElem_mem _)]
                rfl
              obtain ⟨q, hqe⟩ : ∃ q, (keyT IL).getD k [] = q := ⟨_, rfl⟩
              rw [hqe] at hrq hq hqk hdv
              rw [hdv] at cd
              have hql := idl q hq
              have hfm := mpf_key hqk
              rw [HME.out] at hfm
              obtain ⟨z, hz, hz1, _⟩ := fst9_in (keyT_in hqk)
              have hin := ((HI.out.its z hz).2.inb.kept9 (HK06.out.trans HRW.out (by simp)))
              rw [← hz1] at hin
              obtain ⟨vv, hvo, _, hvl, hlk0⟩ := ((HMS.out.keptT HRW.out).mfT HML.out).lookT q hq hfm
              have hlk := fun W (hW : Kept [] wr W) => hlk0 [] W (by simp) hW
              obtain ⟨av, cv, ev, _⟩ := own_shape hvo
              have hov := hvo
              obtain ⟨ys, hys⟩ : ∃ ys, (fst9 IL q).bs = ys := ⟨_, rfl⟩
              obtain ⟨ao2, hao2⟩ : ∃ a, (fst9 IL q).ao = a := ⟨_, rfl⟩
              obtain ⟨yn, hyn⟩ : ∃ a, (fst9 IL q).n = a := ⟨_, rfl⟩
              obtain ⟨cc2, hcc2⟩ : ∃ a, (fst9 IL q).cap = a := ⟨_, rfl⟩
              have cd : wr.cell? ⟨g2, o2 + k, none⟩ = some (.slice ao2 yn cc2) := by rw [← hao2, ← hyn, ← hcc2]; exact cd
              rw [hys, hao2, hyn, hcc2] at hin
              rw [hys] at hvo hvl ev
              have hyl : ys.length = yn := hin.len
              rw [hyl] at ev
              subst ev
              have hslv : Sl wr av ys := own_slT hvo
              have hcv1 := fun W (hW : Kept [] wr W) => conv_sl W av yn cv ys hyl (hslv.kept hW (by simp)) (fun h => own_nilT hvo h)
              have hcv2 := fun W (hW : Kept [] wr W) => conv_sl W ao2 yn cc2 ys hyl (hin.sl.kept hW (by simp)) (fun h => by rw [← hyl, (hin.nil h).1]; rfl)
              have hcv1 := fun W (hW : Kept [] wr W) => hcv1 W hW
              have hse : (⟨ys.toArray⟩ : ByteArray) = ⟨ys.toArray⟩ := rfl
              clear hids hdat hkl hqk hdv hqe hfm hz hz1 hin hvo hvl hlk0 hov hys hao2 hyn hcc2 hyl hslv
              go_upto_region 24 with (fail)
              refine wp_region_held_drew (S := fun w' => Kept [] wr w') (by kernel_rfl) ((Kept.refl [] wr).drew) (fun h0 => ?_)
              generalize World.drew wr = v0 at h0  ⊢
              refine wpAnyH_take (i := 0) (v := .map (some b)) rfl (by kernel_rfl) (by kernel_rfl) (by kernel_rfl) (fun _ _ _ h => h) (Or.inl ⟨by rfl, fun w hSw => by go_simp⟩) h0 ?_
              try simp only [List.getElem_toArray, List.getElem_cons_zero, List.getElem_cons_succ, Act.put, List.setIfInBounds_toArray, List.set_cons_zero, List.set_cons_succ]
              refine wpAnyH_take (i := 1) (v := .pointer (some ⟨T8, 0, none⟩)) rfl (by kernel_rfl) (by kernel_rfl) (by kernel_rfl) (fun _ _ _ h => h) (Or.inl ⟨by rfl, fun w hSw => by go_simp⟩) h0 ?_
              try simp only [List.getElem_toArray, List.getElem_cons_zero, List.getElem_cons_succ, Act.put, List.setIfInBounds_toArray, List.set_cons_zero, List.set_cons_succ]
              refine wpAnyH_take (i := 2) (v := .slice (some ⟨g1, o1, none⟩) m cI) rfl (by kernel_rfl) (by kernel_rfl) (by kernel_rfl) (fun _ _ _ h => h) (Or.inl ⟨by rfl, fun w hSw => by have c0 := Kept.cellOf hSw c0 (by simp); go_simp⟩) h0 ?_
              try simp only [List.getElem_toArray, List.getElem_cons_zero, List.getElem_cons_succ, Act.put, List.setIfInBounds_toArray, List.set_cons_zero, List.set_cons_succ]
              refine wpAnyH_take (i := 3) (v := .int .i64 k) rfl (by kernel_rfl) (by kernel_rfl) (by kernel_rfl) (fun _ _ _ h => h) (Or.inl ⟨by rfl, fun w hSw => by go_simp⟩) h0 ?_
              try simp only [List.getElem_toArray, List.getElem_cons_zero, List.getElem_cons_succ, Act.put, List.setIfInBounds_toArray, List.set_cons_zero, List.set_cons_succ]
              refine wpAnyH_take (i := 4) (v := .pointer (some ⟨g1, o1 + k * 32, none⟩)) rfl (by kernel_rfl) (by kernel_rfl) (by kernel_rfl) (fun _ _ _ h => h) (Or.inl ⟨by rfl, fun w hSw => by go_simp⟩) h0 ?_
              try simp only [List.getElem_toArray, List.getElem_cons_zero, List.getElem_cons_succ, Act.put, List.setIfInBounds_toArray, List.set_cons_zero, List.set_cons_succ]
              refine wpAnyH_take (i := 5) (v := .agg (bys q).toArray) rfl (by kernel_rfl) (by kernel_rfl) (by kernel_rfl) (fun _ _ _ h => h) (yieldsIf_load_mid (by rfl) _ _ rfl g1 (o1 + k * 32) rfl (bys q) _ (fun W h => fun jj u hu => Kept.cellOf h (hrq jj u hu) (by simp)) Tryz.underlying25 rfl hql) h0 ?_
              try simp only [List.getElem_toArray, List.getElem_cons_zero, List.getElem_cons_succ, Act.put, List.setIfInBounds_toArray, List.set_cons_zero, List.set_cons_succ]
              refine wpAnyH_take (i := 6) (v := .slice av yn cv) rfl (by kernel_rfl) (by kernel_rfl) (by kernel_rfl) (fun _ _ _ h => h) (Or.inl ⟨by rfl, fun w hSw => by have c0 := hlk w hSw; go_simp⟩) h0 ?_
              try simp only [List.getElem_toArray, List.getElem_cons_zero, List.getElem_cons_succ, Act.put, List.setIfInBounds_toArray, List.set_cons_zero, List.set_cons_succ]
              refine wpAnyH_take (i := 7) (v := .string ⟨ys.toArray⟩) rfl (by kernel_rfl) (by kernel_rfl) (by kernel_rfl) (fun _ _ _ h => h) (Or.inl ⟨by rfl, fun w hSw => by have c0 := hcv1 w hSw; go_simp⟩) h0 ?_
              try simp only [List.getElem_toArray, List.getElem_cons_zero, List.getElem_cons_succ, Act.put, List.setIfInBounds_toArray, List.set_cons_zero, List.set_cons_succ]
              refine wpAnyH_take (i := 8) (v := .pointer (some ⟨T8, 1, none⟩)) rfl (by kernel_rfl) (by kernel_rfl) (by kernel_rfl) (fun _ _ _ h => h) (Or.inl ⟨by rfl, fun w hSw => by go_simp⟩) h0 ?_
              try simp only [List.getElem_toArray, List.getElem_cons_zero, List.getElem_cons_succ, Act.put, List.setIfInBounds_toArray, List.set_cons_zero, List.set_cons_succ]
              refine wpAnyH_take (i := 9) (v := .slice (some ⟨g2, o2, none⟩) m cD) rfl (by kernel_rfl) (by kernel_rfl) (by kernel_rfl) (fun _ _ _ h => h) (Or.inl ⟨by rfl, fun w hSw => by have c0 := Kept.cellOf hSw c1 (by simp); go_simp⟩) h0 ?_
              try simp only [List.getElem_toArray, List.getElem_cons_zero, List.getElem_cons_succ, Act.put, List.setIfInBounds_toArray, List.set_cons_zero, List.set_cons_succ]
              refine wpAnyH_take (i := 10) (v := .int .i64 k) rfl (by kernel_rfl) (by kernel_rfl) (by kernel_rfl) (fun _ _ _ h => h) (Or.inl ⟨by rfl, fun w hSw => by go_simp⟩) h0 ?_
              try simp only [List.getElem_toArray, List.getElem_cons_zero, List.getElem_cons_succ, Act.put, List.setIfInBounds_toArray, List.set_cons_zero, List.set_cons_succ]
              refine wpAnyH_take (i := 11) (v := .pointer (some ⟨g2, o2 + k, none⟩)) rfl (by kernel_rfl) (by kernel_rfl) (by kernel_rfl) (fun _ _ _ h => h) (Or.inl ⟨by rfl, fun w hSw => by go_simp⟩) h0 ?_
              try simp only [List.getElem_toArray, List.getElem_cons_zero, List.getElem_cons_succ, Act.put, List.setIfInBounds_toArray, List.set_cons_zero, List.set_cons_succ]
              refine wpAnyH_take (i := 12) (v := .slice ao2 yn cc2) rfl (by kernel_rfl) (by kernel_rfl) (by kernel_rfl) (fun _ _ _ h => h) (Or.inl ⟨by rfl, fun w hSw => by have c0 := Kept.cellOf hSw cd (by simp); go_simp⟩) h0 ?_
              try simp only [List.getElem_toArray, List.getElem_cons_zero, List.getElem_cons_succ, Act.put, List.setIfInBounds_toArray, List.set_cons_zero, List.set_cons_succ]
              refine wpAnyH_take (i := 13) (v := .string ⟨ys.toArray⟩) rfl (by kernel_rfl) (by kernel_rfl) (by kernel_rfl) (fun _ _ _ h => h) (Or.inl ⟨by rfl, fun w hSw => by have c0 := hcv2 w hSw; go_simp⟩) h0 ?_
              try simp only [List.getElem_toArray, List.getElem_cons_zero, List.getElem_cons_succ, Act.put, List.setIfInBounds_toArray, List.set_cons_zero, List.set_cons_succ]
              refine wpAnyH_take (i := 14) (v := .bool false) rfl (by kernel_rfl) (by kernel_rfl) (by kernel_rfl) (fun _ _ _ h => h) (Or.inl ⟨by rfl, fun w hSw => by have c0 := hse; go_simp⟩) h0 ?_
              try simp only [List.getElem_toArray, List.getElem_cons_zero, List.getElem_cons_succ, Act.put, List.setIfInBounds_toArray, List.set_cons_zero, List.set_cons_succ]
              refine wpAnyH_done (by kernel_rfl) ?_ _
              have HN := hide (HP.out.trans h0 (by simp))
              clear h0 hlk hcv1 hcv2 hrq cd c0 c1
              go_wp2
              go_roundw
              case rel => exact ⟨k + 1, by omega, by go_num, HN⟩
              case measure => simp [intOf]; omega
            · obtain rfl : k = m := by omega
              have hlt1 : ¬ (k : Int) < (k : Int) := by omega
              have HKF := hide (HKE.out.trans HP.out (by simp))
              have HKP := hide HP.out
              obtain ⟨m, rfl⟩ : ∃ r, r = k := ⟨_, rfl⟩
              clear HP HRW c1
              obtain ⟨wf, rfl⟩ : ∃ wo, wo = wr := ⟨_, rfl⟩
              have hsm := same9_ok aA aB nA nA cA cB (canon rr.2.1.N) (canon rr.2.1.N) wf HNA.out HNA.out ((HOA.out.kept (HKae.out.trans HKP.out (by simp)) (by simp)).ids.1) ((HOB.out.kept (HKce.out.trans HKP.out (by simp)) (by simp)).ids.1) (own_max9 HOA.out) (own_max9 HOA.out)
              rw [decide_eq_true rfl] at hsm
              go_wp2_with (go_at_call 23; refine hsm.mono ?_; rintro e wz ⟨rfl, hkz⟩; have HKZ := hide (HKF.out.trans hkz (by simp)); clear hsm hkz)

              go_ret
              exact ⟨rfl, HKZ.out⟩
        · as_aux_lemma =>
          have HF7 := hide hf7
          have HPK := hide hp
          clear hp hf7 HE
          have hR9 := HR.out.kept HKa.out
          have hla := lacksf_ok ((HMS.out.keptT HK6a.out).mfT HML.out) HGT.out (Nat.le_trans HHI.out HK6a.out.size) (HG.out.kept HKa.out) (HT.out.kept HKa.out (by simp)) ra rn rc RL hR9.len hR9.rss (by omega) hR9.far
          go_upto_region 17 with (go_at_call 20; refine hla.mono ?_; rintro e wc ⟨vL, r2, rfl, ht2, hO2, hk2⟩; have HO2 := hide hO2; have HT2 := hide ht2; have HKac := hide hk2; clear hla hO2 ht2 hk2)
          have eL := (tls_cong (fun q => Iff.rfl) HT2.out HTL.out).2.1
          have hoL := HO2.out
          rw [eL] at hoL
          obtain ⟨aL, cL, e9, _⟩ := own_shape hoL.1
          obtain ⟨nLk, hnLk⟩ : ∃ n, (canon rr.2.1.L).length = n := ⟨_, rfl⟩
          rw [hnLk] at e9
          subst e9
          have HNL := hide hnLk
          have HOL : Hid (OwnI wc wa.heap.size (.slice aL nLk cL) (canon rr.2.1.L)) := hide hoL
          have HK6c := hide (HK6a.out.trans HKac.out (by simp))
          have HKc := hide (HKa.out.trans HKac.out (by simp))
          have hR9 := HR.out.kept HKc.out
          have hnd := rneedT_ok (HSR.out.kept HK6c.out) (HFN.out.kept HK6c.out) ra rn rc RL hR9.len hR9.rss (by have := HMK.out; have := HMB.out; omega) (U := RL.map (·.root) ++ idsM M) (fun q hq => List.mem_append_left _ hq) (fun i xs E h1 h2 e he => List.mem_append_right _ (idsM_in i xs E h1 h2 e he)) (by have h1 := idsM_len (M := M); have h2 := HML.out; have h3 := HR.out.len; rw [List.length_append, List.length_map]; omega) (by omega) (mpf_nofail M) HTL.out
          have hnd : Calls Tryz.prog 21 #[.agg #[.slice aI m cI, .slice aD m cD, .slice aC m cC], .slice ra rn rc] wc (fun e w' => ∃ v : Value, e = .returned (.tuple #[.slice none 0 0, .int .i64 cd, .agg (bys i).toArray]) ∧ True ∧ Kept [] wc w') := hnd.mono (fun e w' h => by
            obtain ⟨v, c, i9, h1, h2, h3⟩ := h
            rcases h3 with ⟨h5, _⟩ | ⟨cd9, q, h5, rfl, rfl, rfl⟩
            · rw [HPK.out] at h5; cases h5
            · rw [HPK.out] at h5
              injection h5 with h5
              injection h5 with h5 h6
              subst h5
              subst h6
              exact ⟨.nilIface, h1, trivial, h2⟩)
          have hrowc : wc.rangeAt T8 0 [Value.slice aI m cI, Value.slice aD m cD, Value.slice aC m cC] := row_rangeK ((HK6c.out.block T8 HT8L.out (by simp)).trans HT8.out)
          have hzid := Tryz.zeroId
          clear hR9 eL hoL hnLk HT2 HO2
          go_upto_region 18 with (first
            | refine wpList_load_mid rfl 39 (.tmp 8) rfl T8 0 rfl [Value.slice aI m cI, Value.slice aD m cD, Value.slice aC m cC] _ hrowc Tryz.underlying39 rfl hsrl ?_
            | (go_at_call 21; refine hnd.mono ?_; rintro e wd ⟨vD, rfl, hcase, hk3⟩; have HCS := hide hcase; have HKcd := hide hk3; have hnz := new_atK wd (.cells zeroI 25); clear hnd hk3 hcase)
            | refine wpList_store_rowTo rfl 25 (.tmp 19) (.tmp 93) rfl rfl wd.heap.size (bys i).toArray rfl rfl 25 zeroI hnz (by rw [List.size_toArray]; exact idl _ hil) (by simp [zeroI, bys_length, hil, z32]) (bys_allT _) ?_)
          have HRN : Hid (((wd.alloc (.cells zeroI 25)).setRow wd.heap.size (bys i).toArray).heap[wd.heap.size]? = some (.cells (bys i).toArray 25 (0, 0))) := hide (setRow_heap _ _ _ _ _ _ hnz)
          have HKde : Hid (Kept [] wd ((wd.alloc (.cells zeroI 25)).setRow wd.heap.size (bys i).toArray)) := hide (kept_rowK ((Kept.refl [] wd).alloc _) (fun h => absurd h (Nat.lt_irrefl _)) _)
          clear hnz
          generalize (wd.alloc (.cells zeroI 25)).setRow wd.heap.size (bys i).toArray = wd2 at HRN HKde ⊢
          obtain ⟨tI, htI⟩ : ∃ r, wd.heap.size = r := ⟨_, rfl⟩
          rw [htI] at HRN ⊢
          clear htI
          have HKcd2 := hide (HKcd.out.trans HKde.out (by simp))
          have HK6d := hide (HK6c.out.trans HKcd2.out (by simp))
          have HKd := hide (HKc.out.trans HKcd2.out (by simp))
          have hR9 := HR.out.kept HKd.out
          have hlk := rlacksT_ok (HSR.out.kept HK6d.out) (HFN.out.kept HK6d.out) ra rn rc RL hR9.len hR9.rss (by have := HMK.out; have := HMB.out; omega) (U := RL.map (·.root) ++ idsM M) (fun q hq => List.mem_append_left _ hq) (fun i xs E h1 h2 e he => List.mem_append_right _ (idsM_in i xs E h1 h2 e he)) (by have h1 := idsM_len (M := M); have h2 := HML.out; have h3 := HR.out.len; rw [List.length_append, List.length_map]; omega) (by omega) (mpf_nofail M) HTL.out
          have hrowd : wd2.rangeAt T8 0 [Value.slice aI m cI, Value.slice aD m cD, Value.slice aC m cC] := row_rangeK ((HK6d.out.block T8 HT8L.out (by simp)).trans HT8.out)
          clear hR9
          go_upto_region 19 with (first
            | refine wpList_load_mid rfl 39 (.tmp 8) rfl T8 0 rfl [Value.slice aI m cI, Value.slice aD m cD, Value.slice aC m cC] _ hrowd Tryz.underlying39 rfl hsrl ?_
            | (go_at_call 22; refine hlk.mono ?_; rintro e we0 ⟨vK, rfl, hoK, hk3⟩; have HOK := hide hoK; have HKde0 := hide hk3; have hnz := new_atK we0 (.cells zeroI 25); clear hlk hk3 hoK)
            | refine wpList_store_rowTo rfl 25 (.tmp 22) (.tmp 100) rfl rfl we0.heap.size (bys z32).toArray rfl rfl 25 zeroI hnz (by rw [List.size_toArray]; exact idl _ rfl) (by simp [zeroI, bys_length, z32]) (bys_allT _) ?_)
          have HKe0 : Hid (Kept [] we0 ((we0.alloc (.cells zeroI 25)).setRow we0.heap.size (bys z32).toArray)) := hide (kept_rowK ((Kept.refl [] we0).alloc _) (fun h => absurd h (Nat.lt_irrefl _)) _)
          clear hnz hzid
          generalize (we0.alloc (.cells zeroI 25)).setRow we0.heap.size (bys z32).toArray = we at HKe0 ⊢
          have HKd2e := hide (HKde0.out.trans HKe0.out (by simp))
          have HK6e := hide (HK6d.out.trans HKd2e.out (by simp))
          have HKE := hide (HKd.out.trans HKd2e.out (by simp))
          have HKce := hide (HKcd2.out.trans HKd2e.out (by simp))
          have HKae := hide (HKac.out.trans HKce.out (by simp))
          obtain ⟨aK, cK, e9, _⟩ := own_shape HOK.out.1
          rw [HNL.out] at e9
          subst e9
          have hsm := same9_ok aL aK nLk nLk cL cK (canon rr.2.1.L) (canon rr.2.1.L) we HNL.out HNL.out ((HOL.out.kept HKce.out (by simp)).ids.1) ((HOK.out.kept HKe0.out (by simp)).ids.1) (own_max9 HOL.out) (own_max9 HOL.out)
          rw [decide_eq_true rfl] at hsm
          have him := (HMS.out.keptT HK6e.out).im
          have hlen : (M.map (·.1)).length = m := by rw [List.length_map]; exact HMM.out
          have hlm := him.size Tryz.underlying33
          rw [hlen] at hlm
          have c0 : we.cell? ⟨T8, 0, none⟩ = some (.slice aI m cI) := HK6e.out.cellOf (by rw [cell_of_row _ _ _ _ _ _ HT8.out]; rfl) (by simp)
          have hmm : ((m : Int) != (m : Int)) = false := by simp
          clear him hlen
          unfold faultV
          go_upto_region 21 with (first
            | (go_at_call 23; refine hsm.mono ?_; rintro e wz ⟨rfl, hkz⟩; have HKez := hide hkz; clear hsm hkz)
            | (at_builtin; refine wpList_lenI rfl 33 (.tmp 101) rfl (.map (some b)) rfl _ _ (hlm _) ?_))
          have HK6e := hide (HK6e.out.trans HKez.out (by simp))
          have HKE := hide (HKE.out.trans HKez.out (by simp))
          have HKce := hide (HKce.out.trans HKez.out (by simp))
          have HKae := hide (HKae.out.trans HKez.out (by simp))
          have HRI : Hid (wz.rangeAt tI 0 (bys i)) := hide (row_rangeK (((HKd2e.out.trans HKez.out (by simp)).block tI (Array.getElem?_eq_some_iff.1 HRN.out).1 (by simp)).trans HRN.out))
          clear hlm c0 HKez
          obtain ⟨we, rfl⟩ : ∃ r, r = wz := ⟨_, rfl⟩
          go_wp2
          go_loopw [23] (fun y wr => ∃ k : Nat, k ≤ m ∧ y = .int .i64 k ∧ Hid (Kept [] we wr)) (fun y wr => m - (intOf y).toNat)
          case atStart => exact ⟨0, Nat.zero_le _, rfl, hide (Kept.refl _ _)⟩
          case round =>
            obtain ⟨k, hk, rfl, HP⟩ := hrel
            have HRW := hide (HK6e.out.trans HP.out (by simp))
            have c0 : wr.cell? ⟨T8, 0, none⟩ = some (.slice aI m cI) := HRW.out.cellOf (by rw [cell_of_row _ _ _ _ _ _ HT8.out]; rfl) (by simp)
            have c1 : wr.cell? ⟨T8, 1, none⟩ = some (.slice aD m cD) := HRW.out.cellOf (by rw [cell_of_row _ _ _ _ _ _ HT8.out]; rfl) (by simp)
            by_cases hlt : k < m
            · as_aux_lemma =>
              have hlt1 : (k : Int) < (m : Int) := by omega
              have hmb : m ≤ 60 := HMB.out
              have hkl : k < (keyT IL).length := by rw [HMK.out]; exact hlt
              obtain ⟨⟨ai, ci, e1, hids⟩, ⟨ad, cd9, e2, hdat⟩, _⟩ := HSR.out.kept HRW.out
              injection e1 with e1a e1b e1c
              injection e2 with e2a e2b e2c
              subst e1a
              subst e2a
              clear e1b e1c e2b e2c
              obtain ⟨g1, o1, hao1, hrq⟩ := hids.1 k hkl
              obtain ⟨g2, o2, hao2, cd⟩ := hdat k hkl
              subst hao1
              subst hao2
              have hq : ((keyT IL).getD k []).length = 32 := hids.2 _ (gmem9 hkl)
              have hqk : (keyT IL).getD k [] ∈ keyT IL := gmem9 hkl
              have hdv : (dat9 (thrs IL (ids9 IL)) (keyT IL)).getD k unitv = (thr (fst9 IL ((keyT IL).getD k []))).dv := by
                unfold dat9
                rw [List.getD_eq_getElem?_getD, List.getElem?_map, List.getElem?_eq_getElem hkl, List.getD_eq_getElem?_getD, List.getElem?_eq_getElem hkl]
                show (fst9 (thrs IL (ids9 IL)) (keyT IL)[k]).dv = _
                rw [thrs_fst (List.getElem_mem _)]
                rfl
              obtain ⟨q, hqe⟩ : ∃ q, (keyT IL).getD k [] = q := ⟨_, rfl⟩
              rw [hqe] at hrq hq hqk hdv
              rw [hdv] at cd
              have hql := idl q hq
              have hfm := mpf_key hqk
              rw [HME.out] at hfm
              obtain ⟨z, hz, hz1, _⟩ := fst9_in (keyT_in hqk)
              have hin := ((HI.out.its z hz).2.inb.kept9 (HK06.out.trans HRW.out (by simp)))
              rw [← hz1] at hin
              obtain ⟨vv, hvo, _, hvl, hlk0⟩ := ((HMS.out.keptT HRW.out).mfT HML.out).lookT q hq hfm
              have hlk := fun W (hW : Kept [] wr W) => hlk0 [] W (by simp) hW
              obtain ⟨av, cv, ev, _⟩ := own_shape hvo
              have hov := hvo
              obtain ⟨ys, hys⟩ : ∃ ys, (fst9 IL q).bs = ys := ⟨_, rfl⟩
              obtain ⟨ao2, hao2⟩ : ∃ a, (fst9 IL q).ao = a := ⟨_, rfl⟩
              obtain ⟨yn, hyn⟩ : ∃ a, (fst9 IL q).n = a := ⟨_, rfl⟩
              obtain ⟨cc2, hcc2⟩ : ∃ a, (fst9 IL q).cap = a := ⟨_, rfl⟩
              have cd : wr.cell? ⟨g2, o2 + k, none⟩ = some (.slice ao2 yn cc2) := by rw [← hao2, ← hyn, ← hcc2]; exact cd
              rw [hys, hao2, hyn, hcc2] at hin
              rw [hys] at hvo hvl ev
              have hyl : ys.length = yn := hin.len
              rw [hyl] at ev
              subst ev
              have hslv : Sl wr av ys := own_slT hvo
              have hcv1 := fun W (hW : Kept [] wr W) => conv_sl W av yn cv ys hyl (hslv.kept hW (by simp)) (fun h => own_nilT hvo h)
              have hcv2 := fun W (hW : Kept [] wr W) => conv_sl W ao2 yn cc2 ys hyl (hin.sl.kept hW (by simp)) (fun h => by rw [← hyl, (hin.nil h).1]; rfl)
              have hcv1 := fun W (hW : Kept [] wr W) => hcv1 W hW
              have hse : (⟨ys.toArray⟩ : ByteArray) = ⟨ys.toArray⟩ := rfl
              clear hids hdat hkl hqk hdv hqe hfm hz hz1 hin hvo hvl hlk0 hov hys hao2 hyn hcc2 hyl hslv
              go_upto_region 24 with (fail)
              refine wp_region_held_drew (S := fun w' => Kept [] wr w') (by kernel_rfl) ((Kept.refl [] wr).drew) (fun h0 => ?_)
              generalize World.drew wr = v0 at h0  ⊢
              refine wpAnyH_take (i := 0) (v := .map (some b)) rfl (by kernel_rfl) (by kernel_rfl) (by kernel_rfl) (fun _ _ _ h => h) (Or.inl ⟨by rfl, fun w hSw => by go_simp⟩) h0 ?_
              try simp only [List.getElem_toArray, List.getElem_cons_zero, List.getElem_cons_succ, Act.put, List.setIfInBounds_toArray, List.set_cons_zero, List.set_cons_succ]
              refine wpAnyH_take (i := 1) (v := .pointer (some ⟨T8, 0, none⟩)) rfl (by kernel_rfl) (by kernel_rfl) (by kernel_rfl) (fun _ _ _ h => h) (Or.inl ⟨by rfl, fun w hSw => by go_simp⟩) h0 ?_
              try simp only [List.getElem_toArray, List.getElem_cons_zero, List.getElem_cons_succ, Act.put, List.setIfInBounds_toArray, List.set_cons_zero, List.set_cons_succ]
              refine wpAnyH_take (i := 2) (v := .slice (some ⟨g1, o1, none⟩) m cI) rfl (by kernel_rfl) (by kernel_rfl) (by kernel_rfl) (fun _ _ _ h => h) (Or.inl ⟨by rfl, fun w hSw => by have c0 := Kept.cellOf hSw c0 (by simp); go_simp⟩) h0 ?_
              try simp only [List.getElem_toArray, List.getElem_cons_zero, List.getElem_cons_succ, Act.put, List.setIfInBounds_toArray, List.set_cons_zero, List.set_cons_succ]
              refine wpAnyH_take (i := 3) (v := .int .i64 k) rfl (by kernel_rfl) (by kernel_rfl) (by kernel_rfl) (fun _ _ _ h => h) (Or.inl ⟨by rfl, fun w hSw => by go_simp⟩) h0 ?_
              try simp only [List.getElem_toArray, List.getElem_cons_zero, List.getElem_cons_succ, Act.put, List.setIfInBounds_toArray, List.set_cons_zero, List.set_cons_succ]
              refine wpAnyH_take (i := 4) (v := .pointer (some ⟨g1, o1 + k * 32, none⟩)) rfl (by kernel_rfl) (by kernel_rfl) (by kernel_rfl) (fun _ _ _ h => h) (Or.inl ⟨by rfl, fun w hSw => by go_simp⟩) h0 ?_
              try simp only [List.getElem_toArray, List.getElem_cons_zero, List.getElem_cons_succ, Act.put, List.setIfInBounds_toArray, List.set_cons_zero, List.set_cons_succ]
              refine wpAnyH_take (i := 5) (v := .agg (bys q).toArray) rfl (by kernel_rfl) (by kernel_rfl) (by kernel_rfl) (fun _ _ _ h => h) (yieldsIf_load_mid (by rfl) _ _ rfl g1 (o1 + k * 32) rfl (bys q) _ (fun W h => fun jj u hu => Kept.cellOf h (hrq jj u hu) (by simp)) Tryz.underlying25 rfl hql) h0 ?_
              try simp only [List.getElem_toArray, List.getElem_cons_zero, List.getElem_cons_succ, Act.put, List.setIfInBounds_toArray, List.set_cons_zero, List.set_cons_succ]
              refine wpAnyH_take (i := 6) (v := .slice av yn cv) rfl (by kernel_rfl) (by kernel_rfl) (by kernel_rfl) (fun _ _ _ h => h) (Or.inl ⟨by rfl, fun w hSw => by have c0 := hlk w hSw; go_simp⟩) h0 ?_
              try simp only [List.getElem_toArray, List.getElem_cons_zero, List.getElem_cons_succ, Act.put, List.setIfInBounds_toArray, List.set_cons_zero, List.set_cons_succ]
              refine wpAnyH_take (i := 7) (v := .string ⟨ys.toArray⟩) rfl (by kernel_rfl) (by kernel_rfl) (by kernel_rfl) (fun _ _ _ h => h) (Or.inl ⟨by rfl, fun w hSw => by have c0 := hcv1 w hSw; go_simp⟩) h0 ?_
              try simp only [List.getElem_toArray, List.getElem_cons_zero, List.getElem_cons_succ, Act.put, List.setIfInBounds_toArray, List.set_cons_zero, List.set_cons_succ]
              refine wpAnyH_take (i := 8) (v := .pointer (some ⟨T8, 1, none⟩)) rfl (by kernel_rfl) (by kernel_rfl) (by kernel_rfl) (fun _ _ _ h => h) (Or.inl ⟨by rfl, fun w hSw => by go_simp⟩) h0 ?_
              try simp only [List.getElem_toArray, List.getElem_cons_zero, List.getElem_cons_succ, Act.put, List.setIfInBounds_toArray, List.set_cons_zero, List.set_cons_succ]
              refine wpAnyH_take (i := 9) (v := .slice (some ⟨g2, o2, none⟩) m cD) rfl (by kernel_rfl) (by kernel_rfl) (by kernel_rfl) (fun _ _ _ h => h) (Or.inl ⟨by rfl, fun w hSw => by have c0 := Kept.cellOf hSw c1 (by simp); go_simp⟩) h0 ?_
              try simp only [List.getElem_toArray, List.getElem_cons_zero, List.getElem_cons_succ, Act.put, List.setIfInBounds_toArray, List.set_cons_zero, List.set_cons_succ]
              refine wpAnyH_take (i := 10) (v := .int .i64 k) rfl (by kernel_rfl) (by kernel_rfl) (by kernel_rfl) (fun _ _ _ h => h) (Or.inl ⟨by rfl, fun w hSw => by go_simp⟩) h0 ?_
              try simp only [List.getElem_toArray, List.getElem_cons_zero, List.getElem_cons_succ, Act.put, List.setIfInBounds_toArray, List.set_cons_zero, List.set_cons_succ]
              refine wpAnyH_take (i := 11) (v := .pointer (some ⟨g2, o2 + k, none⟩)) rfl (by kernel_rfl) (by kernel_rfl) (by kernel_rfl) (fun _ _ _ h => h) (Or.inl ⟨by rfl, fun w hSw => by go_simp⟩) h0 ?_
              try simp only [List.getElem_toArray, List.getElem_cons_zero, List.getElem_cons_succ, Act.put, List.setIfInBounds_toArray, List.set_cons_zero, List.set_cons_succ]
              refine wpAnyH_take (i := 12) (v := .slice ao2 yn cc2) rfl (by kernel_rfl) (by kernel_rfl) (by kernel_rfl) (fun _ _ _ h => h) (Or.inl ⟨by rfl, fun w hSw => by have c0 := Kept.cellOf hSw cd (by simp); go_simp⟩) h0 ?_
              try simp only [List.getElem_toArray, List.getElem_cons_zero, List.getElem_cons_succ, Act.put, List.setIfInBounds_toArray, List.set_cons_zero, List.set_cons_succ]
              refine wpAnyH_take (i := 13) (v := .string ⟨ys.toArray⟩) rfl (by kernel_rfl) (by kernel_rfl) (by kernel_rfl) (fun _ _ _ h => h) (Or.inl ⟨by rfl, fun w hSw => by have c0 := hcv2 w hSw; go_simp⟩) h0 ?_
              try simp only [List.getElem_toArray, List.getElem_cons_zero, List.getElem_cons_succ, Act.put, List.setIfInBounds_toArray, List.set_cons_zero, List.set_cons_succ]
              refine wpAnyH_take (i := 14) (v := .bool false) rfl (by kernel_rfl) (by kernel_rfl) (by kernel_rfl) (fun _ _ _ h => h) (Or.inl ⟨by rfl, fun w hSw => by have c0 := hse; go_simp⟩) h0 ?_
              try simp only [List.getElem_toArray, List.getElem_cons_zero, List.getElem_cons_succ, Act.put, List.setIfInBounds_toArray, List.set_cons_zero, List.set_cons_succ]
              refine wpAnyH_done (by kernel_rfl) ?_ _
              have HN := hide (HP.out.trans h0 (by simp))
              clear h0 hlk hcv1 hcv2 hrq cd c0 c1
              go_wp2
              go_roundw
              case rel => exact ⟨k + 1, by omega, by go_num, HN⟩
              case measure => simp [intOf]; omega
            · obtain rfl : k = m := by omega
              have hlt1 : ¬ (k : Int) < (k : Int) := by omega
              have HKF := hide (HKE.out.trans HP.out (by simp))
              have HKP := hide HP.out
              obtain ⟨m, rfl⟩ : ∃ r, r = k := ⟨_, rfl⟩
              clear HP HRW c1
              obtain ⟨wf, rfl⟩ : ∃ wo, wo = wr := ⟨_, rfl⟩
              have hrf := refused9_ok eb opNeed i cd wf (HG.out.kept HKF.out) (HF7.out.kept (HKae.out.trans HKP.out (by simp))) hil (picks_ne1 HPK.out)
              rw [show (⟨opNeed.toArray⟩ : ByteArray) = ⟨#[114, 101, 97, 99, 104, 46, 110, 101, 101, 100]⟩ from rfl] at hrf
              have hrI : wf.rangeAt tI 0 (bys i) := fun jj u hu => HKP.out.cellOf (HRI.out jj u hu) (by simp)
              have hcn : (cd != 0) = true := picks_ne0 HPK.out
              have hiI := idl i hil
              go_wp2_with (first
                | refine wpList_load_midw9 25 (.tmp 19) rfl tI 0 rfl (bys i) _ hrI Tryz.underlying25 rfl hiI (by kernel_rfl) ?_
                | (go_at_call 18; refine hrf.mono ?_; rintro e wz ⟨rfl, hkz⟩; have HKZ := hide (HKF.out.trans hkz (by simp)); clear hrf hkz))
              go_ret
              exact ⟨rfl, HKZ.out⟩
end Go.Proofs.YtngaimahhgmciaaGreatDoor
