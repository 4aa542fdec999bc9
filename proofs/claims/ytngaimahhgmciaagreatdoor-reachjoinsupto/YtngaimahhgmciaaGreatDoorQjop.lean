/-
  ReachJoins: the walk. (Written by tools/qjo.py.)
-/
import Derived.Test.YtngaimahhgmciaaGreatDoorQ9qp
import Derived.Test.YtngaimahhgmciaaGreatDoorQjap
namespace Go.Proofs.YtngaimahhgmciaaGreatDoor
open Go.RowKit Go.Lib Go.Sort
set_option linter.unusedVariables false
set_option linter.unusedSimpArgs false

theorem own_farZ {w : World} {base : Nat} {v : Value} {L : List Rz} (h : OwnZ w base v L) : ∀ g, v.ownBlock = some g → base ≤ g := own_far9 h
theorem rzrows_one (L : List Rz) : ∀ u ∈ rzrows L, u.oneCell' = true := fun u hu => by
  obtain ⟨z, _, h⟩ := List.mem_flatMap.1 hu
  exact rz_one z u h
/-- append(list, results...). -/
theorem run_appZs {w w0 : World} {v : Value} {L : List Rz} (h : OwnZ w w0.heap.size v L) (hb : w0.heap.size ≤ w.heap.size) (R : List Rz) (ao : Option Addr) (n c : Nat) (hR : InZ w ao n c R) (hl : L.length + n ≤ 4194304) :
    ∃ v' w', (Builtin.append_ #[23, 23] 23 #[v, .slice ao n c]).run Tryz.prog w = .ok v' w' ∧ OwnZ w' w0.heap.size v' (L ++ R) ∧ (∀ l, (∀ g, v.ownBlock = some g → g ∈ l) → Kept l w w') := by
  obtain ⟨i, hi, hx⟩ := Option.map_eq_some_iff.1 Tryz.infoRz9
  injection hx with e1 hx
  injection hx with e2 e3
  cases ao with
  | none =>
    obtain ⟨rfl, rfl⟩ := hR.nil rfl
    have hR0 : R = [] := List.eq_nil_of_length_eq_zero hR.len
    subst hR0
    rw [List.append_nil]
    exact ⟨_, _, run_append_owned_none (P := Tryz.prog) (w := w) w0.heap.size 23 23 30 i 65 Tryz.underlying23 hi _ L.length (rzrows L) h, h, fun l _ => Kept.refl l w⟩
  | some ad =>
    have hlen := hR.len
    obtain ⟨v', w', hrun, h1', h2, _⟩ := run_append_own_wide (P := Tryz.prog) w w0.heap.size 23 23 30 i (.agg zeroRz) 65 72 Tryz.underlying23 hi e3 e1 e2 rfl (by omega) v L.length (rzrows L) h ad n c (rzrows R) (by rw [rzrows_len, hlen])
      (fun j u hj => by
        have hjl : j < (rzrows R).length := (List.getElem?_eq_some_iff.1 hj).1
        rw [rzrows_len] at hjl
        have hk : j / 65 < R.length := by omega
        have hm : j % 65 < 65 := Nat.mod_lt _ (by omega)
        have hd : j / 65 * 65 + j % 65 = j := by omega
        obtain ⟨b, off, e, hr⟩ := hR.rss (j / 65) hk
        cases e
        rw [← hd, rzrows_at hk hm] at hj
        have := hr (j % 65) u hj
        rw [Addr.add_mid, show off + j = off + j / 65 * 65 + j % 65 by omega]
        exact this) (rzrows_one R) (by unfold maxLen; omega) (by omega) hb
    refine ⟨v', w', hrun, ?_, fun l hl2 => (Kept.refl l w).grown h2 (fun k hk _ => hl2 k hk)⟩
    unfold OwnZ
    rw [List.length_append, hlen, show rzrows (L ++ R) = rzrows L ++ rzrows R by simp [rzrows]]
    exact h1'
/-- append([]api.Result{}, results...). -/
theorem run_freshZ (w : World) (R : List Rz) (ao : Option Addr) (n c : Nat) (hR : InZ w ao n c R) (hl : n ≤ 1048576) :
    ∃ v' w', (Builtin.append_ #[23, 23] 23 #[.slice (some ⟨w.heap.size, 0, none⟩) 0 0, .slice ao n c]).run Tryz.prog (w.alloc (.cells #[] 30)) = .ok v' w' ∧ OwnZ w' w.heap.size v' R ∧ Kept [] w w' := by
  have hown : OwnZ (w.alloc (.cells #[] 30)) w.heap.size (.slice (some ⟨w.heap.size, 0, none⟩) 0 0) [] := World.ownsRow_made w #[] 0 (Nat.le_refl _) (by decide) rfl
  have hk := (Kept.refl [] w).alloc (.cells #[] 30)
  obtain ⟨v', w', hrun, h1, h2⟩ := run_appZs hown hk.size R ao n c (hR.kept hk) (by simp; omega)
  exact ⟨v', w', hrun, by simpa using h1, hk.trans (h2 [w.heap.size] (fun g hg => by simp [Value.ownBlock] at hg; simp [hg])) (fun j hj hlt => by simp at hj; omega)⟩
set_option maxHeartbeats 12800000 in
set_option maxRecDepth 100000 in
theorem joins_walk (ia : Option Addr) (in_ ic : Nat) (sa : Option Addr) (sn sc : Nat) (oa : Option Addr) (on oc : Nat) (IL : List It9) (SL OL : List Rz) (w : World) (gl : GlE w) (tabs : Tabs w) (hI : InI w ia in_ ic IL) (hS : InZ w sa sn sc SL) (hO : InZ w oa on oc OL) (hbS : sn ≤ 1048576) (hbO : on ≤ 1048576) :
    Calls Tryz.prog 8 #[.slice ia in_ ic, .slice sa sn sc, .slice oa on oc] w fun e w' => e = .returned (.bool true) ∧ Kept [] w w' := by
  have hkn := known9_ok w gl tabs
  have HG := hide gl
  have HT := hide tabs
  have HI := hide hI
  have HS := hide hS
  have HO := hide hO
  clear gl tabs hI hS hO
  go_enter Tryz.func8, Tryz.ntmps8
  go_upto_region 3 with (go_at_call 10; refine hkn.mono ?_; rintro e w1 ⟨rfl, hk1⟩; have HK1 := hide hk1; have hmp := mapped9_ok ia in_ ic IL w1 (HI.out.kept hk1); clear hkn hk1)
  go_upto_region 4 with (go_at_call 13; refine hmp.mono ?_; rintro e w2 ⟨b, V, rfl, hmw, hk2⟩; have HMW := hide hmw; have HK2 := hide (HK1.out.trans hk2 (by simp)); clear hmp hk2 hmw)
  obtain ⟨M, hM⟩ : ∃ M, map9 IL (ids9 IL) = M := ⟨_, rfl⟩
  have hMl : M.length ≤ 60 := by rw [← hM]; exact Nat.le_trans (map9_len IL _) (ids9_len IL)
  rw [hM] at HMW
  obtain ⟨lo, hlo⟩ : ∃ r, w1.heap.size = r := ⟨_, rfl⟩
  obtain ⟨hi, hhi⟩ : ∃ r, w2.heap.size = r := ⟨_, rfl⟩
  have hgt : 4 ≤ lo := by rw [← hlo]; exact Nat.le_trans HT.out.big HK1.out.size
  have HST : Hid (Std (.map (some b)) M (Rng lo hi) (Mst lo hi b M)) := hide (ms_std hgt)
  have HMS : Hid (Mst lo hi b M w2) := hide (by rw [← hlo, ← hhi]; exact ⟨V, HMW.out.ms⟩)
  have HLH : Hid (lo = w1.heap.size ∧ hi = w2.heap.size) := hide ⟨hlo.symm, hhi.symm⟩
  have HFR : Hid (∀ k, k < w.heap.size → ¬ Rng lo hi k) := hide (fun k hk h => by have := h.1; have := HLH.out.1; have := HK1.out.size; omega)
  have hS2 := HS.out.kept HK2.out
  have hnd := need9_ok HST.out HMS.out (fun k hk => by have := hk.2; have := HLH.out.2; omega) (HG.out.kept HK2.out) (HT.out.kept HK2.out (by simp)) sa sn sc SL hS2.len hS2.rss (by omega) hS2.far
  clear hM hlo hhi hgt HMW hS2
  obtain ⟨ra, hra⟩ : ∃ r, walkW (mpf M) [] (SL.map (·.root)) = r := ⟨_, rfl⟩
  obtain ⟨rb, hrb⟩ : ∃ r, walkW (mpf M) [] (OL.map (·.root)) = r := ⟨_, rfl⟩
  obtain ⟨rc, hrc⟩ : ∃ r, walkW (mpf M) [] ((SL ++ OL).map (·.root)) = r := ⟨_, rfl⟩
  have HTA : Hid (Tls (mpf M) (SL.map (·.root)) ra) := hide (by rw [← hra]; exact walk_sem (mpf_nofail M) [] _)
  have HTB : Hid (Tls (mpf M) (OL.map (·.root)) rb) := hide (by rw [← hrb]; exact walk_sem (mpf_nofail M) [] _)
  have HTC : Hid (Tls (mpf M) (SL.map (·.root) ++ OL.map (·.root)) rc) := hide (by rw [← List.map_append, ← hrc]; exact walk_sem (mpf_nofail M) [] _)
  have HNA : Hid ((canon ra.2.1.N).length ≤ sn + 1920) := hide (by have h := need_len (M := M) (roots := SL.map (·.root)); rw [hra, List.length_map, HS.out.len] at h; omega)
  have HNB : Hid ((canon rb.2.1.N).length ≤ on + 1920) := hide (by have h := need_len (M := M) (roots := OL.map (·.root)); rw [hrb, List.length_map, HO.out.len] at h; omega)
  have HRB := hide hrb
  have HRC := hide hrc
  clear hrb hrc
  go_upto_region 5 with (go_at_call 19; refine hnd.mono ?_; rintro e w3 hN; obtain ⟨v3, ev3, rfl, hE⟩ := hN.tup; rw [hra] at hE; have HN3 := hide (And.intro hN.kp (And.intro hN.st (And.intro hN.gl hN.tabs))); have HE3 := hide hE; clear hN hE hnd)
  have HKP3 : Hid (Kp (Rng lo hi) w w3) := hide ((Kp.ofKept (o := Rng lo hi) HK2.out (by simp)).trans HN3.out.1 (fun i h _ => h))
  have HH3 : Hid (hi ≤ w3.heap.size) := hide (by have := HLH.out.2; have := HN3.out.1.size; omega)
  have hO3 := HO.out.kp9 HKP3.out HFR.out
  have hnd := need9_ok HST.out HN3.out.2.1 (fun k hk => by have := hk.2; have := HH3.out; omega) HN3.out.2.2.1 HN3.out.2.2.2 oa on oc OL hO3.len hO3.rss (by omega) hO3.far
  clear hra hO3
  go_upto_region 6 with (go_at_call 19; refine hnd.mono ?_; rintro e w4 hN; obtain ⟨v4, ev4, rfl, hE⟩ := hN.tup; rw [HRB.out] at hE; have HN4 := hide (And.intro hN.kp (And.intro hN.st (And.intro hN.gl hN.tabs))); have HE4 := hide hE; clear hN hE hnd)
  have HKP4 : Hid (Kp (Rng lo hi) w w4) := hide (HKP3.out.trans HN4.out.1 (fun i h _ => h))
  have HE3b := hide (HE3.out.kp HN4.out.1 (fun b hb h => by have := h.2; have := HLH.out.2; omega))
  obtain ⟨v5, w5, hrun5, ho5, hk5⟩ := run_freshZ w4 SL sa sn sc (HS.out.kp9 HKP4.out HFR.out) hbS
  have HKP5 : Hid (Kp (Rng lo hi) w w5) := hide (HKP4.out.kept hk5)
  have hO5 := HO.out.kp9 HKP5.out HFR.out
  obtain ⟨v6, w6, hrun6, ho6, hk6⟩ := run_appZs ho5 hk5.size OL oa on oc hO5 (by rw [(HS.out).len]; omega)
  have hk46 : Kept [] w4 w6 := hk5.trans (hk6 v5.ownBlock.toList (fun g hg => by simp [hg])) (fun j hj hl => by have := own_farZ ho5 j (by simpa using hj); omega)
  obtain ⟨a6, c6, e6, _⟩ := own_shape ho6
  have hl6 : (SL ++ OL).length = sn + on := by rw [List.length_append, HS.out.len, HO.out.len]
  rw [hl6] at e6
  subst e6
  have HM6 : Hid (Mst lo hi b M w6) := hide (HN4.out.2.1.kept hk46)
  have HH6 : Hid (hi ≤ w6.heap.size) := hide (by have := HH3.out; have := HN4.out.1.size; have := hk46.size; omega)
  have hnd := need9_ok HST.out HM6.out (fun k hk => by have := hk.2; have := HH6.out; omega) (HN4.out.2.2.1.kept hk46) (HN4.out.2.2.2.kept hk46 (by simp)) a6 (sn + on) c6 (SL ++ OL) hl6 ho6.rss.1 (by omega) ho6.far
  have HK46 := hide hk46
  have HHX : Hid (w4.heap.size ≤ w6.heap.size) := hide hk46.size
  clear hO5 ho5 ho6 hk5 hk6 hk46
  obtain ⟨sno, hsno⟩ : ∃ k, sn + on = k := ⟨_, rfl⟩
  rw [hsno] at hrun6 hnd
  go_upto_region 7 with (first
    | (at_builtin; refine wpList_app_run9m rfl (.tmp 39) (.tmp 40) 23 23 rfl (.slice (some ⟨w4.heap.size, 0, none⟩) 0 0) (.slice sa sn sc) rfl rfl _ _ hrun5 ?_)
    | (at_builtin; refine wpList_app_run9m rfl (.tmp 41) (.tmp 42) 23 23 rfl v5 (.slice oa on oc) rfl rfl _ _ hrun6 ?_)
    | (go_at_call 19; refine hnd.mono ?_; rintro e wz hN; obtain ⟨v7, ev7, rfl, hE⟩ := hN.tup; rw [HRC.out] at hE; have HN7 := hide (And.intro hN.kp (And.intro hN.st (And.intro hN.gl hN.tabs))); have HE7 := hide hE; clear hN hE hnd hrun5 hrun6))
  have HKZ : Hid (Kept [] w wz) := hide (by
    have k := (HKP4.out.kept HK46.out).trans HN7.out.1 (fun i h _ => h)
    exact ⟨k.os, k.tape, k.output, k.size, fun i hi hn => k.block i hi (HFR.out i hi)⟩)
  have HE3 := hide (((HE3b.out.kept HK46.out).kp HN7.out.1 (fun b hb h => by have := h.2; have := HLH.out.2; omega)))
  have HE4 := hide ((HE4.out.kept HK46.out).kp HN7.out.1 (fun b hb h => by have := h.2; have := HH3.out; omega))
  have HPN := hide (joins_none HTA.out HTB.out HTC.out)
  clear HKP3 HKP4 HKP5 HN3 HN4 HN7 HE3b HST HMS HM6 HH6 HH3 HK46 hl6 hsno HI HS HO HK1 HK2 HG HT HLH HFR
  rcases HE3.out with ⟨hp3, rfl, ho3⟩ | ⟨cd, i, eb, hp3, rfl, rfl, hf3, _, _⟩
  · rcases HE4.out with ⟨hp4, rfl, ho4⟩ | ⟨cd, i, eb, hp4, rfl, rfl, hf4, _, _⟩
    · rcases HE7.out with ⟨hp7, rfl, ho7⟩ | ⟨cd, i, eb, hp7, rfl, rfl, hf7, _, _⟩
      rotate_left
      · rw [(HPN.out).2 ⟨hp3, hp4⟩] at hp7; cases hp7
      have HL9 := hide (joins_len HTA.out HTB.out HTC.out)
      have HM9 := hide (fun q => joins_mem HTA.out HTB.out HTC.out q)
      obtain ⟨A, hA⟩ : ∃ A, canon ra.2.1.N = A := ⟨_, rfl⟩
      obtain ⟨B, hB⟩ : ∃ A, canon rb.2.1.N = A := ⟨_, rfl⟩
      obtain ⟨C, hC⟩ : ∃ A, canon rc.2.1.N = A := ⟨_, rfl⟩
      rw [hA] at ho3 HL9 HM9
      rw [hB] at ho4 HL9 HM9
      rw [hC] at ho7 HL9 HM9
      obtain ⟨an, han⟩ : ∃ m, A.length = m := ⟨_, rfl⟩
      obtain ⟨bn, hbn⟩ : ∃ m, B.length = m := ⟨_, rfl⟩
      obtain ⟨cn, hcn⟩ : ∃ m, C.length = m := ⟨_, rfl⟩
      obtain ⟨a3, c3, e3, _⟩ := own_shape ho3.1
      obtain ⟨a4, c4, e4, _⟩ := own_shape ho4.1
      obtain ⟨a7, c7, e7, _⟩ := own_shape ho7.1
      rw [han] at e3
      rw [hbn] at e4
      rw [hcn] at e7
      subst e3
      subst e4
      subst e7
      have HOA := hide (And.intro ho3 (And.intro han trivial))
      have HOB := hide (And.intro ho4 (And.intro hbn trivial))
      have HOC := hide (And.intro ho7 (And.intro hcn trivial))
      have hanm : an ≤ 2199023255551 := by have := HNA.out; rw [hA, han] at this; omega
      have hbnm : bn ≤ 2199023255551 := by have := HNB.out; rw [hB, hbn] at this; omega
      have hcnm : cn ≤ 9223372036854775807 := own_max9 ho7
      have HBD : Hid (an ≤ 2199023255551 ∧ bn ≤ 2199023255551) := hide ⟨hanm, hbnm⟩
      clear hp3 hp4 hp7 ho3 ho4 ho7 han hbn hcn hA hB hC HE3 HE4 HE7 HPN HTA HTB HTC hanm hbnm hbS hbO
      go_wp2
      go_loopw [14, 15] (fun x y wr => ∃ (v : Value) (k : Nat), k ≤ an ∧ y = .int .i64 k ∧ v = x ∧ Hid (OwnI wr wz.heap.size v ((A.take k).foldl addI []) ∧ Kept [] wz wr)) (fun x y wr => an - (intOf y).toNat)
      case atStart => exact ⟨_, 0, Nat.zero_le _, rfl, rfl, hide ⟨⟨World.ownsRow_nil _ _ _ _, by simp⟩, Kept.refl _ _⟩⟩
      case round =>
        obtain ⟨v, k, hk, rfl, rfl, HP⟩ := hrel
        by_cases hlt : k < an
        · as_aux_lemma =>
          have hlt1 : (k : Int) < (an : Int) := by omega
          have hbb : an ≤ 2199023255551 := HBD.out.1
          have hkl : k < A.length := by rw [HOA.out.2.1]; exact hlt
          have hoA := HOA.out.1.kept HP.out.2 (fun _ _ => by simp)
          obtain ⟨g, off, hao, hrq⟩ := hoA.ids.1.1 k hkl
          have hq : (A.getD k []).length = 32 := hoA.2 _ (gmem9 hkl)
          obtain ⟨q, hqe⟩ : ∃ q, A.getD k [] = q := ⟨_, rfl⟩
          rw [hqe] at hrq hq
          have hql := idl q hq
          subst hao
          obtain ⟨ab, cb, eb, _⟩ := own_shape HP.out.1.1
          obtain ⟨nb, hnb⟩ : ∃ m, ((A.take k).foldl addI []).length = m := ⟨_, rfl⟩
          rw [hnb] at eb
          subst eb
          have hnbl : (nb + 1) * 32 ≤ 140737488355328 := by
            have h1 := addA_len (A := []) (B := A.take k)
            have h2 : (A.take k).length ≤ k := by rw [List.length_take]; exact Nat.min_le_left _ _
            have h3 := HBD.out
            have h4 : ([] : List (List UInt8)).length ≤ 0 := by simp
            omega
          have had := add9_ok wz.heap.size ab nb cb ((A.take k).foldl addI []) q wr HP.out.1 hnb HP.out.2.size hq hnbl
          have e1 : (A.take (k + 1)).foldl addI [] = addI ((A.take k).foldl addI []) q := by rw [addA_snoc hkl, hqe]
          rw [← e1] at had
          have hfar9 : ∀ g, (Value.slice ab nb cb).ownBlock = some g → wz.heap.size ≤ g := own_far9 HP.out.1.1
          have HFAR := hide hfar9
          clear hqe hkl hoA hnb hnbl e1 hfar9
          go_wp2_with (first
            | refine wpList_load_mid rfl 25 (.tmp 69) rfl g (off + k * 32) rfl (bys q) _ hrq Tryz.underlying25 rfl hql ?_
            | (go_at_call 27; refine had.mono ?_; rintro e w9 ⟨vv, rfl, hvv, hk9⟩; have HN : Hid (OwnI w9 wz.heap.size vv ((A.take (k + 1)).foldl addI []) ∧ Kept [] wz w9) := hide ⟨hvv, HP.out.2.trans hk9 (fun j hj hl => by have := HFAR.out j (by simpa using hj); omega)⟩; clear had hvv hk9))
          go_roundw
          case rel => exact ⟨vv, k + 1, by omega, by go_num, rfl, HN⟩
          case measure => simp [intOf]; omega
        · obtain rfl : k = an := by omega
          have hlt1 : ¬ (k : Int) < (k : Int) := by omega
          have HB1 : Hid (OwnI wr wz.heap.size v (A.foldl addI []) ∧ Kept [] wz wr) := hide ⟨by have := HP.out.1; rwa [List.take_of_length_le (by rw [HOA.out.2.1]; exact Nat.le_refl _)] at this, HP.out.2⟩
          clear HP
          obtain ⟨wl1, rfl⟩ : ∃ wo, wo = wr := ⟨_, rfl⟩
          go_wp2
          go_loopw [14, 16] (fun x y wr => ∃ (v : Value) (k : Nat), k ≤ bn ∧ y = .int .i64 k ∧ v = x ∧ Hid (OwnI wr wz.heap.size v ((B.take k).foldl addI (A.foldl addI [])) ∧ Kept [] wz wr)) (fun x y wr => bn - (intOf y).toNat)
          case atStart => exact ⟨_, 0, Nat.zero_le _, rfl, rfl, HB1⟩
          case round =>
            obtain ⟨v, k, hk, rfl, rfl, HP⟩ := hrel
            by_cases hlt : k < bn
            · as_aux_lemma =>
              have hlt1 : (k : Int) < (bn : Int) := by omega
              have hbb : bn ≤ 2199023255551 := HBD.out.2
              have hkl : k < B.length := by rw [HOB.out.2.1]; exact hlt
              have hoA := HOB.out.1.kept HP.out.2 (fun _ _ => by simp)
              obtain ⟨g, off, hao, hrq⟩ := hoA.ids.1.1 k hkl
              have hq : (B.getD k []).length = 32 := hoA.2 _ (gmem9 hkl)
              obtain ⟨q, hqe⟩ : ∃ q, B.getD k [] = q := ⟨_, rfl⟩
              rw [hqe] at hrq hq
              have hql := idl q hq
              subst hao
              obtain ⟨ab, cb, eb, _⟩ := own_shape HP.out.1.1
              obtain ⟨nb, hnb⟩ : ∃ m, ((B.take k).foldl addI (A.foldl addI [])).length = m := ⟨_, rfl⟩
              rw [hnb] at eb
              subst eb
              have hnbl : (nb + 1) * 32 ≤ 140737488355328 := by
                have h1 := addA_len (A := (A.foldl addI [])) (B := B.take k)
                have h2 : (B.take k).length ≤ k := by rw [List.length_take]; exact Nat.min_le_left _ _
                have h3 := HBD.out
                have h4 : (A.foldl addI []).length ≤ 2199023255551 := by have h5 := addA_len (A := []) (B := A); have h6 := HOA.out.2.1; simp only [List.length_nil] at h5; omega
                omega
              have had := add9_ok wz.heap.size ab nb cb ((B.take k).foldl addI (A.foldl addI [])) q wr HP.out.1 hnb HP.out.2.size hq hnbl
              have e1 : (B.take (k + 1)).foldl addI (A.foldl addI []) = addI ((B.take k).foldl addI (A.foldl addI [])) q := by rw [addA_snoc hkl, hqe]
              rw [← e1] at had
              have hfar9 : ∀ g, (Value.slice ab nb cb).ownBlock = some g → wz.heap.size ≤ g := own_far9 HP.out.1.1
              have HFAR := hide hfar9
              clear hqe hkl hoA hnb hnbl e1 hfar9
              go_wp2_with (first
                | refine wpList_load_mid rfl 25 (.tmp 81) rfl g (off + k * 32) rfl (bys q) _ hrq Tryz.underlying25 rfl hql ?_
                | (go_at_call 27; refine had.mono ?_; rintro e w9 ⟨vv, rfl, hvv, hk9⟩; have HN : Hid (OwnI w9 wz.heap.size vv ((B.take (k + 1)).foldl addI (A.foldl addI [])) ∧ Kept [] wz w9) := hide ⟨hvv, HP.out.2.trans hk9 (fun j hj hl => by have := HFAR.out j (by simpa using hj); omega)⟩; clear had hvv hk9))
              go_roundw
              case rel => exact ⟨vv, k + 1, by omega, by go_num, rfl, HN⟩
              case measure => simp [intOf]; omega
            · obtain rfl : k = bn := by omega
              have hlt1 : ¬ (k : Int) < (k : Int) := by omega
              have HB2 : Hid (OwnI wr wz.heap.size v (B.foldl addI (A.foldl addI [])) ∧ Kept [] wz wr) := hide ⟨by have := HP.out.1; rwa [List.take_of_length_le (by rw [HOB.out.2.1]; exact Nat.le_refl _)] at this, HP.out.2⟩
              clear HP
              obtain ⟨wl2, rfl⟩ : ∃ wo, wo = wr := ⟨_, rfl⟩
              obtain ⟨U, hU⟩ : ∃ U, B.foldl addI (A.foldl addI []) = U := ⟨_, rfl⟩
              have HB3 : Hid (OwnI wl2 wz.heap.size v U ∧ Kept [] wz wl2) := hide (by have := HB2.out; rwa [hU] at this)
              have hul : U.length = cn := by rw [← hU, ← HL9.out]; exact HOC.out.2.1
              have HMU : Hid (∀ q, q ∈ C → q ∈ U) := hide (fun q hq => by rw [← hU]; exact (HM9.out q).1 hq)
              obtain ⟨ab, cb, eb, _⟩ := own_shape HB3.out.1.1
              rw [hul] at eb
              subst eb
              have HUL := hide hul
              have hnn : ((cn : Int) != (cn : Int)) = false := by simp
              clear HB2 HB1 HL9 HM9 hU hul
              go_wp2
              go_loopw [17] (fun y wr => ∃ k : Nat, k ≤ cn ∧ y = .int .i64 k ∧ Hid (Kept [] wl2 wr)) (fun y wr => cn - (intOf y).toNat)
              case atStart => exact ⟨0, Nat.zero_le _, rfl, hide (Kept.refl _ _)⟩
              case round =>
                obtain ⟨k, hk, rfl, HP⟩ := hrel
                by_cases hlt : k < cn
                · as_aux_lemma =>
                  have hlt1 : (k : Int) < (cn : Int) := by omega
                  have hkl : k < C.length := by rw [HOC.out.2.1]; exact hlt
                  have hoA := (HOC.out.1.kept HB3.out.2 (fun _ _ => by simp)).kept HP.out (fun _ _ => by simp)
                  obtain ⟨g, off, hao, hrq⟩ := hoA.ids.1.1 k hkl
                  have hq : (C.getD k []).length = 32 := hoA.2 _ (gmem9 hkl)
                  have hin : C.getD k [] ∈ U := HMU.out _ (gmem9 hkl)
                  obtain ⟨q, hqe⟩ : ∃ q, C.getD k [] = q := ⟨_, rfl⟩
                  rw [hqe] at hrq hq hin
                  have hql := idl q hq
                  subst hao
                  have hat := at9_ok ab cn cb U q wr HUL.out ((HB3.out.1.kept HP.out (fun _ _ => by simp)).ids.1) hq hin hcnm
                  clear hqe hkl hoA hin
                  go_wp2_with (first
                    | refine wpList_load_mid rfl 25 (.tmp 102) rfl g (off + k * 32) rfl (bys q) _ hrq Tryz.underlying25 rfl hql ?_
                    | (go_at_call 28; refine hat.mono ?_; rintro e w9 ⟨kk, rfl, hk9⟩; have HN := hide (HP.out.trans hk9 (by simp)); have hnk : ¬ (kk : Int) < 0 := Int.not_lt.2 (Int.natCast_nonneg kk); clear hat hk9))
                  go_roundw
                  case rel => exact ⟨k + 1, by omega, by go_num, HN⟩
                  case measure => simp [intOf]; omega
                · obtain rfl : k = cn := by omega
                  have hlt1 : ¬ (k : Int) < (k : Int) := by omega
                  have HKF := hide ((HKZ.out.trans HB3.out.2 (by simp)).trans HP.out (by simp))
                  go_wp2
                  go_ret
                  exact ⟨rfl, HKF.out⟩
    · rcases HE7.out with ⟨hp7, rfl, _⟩ | ⟨cd7, i7, eb7, hp7, rfl, rfl, hf7, _, _⟩
      · rw [(HPN.out.1 hp7).2] at hp4; cases hp4
      clear hp3 hp4 hp7 ho3 hf4 hf7 HE3 HE4 HE7 HPN HTA HTB HTC
      unfold faultV
      go_wp2
      go_ret
      exact ⟨rfl, HKZ.out⟩
  · rcases HE7.out with ⟨hp7, rfl, _⟩ | ⟨cd7, i7, eb7, hp7, rfl, rfl, hf7, _, _⟩
    · rw [(HPN.out.1 hp7).1] at hp3; cases hp3
    clear hp3 hp7 hf3 hf7 HE3 HE4 HE7 HPN HTA HTB HTC
    unfold faultV
    go_wp2
    go_ret
    exact ⟨rfl, HKZ.out⟩
end Go.Proofs.YtngaimahhgmciaaGreatDoor
