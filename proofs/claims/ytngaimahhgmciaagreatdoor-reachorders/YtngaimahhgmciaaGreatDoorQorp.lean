/-
  ReachOrders: the walk. (Written by tools/qor.py.)
-/
import Derived.Test.YtngaimahhgmciaaGreatDoorQ9qp
import Derived.Test.YtngaimahhgmciaaGreatDoorQ9mp
import Derived.Test.YtngaimahhgmciaaGreatDoorRmnp
namespace Go.Proofs.YtngaimahhgmciaaGreatDoor
open Go.RowKit Go.Lib Go.Sort
set_option linter.unusedVariables false
set_option linter.unusedSimpArgs false

/-- Numbers that came in. -/
structure InT (w : World) (ao : Option Addr) (n c : Nat) (L : List Int) : Prop where
  len : L.length = n
  le : n ≤ c
  max : n ≤ 17592186043904
  at_ : ∀ i, i < L.length → ∃ b off, ao = some ⟨b, off, none⟩ ∧ w.cell? ⟨b, off + i, none⟩ = some (.int .i64 (L.getD i 0))
  wf : ∀ x ∈ L, (Lit.int .i64 x).wf = true
theorem InT.kept {w w' : World} {ao : Option Addr} {n c : Nat} {L : List Int} (h : InT w ao n c L) (hk : Kept [] w w') : InT w' ao n c L := ⟨h.len, h.le, h.max, fun i hi => by
  obtain ⟨b, off, e, hc⟩ := h.at_ i hi
  exact ⟨b, off, e, hk.cellOf hc (by simp)⟩, h.wf⟩
theorem ErrN.base9 {w : World} {b1 b2 : Nat} {p : Option (Int × List UInt8)} {N : List (List UInt8)} {v ev : Value} (h : ErrN w b1 p N v ev) (hb : b2 ≤ b1) : ErrN w b2 p N v ev := by
  rcases h with ⟨h1, h2, h3⟩ | ⟨cd, i, eb, h1, h2, h3, h4, h5, h6⟩
  · exact .inl ⟨h1, h2, h3.base9 hb⟩
  · exact .inr ⟨cd, i, eb, h1, h2, h3, h4, Nat.le_trans hb h5, h6⟩
theorem wp_world9 {P : Program} {c : Code} {Q : Exit → Act → World → Prop} {a : Act} {w W0 : World} (h : ∀ W, Kept [] w W → Code.wp P c Q a W) (hk : Kept [] w W0) : Code.wp P c Q a W0 := h W0 hk
theorem wp_world9c {P : Program} {c : Code} {Q : Exit → Act → World → Prop} {a : Act} {w : World} {o1 o2 : Obj} (h : ∀ W, Kept [] w W → W.heap[w.heap.size]? = some o1 → W.heap[w.heap.size + 1]? = some o2 → Code.wp P c Q a W) : Code.wp P c Q a ((w.alloc o1).alloc o2) := by
  have hk : Kept [] w (w.alloc o1) := (Kept.refl [] w).alloc _
  have h1 := new_atK w o1
  have h2 := new_atK (w.alloc o1) o2
  have hs : (w.alloc o1).heap.size = w.heap.size + 1 := by show (w.heap.push o1).size = _; simp
  refine h _ (hk.alloc _) ?_ (by rw [hs] at h2; exact h2)
  have hk2 : Kept [] (w.alloc o1) ((w.alloc o1).alloc o2) := (Kept.refl [] _).alloc _
  rw [hk2.block _ (Array.getElem?_eq_some_iff.1 h1).1 (by simp)]
  exact h1
theorem OwnZ.kp9 {o : Nat → Prop} {w w' : World} {base : Nat} {v : Value} {L : List Rz} (h : OwnZ w base v L) (hk : Kp o w w') (hn : ∀ g, base ≤ g → ¬ o g) : OwnZ w' base v L := by
  refine ⟨h.1, ?_⟩
  rcases h.2 with h1 | ⟨g, cap, cur, hv, hb, hg, rest⟩
  · exact .inl h1
  · refine .inr ⟨g, cap, cur, hv, hb, ?_, rest⟩
    rw [hk.block g (Array.getElem?_eq_some_iff.1 hg).1 (hn g hb)]
    exact hg

set_option maxHeartbeats 12800000 in
set_option maxRecDepth 100000 in
theorem orders_walk (ia : Option Addr) (in_ ic : Nat) (ra : Option Addr) (rn rc : Nat) (ta : Option Addr) (tn tc : Nat) (IL : List It9) (RL : List Rz) (TL : List Int) (w : World) (gl : GlE w) (tabs : Tabs w) (hI : InI w ia in_ ic IL) (hR : InZ w ra rn rc RL) (hT : InT w ta tn tc TL) :
    Calls Tryz.prog 7 #[.slice ia in_ ic, .slice ra rn rc, .slice ta tn tc] w fun e w' => e = .returned (.bool true) ∧ Kept [] w w' := by
  have hkn := known9_ok w gl tabs
  have HG := hide gl
  have HT := hide tabs
  have HI := hide hI
  have HR := hide hR
  have HTN := hide hT
  have hr72 := hR.max
  have hrle := hR.le
  have hrn : rn ≤ 1954687338211 := by omega
  clear gl tabs hI hR hT hr72 hrle
  go_enter Tryz.func7, Tryz.ntmps7
  go_upto_region 3 with (go_at_call 10; refine hkn.mono ?_; rintro e w1 ⟨rfl, hk1⟩; have HK1 := hide hk1; have hmp := mapped9_ok ia in_ ic IL w1 (HI.out.kept hk1); clear hkn hk1)
  go_upto_region 4 with (go_at_call 13; refine hmp.mono ?_; rintro e w2 ⟨b, V, rfl, hmw, hk2⟩; have HMW := hide hmw; have HK2 := hide (HK1.out.trans hk2 (by simp)); clear hmp hk2 hmw)
  obtain ⟨M, hM⟩ : ∃ M, map9 IL (ids9 IL) = M := ⟨_, rfl⟩
  have hMl : M.length ≤ 60 := by rw [← hM]; exact Nat.le_trans (map9_len IL _) (ids9_len IL)
  rw [hM] at HMW
  obtain ⟨lo, hlo⟩ : ∃ r, w1.heap.size = r := ⟨_, rfl⟩
  obtain ⟨hi, hhi⟩ : ∃ r, w2.heap.size = r := ⟨_, rfl⟩
  have hgt : 4 ≤ lo := by rw [← hlo]; exact Nat.le_trans HT.out.big HK1.out.size
  have HST : Hid (Std (.map (some b)) M (Rng lo hi) (Mst lo hi b M)) := hide (ms_std hgt)
  have HMS : Hid (Mst lo hi b M w2) := hide (by rw [← hlo, ← hhi]; exact ⟨V, HMW.out.ms⟩)
  have HLH : Hid (lo = w1.heap.size ∧ hi = w2.heap.size) := hide ⟨hlo.symm, hhi.symm⟩
  have hR2 := HR.out.kept HK2.out
  have hnd := need9_ok HST.out HMS.out (fun k hk => by have := hk.2; have := HLH.out.2; omega) (HG.out.kept HK2.out) (HT.out.kept HK2.out (by simp)) ra rn rc RL hR2.len hR2.rss (by omega) hR2.far
  clear hM hlo hhi hgt HMW hR2
  obtain ⟨rr, hrr⟩ : ∃ r, walkW (mpf M) [] (RL.map (·.root)) = r := ⟨_, rfl⟩
  have HRR := hide hrr
  have HTL : Hid (Tls (mpf M) (RL.map (·.root)) rr) := hide (by rw [← hrr]; exact walk_sem (mpf_nofail M) [] _)
  go_upto_region 5 with (go_at_call 19; refine hnd.mono ?_; rintro e w3 hN; obtain ⟨v3, ev, rfl, hE⟩ := hN.tup; rw [hrr] at hE; have HN := hide (And.intro hN.kp (And.intro hN.st (And.intro hN.gl hN.tabs))); have HE := hide hE; clear hN hE hnd)
  have HK3 : Hid (Kept [] w w3) := hide (by
    have k := (Kp.ofKept (o := Rng lo hi) HK2.out (by simp)).trans HN.out.1 (fun i h _ => h)
    exact ⟨k.os, k.tape, k.output, k.size, fun i hi hn => k.block i hi (fun h => by have := h.1; have := HLH.out.1; have := HK1.out.size; omega)⟩)
  have HLO : Hid (w3.heap.size ≤ w3.heap.size) := hide (Nat.le_refl _)
  have hw0 : IntKind.i64.wrap ((rn : Int) - 1) = (rn : Int) - 1 := by
    simp [IntKind.wrap, IntKind.min, IntKind.max, IntKind.bits, IntKind.signed]
    omega
  clear hrr
  go_wp2
  go_loopw [10, 11] (fun z y wr => ∃ (v : Value) (k : Nat) (L : List Rz), k ≤ rn ∧ y = .int .i64 ((k : Int) - 1) ∧ v = z ∧ Hid (OwnZ wr w3.heap.size v L ∧ L.length + k = rn ∧ (∀ q, q ∈ L.map (·.root) ↔ ∃ j, k ≤ j ∧ j < RL.length ∧ (RL.getD j rz0).root = q) ∧ True ∧ Kept [] w3 wr)) (fun z y wr => (intOf y + 1).toNat)
  case atStart => exact ⟨_, rn, [], Nat.le_refl _, rfl, rfl, hide ⟨OwnZ.nil _ _, by simp, fun q => ⟨fun h => by simp at h, fun ⟨j, h1, h2, _⟩ => by have := HR.out.len; omega⟩, trivial, Kept.refl _ _⟩⟩
  case round =>
    obtain ⟨v, k, L, hk, rfl, rfl, HO⟩ := hrel
    cases k with
    | zero =>
      have hneg : ¬ (0 : Int) ≤ ((0 : Nat) : Int) - 1 := by omega
      have HO2 : Hid (OwnZ wr w3.heap.size v L ∧ L.length = rn ∧ (∀ q, q ∈ L.map (·.root) ↔ q ∈ RL.map (·.root)) ∧ Kept [] w3 wr) := hide ⟨HO.out.1, by have := HO.out.2.1; omega, fun q => by
        rw [HO.out.2.2.1 q, List.mem_map]
        constructor
        · rintro ⟨j, _, h2, h3⟩
          exact ⟨_, by rw [List.getD_eq_getElem?_getD, List.getElem?_eq_getElem h2] at h3; exact List.getElem_mem h2, by rw [List.getD_eq_getElem?_getD, List.getElem?_eq_getElem h2] at h3; exact h3⟩
        · rintro ⟨z, hz, e⟩
          obtain ⟨j, hj, e2⟩ := List.getElem_of_mem hz
          exact ⟨j, Nat.zero_le _, hj, by rw [List.getD_eq_getElem?_getD, List.getElem?_eq_getElem hj, ← e, ← e2]; rfl⟩, HO.out.2.2.2.2⟩
      clear HO
      obtain ⟨wo, rfl⟩ : ∃ wo, wo = wr := ⟨_, rfl⟩
      go_wp2
      go_loopw [10, 12] (fun z y wx => ∃ (v : Value) (m : Nat) (L : List Rz), m ≤ 60 ∧ y = .int .i64 m ∧ v = z ∧ Hid (OwnZ wx w3.heap.size v L ∧ L.length = rn + m ∧ (∀ q, q ∈ L.map (·.root) ↔ q ∈ RL.map (·.root)) ∧ Kept [] w3 wx)) (fun z y wx => 60 - (intOf y).toNat)
      case atStart => exact ⟨v, 0, L, by omega, rfl, rfl, hide ⟨HO2.out.1, HO2.out.2.1, HO2.out.2.2.1, HO2.out.2.2.2⟩⟩
      case round =>
        clear HO2
        obtain ⟨v, m, L, hm60, rfl, rfl, HC⟩ := hrel
        go_upto_region 11 with (fail)
        go_cut [66] from 54 to 66 (fun y wx => ∃ bb : Bool, y = .bool bb ∧ Hid (bb = decide (m < tn ∧ m < 60 ∧ 0 < rn)) ∧ wx = wr)
        case first =>
          by_cases h1 : m < tn
          · have g1 : (m : Int) < (tn : Int) := by omega
            by_cases h2 : m < 60
            · have g2 : (m : Int) < 60 := by omega
              by_cases h3 : 0 < rn
              · have g3 : (0 : Int) < (rn : Int) := by omega
                go_wp2
                go_meet
                case rel => exact ⟨true, rfl, hide (by simp [h1, h2, h3]), rfl⟩
              · have g3 : ¬ (0 : Int) < (rn : Int) := by omega
                go_wp2
                go_meet
                case rel => exact ⟨false, rfl, hide (by simp [h3]), rfl⟩
            · have g2 : ¬ (m : Int) < 60 := by omega
              go_wp2
              go_meet
              case rel => exact ⟨false, rfl, hide (by simp [h2]), rfl⟩
          · have g1 : ¬ (m : Int) < (tn : Int) := by omega
            go_wp2
            go_meet
            case rel => exact ⟨false, rfl, hide (by simp [h1]), rfl⟩
        case rest =>
        obtain ⟨bb, rfl, HBB, hwc⟩ := hcut
        obtain rfl := hwc.symm
        cases bb with
        | true =>
          obtain ⟨c1, c2, c3⟩ : m < tn ∧ m < 60 ∧ 0 < rn := by simpa using HBB.out.symm
          obtain ⟨b3, o3, hab3, hcx⟩ := ((HTN.out.kept HK3.out).kept HC.out.2.2.2).at_ m (by rw [HTN.out.len]; exact c1)
          subst hab3
          obtain ⟨x, hx⟩ : ∃ x, TL.getD m 0 = x := ⟨_, rfl⟩
          rw [hx] at hcx
          have hb1 : -(rn : Int) < x.tmod (rn : Int) := Int.lt_tmod_of_pos x (by omega)
          have hb2 : x.tmod (rn : Int) < (rn : Int) := Int.tmod_lt_of_pos x (by omega)
          have hnz : ¬ ((rn : Int) = 0) := by omega
          have hnm1 : ¬ ((rn : Int) = -1) := by omega
          obtain ⟨r, hr⟩ : ∃ r, x.tmod (rn : Int) = r := ⟨_, rfl⟩
          rw [hr] at hb1 hb2
          clear hx
          by_cases hneg : r < 0
          · obtain ⟨k2, hk2⟩ : ∃ k2 : Nat, r + (rn : Int) = (k2 : Int) := ⟨(r + rn).toNat, by omega⟩
            have hk2r : k2 < rn := by omega
            have hk2i : (k2 : Int) < (rn : Int) := by omega
            have hww : IntKind.i64.wrap (k2 : Int) = (k2 : Int) := wrap_small9 k2 (by omega)
            go_upto_region 16 with (fail)
            obtain ⟨b2, o2, hab2, hrg⟩ := ((HR.out.kept HK3.out).kept HC.out.2.2.2).rss k2 (by rw [HR.out.len]; omega)
            subst hab2
            obtain ⟨rz, hrz⟩ : ∃ rz, RL.getD k2 rz0 = rz := ⟨_, rfl⟩
            have HRZ : Hid (rz ∈ RL) := hide (by rw [← hrz, List.getD_eq_getElem?_getD, List.getElem?_eq_getElem (by rw [HR.out.len]; omega)]; exact List.getElem_mem _)
            rw [hrz] at hrg
            have hil : (Tryz.prog.info? 30).map (·.size) = some rz.cells.length := by rw [rz.len]; exact Tryz.infoRes9
            have ka : Kept [] wr (wr.alloc (.cells rz.cells.toArray 30)) := (Kept.refl [] wr).alloc _
            obtain ⟨v', w', hrun, h1, h2⟩ := run_appZ (HC.out.1.kept ka (fun _ _ => by simp)) (Nat.le_trans HC.out.2.2.2.size ka.size) rz wr.heap.size (new_atK _ _) (by have := HC.out.2.1; omega)
            have h3 := h2 v.ownBlock.toList (fun g hg => by simp [hg])
            have H9 := hide (And.intro h1 h3)
            have HKA := hide ka
            clear h1 h2 h3 ka hrz
            go_wp2_with (first
              | refine wpList_load_mid rfl 30 (.tmp 85) rfl b2 (o2 + k2 * 65) rfl rz.cells _ hrg Tryz.underlying30 rfl hil ?_
              | refine wpList_buildZ rfl (.tmp 86) rfl rz rfl ?_
              | (at_builtin; refine wpList_app_run9m rfl (.tmp 82) (.tmp 87) 23 23 rfl v (.slice (some ⟨wr.heap.size, 0, none⟩) 1 1) rfl rfl _ _ hrun ?_))
            go_roundw
            case rel =>
              refine ⟨v', m + 1, L ++ [rz], by omega, by go_num, rfl, hide ⟨H9.out.1, by have := HC.out.2.1; simp only [List.length_append, List.length_singleton]; omega, fun q => ?_, (HC.out.2.2.2.trans HKA.out (by simp)).trans H9.out.2 (fun j hj hlt => by have := own_far9 HC.out.1 j (by simpa using hj); omega)⟩⟩
              rw [List.map_append, List.mem_append, HC.out.2.2.1 q]
              simp only [List.map_cons, List.map_nil, List.mem_singleton]
              exact ⟨fun h => h.elim id (fun e => List.mem_map.2 ⟨rz, HRZ.out, e.symm⟩), .inl⟩
            case measure => simp [intOf] <;> omega
          · obtain ⟨k2, hk2⟩ : ∃ k2 : Nat, r = (k2 : Int) := ⟨r.toNat, by omega⟩
            have hk2r : k2 < rn := by omega
            have hk2i : (k2 : Int) < (rn : Int) := by omega
            have hneg2 : ¬ (k2 : Int) < 0 := by omega
            rw [hk2] at hr
            clear hneg
            go_upto_region 16 with (fail)
            obtain ⟨b2, o2, hab2, hrg⟩ := ((HR.out.kept HK3.out).kept HC.out.2.2.2).rss k2 (by rw [HR.out.len]; omega)
            subst hab2
            obtain ⟨rz, hrz⟩ : ∃ rz, RL.getD k2 rz0 = rz := ⟨_, rfl⟩
            have HRZ : Hid (rz ∈ RL) := hide (by rw [← hrz, List.getD_eq_getElem?_getD, List.getElem?_eq_getElem (by rw [HR.out.len]; omega)]; exact List.getElem_mem _)
            rw [hrz] at hrg
            have hil : (Tryz.prog.info? 30).map (·.size) = some rz.cells.length := by rw [rz.len]; exact Tryz.infoRes9
            have ka : Kept [] wr (wr.alloc (.cells rz.cells.toArray 30)) := (Kept.refl [] wr).alloc _
            obtain ⟨v', w', hrun, h1, h2⟩ := run_appZ (HC.out.1.kept ka (fun _ _ => by simp)) (Nat.le_trans HC.out.2.2.2.size ka.size) rz wr.heap.size (new_atK _ _) (by have := HC.out.2.1; omega)
            have h3 := h2 v.ownBlock.toList (fun g hg => by simp [hg])
            have H9 := hide (And.intro h1 h3)
            have HKA := hide ka
            clear h1 h2 h3 ka hrz
            go_wp2_with (first
              | refine wpList_load_mid rfl 30 (.tmp 85) rfl b2 (o2 + k2 * 65) rfl rz.cells _ hrg Tryz.underlying30 rfl hil ?_
              | refine wpList_buildZ rfl (.tmp 86) rfl rz rfl ?_
              | (at_builtin; refine wpList_app_run9m rfl (.tmp 82) (.tmp 87) 23 23 rfl v (.slice (some ⟨wr.heap.size, 0, none⟩) 1 1) rfl rfl _ _ hrun ?_))
            go_roundw
            case rel =>
              refine ⟨v', m + 1, L ++ [rz], by omega, by go_num, rfl, hide ⟨H9.out.1, by have := HC.out.2.1; simp only [List.length_append, List.length_singleton]; omega, fun q => ?_, (HC.out.2.2.2.trans HKA.out (by simp)).trans H9.out.2 (fun j hj hlt => by have := own_far9 HC.out.1 j (by simpa using hj); omega)⟩⟩
              rw [List.map_append, List.mem_append, HC.out.2.2.1 q]
              simp only [List.map_cons, List.map_nil, List.mem_singleton]
              exact ⟨fun h => h.elim id (fun e => List.mem_map.2 ⟨rz, HRZ.out, e.symm⟩), .inl⟩
            case measure => simp [intOf] <;> omega
        | false =>
          have HMB : Hid (Mst lo hi b M wr) := hide (HN.out.2.1.kept HC.out.2.2.2)
          have HGB : Hid (GlE wr) := hide (HN.out.2.2.1.kept HC.out.2.2.2)
          have HTB : Hid (Tabs wr) := hide (HN.out.2.2.2.kept HC.out.2.2.2 (by simp))
          obtain ⟨oa, oc, hv, _⟩ := own_shape HC.out.1
          obtain ⟨on, hon⟩ : ∃ on, L.length = on := ⟨_, rfl⟩
          rw [hon] at hv
          have HON := hide hon
          clear hon
          subst hv
          have hrs := HC.out.1.rss
          have hnd := need9_ok HST.out HMB.out (fun k hk => by have := hk.2; have := HLH.out.2; have := HC.out.2.2.2.size; have := HN.out.1.size; omega) HGB.out HTB.out oa on oc L HON.out hrs.1 (by have := HON.out; have := HC.out.2.1; omega) HC.out.1.far
          obtain ⟨ro, hro⟩ : ∃ r, walkW (mpf M) [] (L.map (·.root)) = r := ⟨_, rfl⟩
          have HRO := hide hro
          have HTO : Hid (Tls (mpf M) (L.map (·.root)) ro) := hide (by rw [← hro]; exact walk_sem (mpf_nofail M) [] _)
          clear hrs
          go_upto_region 18 with (go_at_call 19; refine hnd.mono ?_; rintro e w5 hN; obtain ⟨v5, ev5, rfl, hE⟩ := hN.tup; rw [hro] at hE; have HN5 := hide (And.intro hN.kp (And.intro hN.st (And.intro hN.gl hN.tabs))); have HE5 := hide hE; clear hN hE hnd)
          have HKP5 : Hid (Kp (Rng lo hi) w w5) := hide (((Kp.ofKept (o := Rng lo hi) HK3.out (by simp)).trans (Kp.ofKept (o := Rng lo hi) HC.out.2.2.2 (by simp)) (fun i h _ => h)).trans HN5.out.1 (fun i h _ => h))
          have HFR : Hid (∀ k, k < w.heap.size → ¬ Rng lo hi k) := hide (fun k hk h => by have := h.1; have := HLH.out.1; have := HK1.out.size; omega)
          have HFB : Hid (∀ g, w3.heap.size ≤ g → ¬ Rng lo hi g) := hide (fun g hg h => by have := h.2; have := HLH.out.2; have := HN.out.1.size; omega)
          have HZ5 := hide (HC.out.1.kp9 HN5.out.1 HFB.out)
          have HK35 : Hid (w3.heap.size ≤ wr.heap.size) := hide HC.out.2.2.2.size
          have HEA : Hid (ErrN wr w2.heap.size (picks rr.2.1.B rr.2.2 rr.2.1.L) rr.2.1.N v3 ev) := hide (HE.out.kept HC.out.2.2.2)
          have HEB := hide (HEA.out.kp HN5.out.1 (fun b hb h => by have := h.2; have := HLH.out.2; omega))
          have HSZ : Hid (hi ≤ w5.heap.size ∧ L.length = on ∧ on ≤ rn + 60 ∧ ∀ q, q ∈ RL.map (·.root) ↔ q ∈ L.map (·.root)) := hide ⟨by have := HLH.out.2; have := HKP5.out.size; have := HN.out.1.size; have := HC.out.2.2.2.size; have := HN5.out.1.size; omega, HON.out, by have := HON.out; have := HC.out.2.1; omega, fun q => (HC.out.2.2.1 q).symm⟩
          have hR5 := HR.out.kp9 HKP5.out HFR.out
          have hlk := lacks9_ok HST.out HN5.out.2.1 (fun k hk => by have := hk.2; have := HSZ.out.1; omega) HN5.out.2.2.1 HN5.out.2.2.2 ra rn rc RL hR5.len hR5.rss (by omega) hR5.far
          clear hR5 HC HE HEA HMB HGB HTB HN hro
          go_upto_region 19 with (go_at_call 20; refine hlk.mono ?_; rintro e w6 hN; obtain ⟨v6, rfl, hov⟩ := hN.ans; rw [HRR.out] at hov; obtain ⟨a6, c6, e6, _⟩ := own_shape hov.1; subst e6; have HL6 := hide hov; have HN6 := hide (And.intro hN.kp (And.intro hN.st (And.intro hN.gl hN.tabs))); clear hN hov hlk)
          have HZ6 := hide (HZ5.out.kp9 HN6.out.1 HFB.out)
          have hrs := HZ6.out.rss
          have hlk := lacks9_ok HST.out HN6.out.2.1 (fun k hk => by have := hk.2; have := HSZ.out.1; have := HN6.out.1.size; omega) HN6.out.2.2.1 HN6.out.2.2.2 oa on oc L HSZ.out.2.1 hrs.1 (by have := HSZ.out.2.2.1; omega) HZ6.out.far
          clear hrs
          go_upto_region 20 with (go_at_call 20; refine hlk.mono ?_; rintro e w7 hN; obtain ⟨v7, rfl, hov⟩ := hN.ans; rw [HRO.out] at hov; obtain ⟨a7, c7, e7, _⟩ := own_shape hov.1; subst e7; have HL7 := hide hov; have HN7 := hide (And.intro hN.kp (And.intro hN.st (And.intro hN.gl hN.tabs))); clear hN hov hlk)
          have HTC := hide (tls_cong HSZ.out.2.2.2 HTL.out HTO.out)
          have hl6 := HL6.out.kp9 HN7.out.1 (fun g hg => HFB.out g (by have := own_far9 HL6.out.1 g hg; have := HKP5.out.size; have := HSZ.out.1; have := HN5.out.1.size; have := HK35.out; omega))
          have hl7 := HL7.out
          rw [← HTC.out.2.1] at hl7
          obtain ⟨A6, hA6⟩ : ∃ A, canon rr.2.1.L = A := ⟨_, rfl⟩
          have hA7 : canon ro.2.1.L = A6 := by rw [← HTC.out.2.1, hA6]
          rw [hA7]
          rw [hA6] at hl6 hl7 ⊢
          obtain ⟨m6, hm6⟩ : ∃ m, A6.length = m := ⟨_, rfl⟩
          rw [hm6] at hl6 hl7 ⊢
          have hsm := same9_ok a6 a7 m6 m6 c6 c7 A6 A6 w7 hm6 hm6 hl6.ids.1 hl7.ids.1 (own_max9 hl6) (own_max9 hl6)
          rw [decide_eq_true rfl] at hsm
          have HEC : Hid (ErrN w7 w2.heap.size (picks rr.2.1.B rr.2.2 rr.2.1.L) rr.2.1.N v3 ev) := hide ((HEB.out.kp HN6.out.1 (fun b hb h => by have := h.2; have := HLH.out.2; omega)).kp HN7.out.1 (fun b hb h => by have := h.2; have := HLH.out.2; omega))
          have HED : Hid (ErrN w7 w3.heap.size (picks ro.2.1.B ro.2.2 ro.2.1.L) ro.2.1.N v5 ev5) := hide ((HE5.out.kp HN6.out.1 (fun b hb h => HFB.out b (Nat.le_trans HK35.out hb) h)).kp HN7.out.1 (fun b hb h => HFB.out b (Nat.le_trans HK35.out hb) h) |>.base9 HK35.out)
          have HK7 : Hid (Kept [] w w7) := hide (by
            have k := (HKP5.out.trans HN6.out.1 (fun i h _ => h)).trans HN7.out.1 (fun i h _ => h)
            exact ⟨k.os, k.tape, k.output, k.size, fun i hi hn => k.block i hi (HFR.out i hi)⟩)
          have HG7 := hide HN7.out.2.2.1
          clear hl6 hl7 hA6 hA7 HL6 HL7 HN5 HN6 HN7 HE5 HEB HZ5 HZ6
          have HPE := hide HTC.out.2.2
          have HNE := hide HTC.out.1
          have hm60x : True := trivial
          rcases HEC.out with ⟨hp, rfl, ho3⟩ | ⟨cd, i, eb, hp, rfl, rfl, hf3, hne3, hil⟩
          · rcases HED.out with ⟨_, rfl, ho5⟩ | ⟨cd, i, eb, h2, _⟩
            rotate_left
            · rw [← HPE.out, hp] at h2; cases h2
            rw [← HNE.out] at ho5
            obtain ⟨A3, hA3⟩ : ∃ A, canon rr.2.1.N = A := ⟨_, rfl⟩
            rw [hA3] at ho3 ho5
            obtain ⟨n3, hn3⟩ : ∃ m, A3.length = m := ⟨_, rfl⟩
            obtain ⟨a3, c3, e3, _⟩ := own_shape ho3.1
            obtain ⟨a5, c5, e5, _⟩ := own_shape ho5.1
            rw [hn3] at e3 e5
            subst e3
            subst e5
            have hs2 : ∀ W, Kept [] w7 W → Calls Tryz.prog 23 #[.slice a3 n3 c3, .slice a5 n3 c5] W fun e w' => e = .returned (.bool true) ∧ Kept [] W w' := fun W hk => by
              have := same9_ok a3 a5 n3 n3 c3 c5 A3 A3 W hn3 hn3 ((ho3.kept hk (fun _ _ => by simp)).ids.1) ((ho5.kept hk (fun _ _ => by simp)).ids.1) (own_max9 ho3) (own_max9 ho3)
              rwa [decide_eq_true rfl] at this
            have HS2 := hide hs2
            clear hs2 ho3 ho5 hA3 HEC HED
            have HKX := hide HK7.out
            have HKY : Hid (Kept [] w7 w7) := hide (Kept.refl _ _)
            go_upto_region 22 with (first
              | (go_at_call 23; refine hsm.mono ?_; rintro e w8 ⟨rfl, hk8⟩; have HKX := hide (HKX.out.trans hk8 (by simp)); have HKY := hide (HKY.out.trans hk8 (by simp)); clear hsm hk8)
              | (go_at_call 23; refine (HS2.out _ HKY.out).mono ?_; rintro e w9 ⟨rfl, hk9⟩; have HKX := hide (HKX.out.trans hk9 (by simp)); clear hk9)
              | (go_at_call 25; refine (code_nil9 _).mono ?_; rintro e wc ⟨rfl, hkc⟩; have HKX := hide (HKX.out.trans hkc (by simp)); clear hkc))
            have HKZ : Hid (∀ {W : World}, Kept [] _ W → Kept [] w W) := hide (fun hk => HKX.out.trans hk (by simp))
            go_upto_region 24 with (fail)
            refine wp_world9 (fun W hW => ?_) (((Kept.refl [] _).alloc _).alloc _)
            refine wp_region_held_drew (S := fun w' => Kept [] W w') (by kernel_rfl) ((Kept.refl [] W).drew) (fun h0 => ?_)
            generalize World.drew W = v0 at h0  ⊢
            refine wpAnyH_take (i := 0) (v := .nilIface) rfl (by kernel_rfl) (by kernel_rfl) (by kernel_rfl) (fun _ _ _ h => h) (Or.inl ⟨by rfl, fun w hSw => by go_simp⟩) h0 ?_
            try simp only [List.getElem_toArray, List.getElem_cons_zero, List.getElem_cons_succ, Act.put, List.setIfInBounds_toArray, List.set_cons_zero, List.set_cons_succ]
            refine wpAnyH_take (i := 1) (v := .bool true) rfl (by kernel_rfl) (by kernel_rfl) (by kernel_rfl) (fun _ _ _ h => h) (Or.inl ⟨by rfl, fun w hSw => by go_simp⟩) h0 ?_
            try simp only [List.getElem_toArray, List.getElem_cons_zero, List.getElem_cons_succ, Act.put, List.setIfInBounds_toArray, List.set_cons_zero, List.set_cons_succ]
            refine wpAnyH_take (i := 2) (v := .bool true) rfl (by kernel_rfl) (by kernel_rfl) (by kernel_rfl) (fun _ _ _ h => h) (Or.inl ⟨by rfl, fun w hSw => by go_simp⟩) h0 ?_
            try simp only [List.getElem_toArray, List.getElem_cons_zero, List.getElem_cons_succ, Act.put, List.setIfInBounds_toArray, List.set_cons_zero, List.set_cons_succ]
            refine wpAnyH_take (i := 3) (v := undef) rfl (by kernel_rfl) (by kernel_rfl) (by kernel_rfl) (fun _ _ _ h => h) (Or.inr ⟨by kernel_rfl, rfl⟩) h0 ?_
            try simp only [List.getElem_toArray, List.getElem_cons_zero, List.getElem_cons_succ, Act.put, List.setIfInBounds_toArray, List.set_cons_zero, List.set_cons_succ]
            refine wpAnyH_take (i := 4) (v := undef) rfl (by kernel_rfl) (by kernel_rfl) (by kernel_rfl) (fun _ _ _ h => h) (Or.inr ⟨by kernel_rfl, rfl⟩) h0 ?_
            try simp only [List.getElem_toArray, List.getElem_cons_zero, List.getElem_cons_succ, Act.put, List.setIfInBounds_toArray, List.set_cons_zero, List.set_cons_succ]
            refine wpAnyH_take (i := 5) (v := undef) rfl (by kernel_rfl) (by kernel_rfl) (by kernel_rfl) (fun _ _ _ h => h) (Or.inr ⟨by kernel_rfl, rfl⟩) h0 ?_
            try simp only [List.getElem_toArray, List.getElem_cons_zero, List.getElem_cons_succ, Act.put, List.setIfInBounds_toArray, List.set_cons_zero, List.set_cons_succ]
            refine wpAnyH_take (i := 6) (v := undef) rfl (by kernel_rfl) (by kernel_rfl) (by kernel_rfl) (fun _ _ _ h => h) (Or.inr ⟨by kernel_rfl, rfl⟩) h0 ?_
            try simp only [List.getElem_toArray, List.getElem_cons_zero, List.getElem_cons_succ, Act.put, List.setIfInBounds_toArray, List.set_cons_zero, List.set_cons_succ]
            refine wpAnyH_take (i := 7) (v := undef) rfl (by kernel_rfl) (by kernel_rfl) (by kernel_rfl) (fun _ _ _ h => h) (Or.inr ⟨by kernel_rfl, rfl⟩) h0 ?_
            try simp only [List.getElem_toArray, List.getElem_cons_zero, List.getElem_cons_succ, Act.put, List.setIfInBounds_toArray, List.set_cons_zero, List.set_cons_succ]
            refine wpAnyH_take (i := 8) (v := undef) rfl (by kernel_rfl) (by kernel_rfl) (by kernel_rfl) (fun _ _ _ h => h) (Or.inr ⟨by kernel_rfl, rfl⟩) h0 ?_
            try simp only [List.getElem_toArray, List.getElem_cons_zero, List.getElem_cons_succ, Act.put, List.setIfInBounds_toArray, List.set_cons_zero, List.set_cons_succ]
            refine wpAnyH_take (i := 9) (v := undef) rfl (by kernel_rfl) (by kernel_rfl) (by kernel_rfl) (fun _ _ _ h => h) (Or.inr ⟨by kernel_rfl, rfl⟩) h0 ?_
            try simp only [List.getElem_toArray, List.getElem_cons_zero, List.getElem_cons_succ, Act.put, List.setIfInBounds_toArray, List.set_cons_zero, List.set_cons_succ]
            refine wpAnyH_take (i := 10) (v := undef) rfl (by kernel_rfl) (by kernel_rfl) (by kernel_rfl) (fun _ _ _ h => h) (Or.inr ⟨by kernel_rfl, rfl⟩) h0 ?_
            try simp only [List.getElem_toArray, List.getElem_cons_zero, List.getElem_cons_succ, Act.put, List.setIfInBounds_toArray, List.set_cons_zero, List.set_cons_succ]
            refine wpAnyH_take (i := 11) (v := undef) rfl (by kernel_rfl) (by kernel_rfl) (by kernel_rfl) (fun _ _ _ h => h) (Or.inr ⟨by kernel_rfl, rfl⟩) h0 ?_
            try simp only [List.getElem_toArray, List.getElem_cons_zero, List.getElem_cons_succ, Act.put, List.setIfInBounds_toArray, List.set_cons_zero, List.set_cons_succ]
            refine wpAnyH_take (i := 12) (v := undef) rfl (by kernel_rfl) (by kernel_rfl) (by kernel_rfl) (fun _ _ _ h => h) (Or.inr ⟨by kernel_rfl, rfl⟩) h0 ?_
            try simp only [List.getElem_toArray, List.getElem_cons_zero, List.getElem_cons_succ, Act.put, List.setIfInBounds_toArray, List.set_cons_zero, List.set_cons_succ]
            refine wpAnyH_take (i := 13) (v := undef) rfl (by kernel_rfl) (by kernel_rfl) (by kernel_rfl) (fun _ _ _ h => h) (Or.inr ⟨by kernel_rfl, rfl⟩) h0 ?_
            try simp only [List.getElem_toArray, List.getElem_cons_zero, List.getElem_cons_succ, Act.put, List.setIfInBounds_toArray, List.set_cons_zero, List.set_cons_succ]
            refine wpAnyH_take (i := 14) (v := undef) rfl (by kernel_rfl) (by kernel_rfl) (by kernel_rfl) (fun _ _ _ h => h) (Or.inr ⟨by kernel_rfl, rfl⟩) h0 ?_
            try simp only [List.getElem_toArray, List.getElem_cons_zero, List.getElem_cons_succ, Act.put, List.setIfInBounds_toArray, List.set_cons_zero, List.set_cons_succ]
            refine wpAnyH_take (i := 15) (v := undef) rfl (by kernel_rfl) (by kernel_rfl) (by kernel_rfl) (fun _ _ _ h => h) (Or.inr ⟨by kernel_rfl, rfl⟩) h0 ?_
            try simp only [List.getElem_toArray, List.getElem_cons_zero, List.getElem_cons_succ, Act.put, List.setIfInBounds_toArray, List.set_cons_zero, List.set_cons_succ]
            refine wpAnyH_take (i := 16) (v := undef) rfl (by kernel_rfl) (by kernel_rfl) (by kernel_rfl) (fun _ _ _ h => h) (Or.inr ⟨by kernel_rfl, rfl⟩) h0 ?_
            try simp only [List.getElem_toArray, List.getElem_cons_zero, List.getElem_cons_succ, Act.put, List.setIfInBounds_toArray, List.set_cons_zero, List.set_cons_succ]
            refine wpAnyH_take (i := 17) (v := undef) rfl (by kernel_rfl) (by kernel_rfl) (by kernel_rfl) (fun _ _ _ h => h) (Or.inr ⟨by kernel_rfl, rfl⟩) h0 ?_
            try simp only [List.getElem_toArray, List.getElem_cons_zero, List.getElem_cons_succ, Act.put, List.setIfInBounds_toArray, List.set_cons_zero, List.set_cons_succ]
            refine wpAnyH_take (i := 18) (v := undef) rfl (by kernel_rfl) (by kernel_rfl) (by kernel_rfl) (fun _ _ _ h => h) (Or.inr ⟨by kernel_rfl, rfl⟩) h0 ?_
            try simp only [List.getElem_toArray, List.getElem_cons_zero, List.getElem_cons_succ, Act.put, List.setIfInBounds_toArray, List.set_cons_zero, List.set_cons_succ]
            refine wpAnyH_take (i := 19) (v := undef) rfl (by kernel_rfl) (by kernel_rfl) (by kernel_rfl) (fun _ _ _ h => h) (Or.inr ⟨by kernel_rfl, rfl⟩) h0 ?_
            try simp only [List.getElem_toArray, List.getElem_cons_zero, List.getElem_cons_succ, Act.put, List.setIfInBounds_toArray, List.set_cons_zero, List.set_cons_succ]
            refine wpAnyH_take (i := 20) (v := .bool true) rfl (by kernel_rfl) (by kernel_rfl) (by kernel_rfl) (fun _ _ _ h => h) (Or.inl ⟨by rfl, fun w hSw => by go_simp⟩) h0 ?_
            try simp only [List.getElem_toArray, List.getElem_cons_zero, List.getElem_cons_succ, Act.put, List.setIfInBounds_toArray, List.set_cons_zero, List.set_cons_succ]
            refine wpAnyH_take (i := 21) (v := .bool true) rfl (by kernel_rfl) (by kernel_rfl) (by kernel_rfl) (fun _ _ _ h => h) (Or.inl ⟨by rfl, fun w hSw => by go_simp⟩) h0 ?_
            try simp only [List.getElem_toArray, List.getElem_cons_zero, List.getElem_cons_succ, Act.put, List.setIfInBounds_toArray, List.set_cons_zero, List.set_cons_succ]
            refine wpAnyH_done (by kernel_rfl) ?_ _
            have HKF := hide ((HKZ.out hW).trans h0 (by simp))
            go_wp2
            go_ret
            exact ⟨rfl, HKF.out⟩
          · rcases HED.out with ⟨h2, _⟩ | ⟨cd5, i5, eb5, h2, rfl, rfl, hf5, hne5, hil5⟩
            · rw [← HPE.out, hp] at h2; cases h2
            rw [← HPE.out, hp] at h2
            injection h2 with h2
            injection h2 with h2 h3
            subst h2
            subst h3
            have idsn : ∀ W, Ids W none [] := fun W => ⟨fun k hk => absurd hk (by simp), fun q hq => (by cases hq)⟩
            have hs2 : ∀ W, Calls Tryz.prog 23 #[.slice none 0 0, .slice none 0 0] W fun e w' => e = .returned (.bool true) ∧ Kept [] W w' := fun W => same9_ok none none 0 0 0 0 [] [] W rfl rfl (idsn W) (idsn W) (by omega) (by omega)
            have HF3 := hide hf3
            have HF5 := hide hf5
            have hcd3 : ∀ W, Kept [] w7 W → Calls Tryz.prog 25 #[faultV eb] W fun e w' => e = .returned (.int .i64 cd) ∧ Kept [] W w' := fun W hk => codeErrno_ok 1 _ cd W (HG7.out.kept hk) ⟨eb, _, rfl, (HF3.out.kept hk).err hil, rfl⟩
            have hcd5 : ∀ W, Kept [] w7 W → Calls Tryz.prog 25 #[faultV eb5] W fun e w' => e = .returned (.int .i64 cd) ∧ Kept [] W w' := fun W hk => codeErrno_ok 1 _ cd W (HG7.out.kept hk) ⟨eb5, _, rfl, (HF5.out.kept hk).err hil, rfl⟩
            unfold faultV at hcd3 hcd5
            have HC3 := hide hcd3
            have HC5 := hide hcd5
            have HS2 := hide hs2
            have HKX := hide HK7.out
            have HKY : Hid (Kept [] w7 w7) := hide (Kept.refl _ _)
            clear hs2 hcd3 hcd5 hf3 hf5 idsn HEC HED
            unfold faultV
            go_upto_region 22 with (first
              | (go_at_call 23; refine hsm.mono ?_; rintro e w8 ⟨rfl, hk8⟩; have HKX := hide (HKX.out.trans hk8 (by simp)); have HKY := hide (HKY.out.trans hk8 (by simp)); clear hsm hk8)
              | (go_at_call 23; refine (HS2.out _).mono ?_; rintro e w9 ⟨rfl, hk9⟩; have HKX := hide (HKX.out.trans hk9 (by simp)); have HKY := hide (HKY.out.trans hk9 (by simp)); clear hk9)
              | (go_at_call 25; refine (HC3.out _ HKY.out).mono ?_; rintro e wc ⟨rfl, hkc⟩; have HKX := hide (HKX.out.trans hkc (by simp)); have HKY := hide (HKY.out.trans hkc (by simp)); clear hkc)
              | (go_at_call 25; refine (HC5.out _ HKY.out).mono ?_; rintro e wc ⟨rfl, hkc⟩; have HKX := hide (HKX.out.trans hkc (by simp)); have HKY := hide (HKY.out.trans hkc (by simp)); clear hkc))
            go_upto_region 24 with (fail)
            refine wp_world9c (fun WW hWW hxb hyb => ?_)
            have HKZ := hide (HKX.out.trans hWW (by simp))
            have HKV := hide (HKY.out.trans hWW (by simp))
            have HEBX : Hid (eb < wc.heap.size ∧ eb5 < wc.heap.size) := hide ⟨Nat.lt_of_lt_of_le HF3.out.lt HKY.out.size, Nat.lt_of_lt_of_le HF5.out.lt HKY.out.size⟩
            have HF3 := hide (HF3.out.kept HKV.out)
            have HF5 := hide (HF5.out.kept HKV.out)
            have hbne : Hid (wc.heap.size < wc.heap.size + 1 ∧ wc.heap.size + 1 < WW.heap.size) := hide ⟨by omega, (Array.getElem?_eq_some_iff.1 hyb).1⟩
            have hiq := idl i hil
            have heq : ∀ W, (Op.equalIn 10000 25 (.agg (bys i).toArray) (.agg (bys i).toArray)).run Tryz.prog W = .ok true W := fun W => by rw [Tryz.eqlID i i hil hil W, decide_eq_true rfl]
            have HWB : Hid (w.heap.size ≤ wc.heap.size) := hide HKX.out.size
            generalize wc.heap.size = bx at hxb hyb hbne HEBX HWB ⊢
            obtain ⟨bw, hbw⟩ : ∃ b, bx + 1 = b := ⟨_, rfl⟩
            rw [hbw] at hyb hbne ⊢
            clear hbw HKX HKY HC3 HC5 HS2
            have hxb : (World.drew WW).heap[bx]? = _ := hxb
            have hyb : (World.drew WW).heap[bw]? = _ := hyb
            refine wp_region_held_drew (S := fun w' => Kept [bx, bw] WW w') (by kernel_rfl) ((Kept.refl [bx, bw] WW).drew) (fun h0 => ?_)
            generalize World.drew WW = v0 at h0 hxb hyb ⊢
            have hc4 := fault9_ok eb bx v0 (.pointer none) (by rw [cell_of_row _ _ _ _ _ _ hxb]; rfl) (frozen_of_row _ _ _ _ _ hxb)
            unfold faultV at hc4
            refine wpAnyH_take (i := 0) (v := .iface 59 (.pointer (some ⟨eb, 0, none⟩))) rfl (by kernel_rfl) (by kernel_rfl) (by kernel_rfl) (fun _ _ _ h => h) (Or.inl ⟨by rfl, fun w hSw => by go_simp⟩) h0 ?_
            try simp only [List.getElem_toArray, List.getElem_cons_zero, List.getElem_cons_succ, Act.put, List.setIfInBounds_toArray, List.set_cons_zero, List.set_cons_succ]
            refine wpAnyH_take (i := 1) (v := .bool false) rfl (by kernel_rfl) (by kernel_rfl) (by kernel_rfl) (fun _ _ _ h => h) (Or.inl ⟨by rfl, fun w hSw => by go_simp⟩) h0 ?_
            try simp only [List.getElem_toArray, List.getElem_cons_zero, List.getElem_cons_succ, Act.put, List.setIfInBounds_toArray, List.set_cons_zero, List.set_cons_succ]
            refine wpAnyH_take (i := 2) (v := .bool false) rfl (by kernel_rfl) (by kernel_rfl) (by kernel_rfl) (fun _ _ _ h => h) (Or.inl ⟨by rfl, fun w hSw => by go_simp⟩) h0 ?_
            try simp only [List.getElem_toArray, List.getElem_cons_zero, List.getElem_cons_succ, Act.put, List.setIfInBounds_toArray, List.set_cons_zero, List.set_cons_succ]
            refine wpAnyH_take (i := 3) (v := .iface 59 (.pointer (some ⟨eb, 0, none⟩))) rfl (by kernel_rfl) (by kernel_rfl) (by kernel_rfl) (fun _ _ _ h => h) (Or.inl ⟨by rfl, fun w hSw => by go_simp⟩) h0 ?_
            try simp only [List.getElem_toArray, List.getElem_cons_zero, List.getElem_cons_succ, Act.put, List.setIfInBounds_toArray, List.set_cons_zero, List.set_cons_succ]
            refine wpAnyH_ready (rs := [4]) (by kernel_rfl) (by simp) (AllReadyH.cons (i := 4) rfl (fun K hK => ?_) AllReadyH.nil)
            rw [if_pos (by rfl)]
            go_simp
            refine (hc4).mono ?_
            rintro e v1 ⟨rfl, hcx, hk4⟩
            have hyb1 : v1.heap[bw]? = _ := (hk4.block bw (Array.getElem?_eq_some_iff.1 hyb).1 (by have := hbne.out; simp; omega)).trans hyb
            have hc7 := fault9_ok eb5 bw v1 (.pointer none) (by rw [cell_of_row _ _ _ _ _ _ hyb1]; rfl) (frozen_of_row _ _ _ _ _ hyb1)
            unfold faultV at hc7
            refine hK.out _ _ (h0.trans hk4 (by simp)) (fun h1 => ?_)
            clear hK K
            try simp only [List.getElem_toArray, List.getElem_cons_zero, List.getElem_cons_succ, Act.put, List.setIfInBounds_toArray, List.set_cons_zero, List.set_cons_succ]
            refine wpAnyH_take (i := 5) (v := .bool true) rfl (by kernel_rfl) (by kernel_rfl) (by kernel_rfl) (fun _ _ _ h => h) (Or.inl ⟨by rfl, fun w hSw => by go_simp⟩) h1 ?_
            try simp only [List.getElem_toArray, List.getElem_cons_zero, List.getElem_cons_succ, Act.put, List.setIfInBounds_toArray, List.set_cons_zero, List.set_cons_succ]
            refine wpAnyH_take (i := 6) (v := .iface 59 (.pointer (some ⟨eb5, 0, none⟩))) rfl (by kernel_rfl) (by kernel_rfl) (by kernel_rfl) (fun _ _ _ h => h) (Or.inl ⟨by rfl, fun w hSw => by go_simp⟩) h1 ?_
            try simp only [List.getElem_toArray, List.getElem_cons_zero, List.getElem_cons_succ, Act.put, List.setIfInBounds_toArray, List.set_cons_zero, List.set_cons_succ]
            refine wpAnyH_ready (rs := [7]) (by kernel_rfl) (by simp) (AllReadyH.cons (i := 7) rfl (fun K hK => ?_) AllReadyH.nil)
            rw [if_pos (by rfl)]
            go_simp
            refine (hc7).mono ?_
            rintro e v2 ⟨rfl, hcy, hk7⟩
            have hcx2 := hk7.cellOf hcx (by have := hbne.out; simp; omega)
            refine hK.out _ _ (h1.trans hk7 (by simp)) (fun h2 => ?_)
            clear hK K
            try simp only [List.getElem_toArray, List.getElem_cons_zero, List.getElem_cons_succ, Act.put, List.setIfInBounds_toArray, List.set_cons_zero, List.set_cons_succ]
            refine wpAnyH_take (i := 8) (v := .bool true) rfl (by kernel_rfl) (by kernel_rfl) (by kernel_rfl) (fun _ _ _ h => h) (Or.inl ⟨by rfl, fun w hSw => by go_simp⟩) h2 ?_
            try simp only [List.getElem_toArray, List.getElem_cons_zero, List.getElem_cons_succ, Act.put, List.setIfInBounds_toArray, List.set_cons_zero, List.set_cons_succ]
            refine wpAnyH_take (i := 9) (v := .bool true) rfl (by kernel_rfl) (by kernel_rfl) (by kernel_rfl) (fun _ _ _ h => h) (Or.inl ⟨by rfl, fun w hSw => by go_simp⟩) h2 ?_
            try simp only [List.getElem_toArray, List.getElem_cons_zero, List.getElem_cons_succ, Act.put, List.setIfInBounds_toArray, List.set_cons_zero, List.set_cons_succ]
            have HALL := hide h2
            refine wpAnyH_mono (S' := fun w' => Kept [] v2 w') (fun w h => HALL.out.trans h (by simp)) _ _ _ _ ?_
            replace h2 : Kept [] v2 v2 := Kept.refl _ _
            have hf3 := HF3.out
            have hf5 := HF5.out
            have hi3 : v2.rangeAt eb 2 (bys i) := fun j u hu => HALL.out.cellOf (HF3.out.id j u hu) (by have := hbne.out; have := HF3.out.lt; have := HEBX.out; simp; omega)
            have hi5 : v2.rangeAt eb5 2 (bys i) := fun j u hu => HALL.out.cellOf (HF5.out.id j u hu) (by have := hbne.out; have := HF5.out.lt; have := HEBX.out; simp; omega)
            clear hf3 hf5
            refine wpAnyH_take (i := 10) (v := .pointer (some ⟨eb, 0, none⟩)) rfl (by kernel_rfl) (by kernel_rfl) (by kernel_rfl) (fun _ _ _ h => h) (Or.inl ⟨by rfl, fun w hSw => by have c0 := Kept.cellOf hSw hcx2 (by simp); go_simp⟩) h2 ?_
            try simp only [List.getElem_toArray, List.getElem_cons_zero, List.getElem_cons_succ, Act.put, List.setIfInBounds_toArray, List.set_cons_zero, List.set_cons_succ]
            refine wpAnyH_take (i := 11) (v := .pointer (some ⟨eb, 0, none⟩)) rfl (by kernel_rfl) (by kernel_rfl) (by kernel_rfl) (fun _ _ _ h => h) (Or.inl ⟨by rfl, fun w hSw => by go_simp⟩) h2 ?_
            try simp only [List.getElem_toArray, List.getElem_cons_zero, List.getElem_cons_succ, Act.put, List.setIfInBounds_toArray, List.set_cons_zero, List.set_cons_succ]
            refine wpAnyH_take (i := 12) (v := .pointer (some ⟨eb, 2, none⟩)) rfl (by kernel_rfl) (by kernel_rfl) (by kernel_rfl) (fun _ _ _ h => h) (Or.inl ⟨by rfl, fun w hSw => by go_simp⟩) h2 ?_
            try simp only [List.getElem_toArray, List.getElem_cons_zero, List.getElem_cons_succ, Act.put, List.setIfInBounds_toArray, List.set_cons_zero, List.set_cons_succ]
            refine wpAnyH_take (i := 13) (v := .agg (bys i).toArray) rfl (by kernel_rfl) (by kernel_rfl) (by kernel_rfl) (fun _ _ _ h => h) (yieldsIf_load_mid (by rfl) _ _ rfl eb 2 rfl (bys i) _ (fun W h => fun j u hu => Kept.cellOf h (hi3 j u hu) (by simp)) Tryz.underlying25 rfl hiq) h2 ?_
            try simp only [List.getElem_toArray, List.getElem_cons_zero, List.getElem_cons_succ, Act.put, List.setIfInBounds_toArray, List.set_cons_zero, List.set_cons_succ]
            refine wpAnyH_take (i := 14) (v := .pointer (some ⟨eb5, 0, none⟩)) rfl (by kernel_rfl) (by kernel_rfl) (by kernel_rfl) (fun _ _ _ h => h) (Or.inl ⟨by rfl, fun w hSw => by have c0 := Kept.cellOf hSw hcy (by simp); go_simp⟩) h2 ?_
            try simp only [List.getElem_toArray, List.getElem_cons_zero, List.getElem_cons_succ, Act.put, List.setIfInBounds_toArray, List.set_cons_zero, List.set_cons_succ]
            refine wpAnyH_take (i := 15) (v := .pointer (some ⟨eb5, 0, none⟩)) rfl (by kernel_rfl) (by kernel_rfl) (by kernel_rfl) (fun _ _ _ h => h) (Or.inl ⟨by rfl, fun w hSw => by go_simp⟩) h2 ?_
            try simp only [List.getElem_toArray, List.getElem_cons_zero, List.getElem_cons_succ, Act.put, List.setIfInBounds_toArray, List.set_cons_zero, List.set_cons_succ]
            refine wpAnyH_take (i := 16) (v := .pointer (some ⟨eb5, 2, none⟩)) rfl (by kernel_rfl) (by kernel_rfl) (by kernel_rfl) (fun _ _ _ h => h) (Or.inl ⟨by rfl, fun w hSw => by go_simp⟩) h2 ?_
            try simp only [List.getElem_toArray, List.getElem_cons_zero, List.getElem_cons_succ, Act.put, List.setIfInBounds_toArray, List.set_cons_zero, List.set_cons_succ]
            refine wpAnyH_take (i := 17) (v := .agg (bys i).toArray) rfl (by kernel_rfl) (by kernel_rfl) (by kernel_rfl) (fun _ _ _ h => h) (yieldsIf_load_mid (by rfl) _ _ rfl eb5 2 rfl (bys i) _ (fun W h => fun j u hu => Kept.cellOf h (hi5 j u hu) (by simp)) Tryz.underlying25 rfl hiq) h2 ?_
            try simp only [List.getElem_toArray, List.getElem_cons_zero, List.getElem_cons_succ, Act.put, List.setIfInBounds_toArray, List.set_cons_zero, List.set_cons_succ]
            refine wpAnyH_take (i := 18) (v := .bool true) rfl (by kernel_rfl) (by kernel_rfl) (by kernel_rfl) (fun _ _ _ h => h) (Or.inl ⟨by rfl, fun w hSw => by have c0 := heq w; go_simp⟩) h2 ?_
            try simp only [List.getElem_toArray, List.getElem_cons_zero, List.getElem_cons_succ, Act.put, List.setIfInBounds_toArray, List.set_cons_zero, List.set_cons_succ]
            refine wpAnyH_take (i := 19) (v := .bool true) rfl (by kernel_rfl) (by kernel_rfl) (by kernel_rfl) (fun _ _ _ h => h) (Or.inl ⟨by rfl, fun w hSw => by go_simp⟩) h2 ?_
            try simp only [List.getElem_toArray, List.getElem_cons_zero, List.getElem_cons_succ, Act.put, List.setIfInBounds_toArray, List.set_cons_zero, List.set_cons_succ]
            refine wpAnyH_take (i := 20) (v := .bool true) rfl (by kernel_rfl) (by kernel_rfl) (by kernel_rfl) (fun _ _ _ h => h) (Or.inl ⟨by rfl, fun w hSw => by go_simp⟩) h2 ?_
            try simp only [List.getElem_toArray, List.getElem_cons_zero, List.getElem_cons_succ, Act.put, List.setIfInBounds_toArray, List.set_cons_zero, List.set_cons_succ]
            refine wpAnyH_take (i := 21) (v := .bool true) rfl (by kernel_rfl) (by kernel_rfl) (by kernel_rfl) (fun _ _ _ h => h) (Or.inl ⟨by rfl, fun w hSw => by go_simp⟩) h2 ?_
            try simp only [List.getElem_toArray, List.getElem_cons_zero, List.getElem_cons_succ, Act.put, List.setIfInBounds_toArray, List.set_cons_zero, List.set_cons_succ]
            refine wpAnyH_done (by kernel_rfl) ?_ _
            have HKF := hide ((HKZ.out.trans HALL.out (fun j hj hlt => (by have := hbne.out; have := HWB.out; simp at hj; omega))).trans h2 (by simp))
            go_wp2
            go_ret
            exact ⟨rfl, HKF.out⟩
    | succ k =>
      have e1 : (((k + 1 : Nat) : Int) - 1) = (k : Int) := by omega
      rw [e1]
      have hkl : k < RL.length := by rw [HR.out.len]; omega
      have hge : (0 : Int) ≤ (k : Int) := Int.natCast_nonneg k
      have hkr : (k : Int) < (rn : Int) := by omega
      obtain ⟨b, off, hab, hrg⟩ := ((HR.out.kept HK3.out).kept HO.out.2.2.2.2).rss k hkl
      subst hab
      obtain ⟨rz, hrz⟩ : ∃ rz, RL.getD k rz0 = rz := ⟨_, rfl⟩
      have HRZ := hide hrz
      rw [hrz] at hrg
      have hrr := rz_root_at hrg
      obtain ⟨rt, hrt⟩ : ∃ rt, rz.root = rt := ⟨_, rfl⟩
      have hq : rt.length = 32 := by rw [← hrt]; exact rz.hr
      have HRT := hide hrt
      rw [hrt] at hrr
      have hql := idl rt hq
      have hw8 := wrap_idk k
      have hbI := fun W => build_idk k W
      have hwa : IntKind.i64.wrap (300 + (k : Int)) = 300 + (k : Int) := by
        have := wrap_small9 (300 + k) (by omega)
        rwa [show ((300 + k : Nat) : Int) = 300 + (k : Int) by omega] at this
      have hbZ := fun W => build_res9 (rzk9 k rt hq) W
      have ka : Kept [] wr (wr.alloc (.cells (rzk9 k rt hq).cells.toArray 30)) := (Kept.refl [] wr).alloc _
      obtain ⟨v', w', hrun, h1, h2⟩ := run_appZ (HO.out.1.kept ka (fun _ _ => by simp)) (Nat.le_trans (Nat.le_trans HLO.out HO.out.2.2.2.2.size) ka.size) (rzk9 k rt hq) wr.heap.size (new_atK _ _) (by have := HO.out.2.1; omega)
      have h3 := h2 v.ownBlock.toList (fun g hg => by simp [hg])
      have H9 := hide (And.intro h1 h3)
      have HKA := hide ka
      clear h1 h2 h3 ka hrg hrz hrt hkl
      go_wp2_with (first
        | (refine wpList_buildRun9 rfl 25 #[(0, .tmp 42)] rfl #[(0, .int .u8 ((UInt8.ofNat k).toNat : Int))] (by simp [Act.eval]) _ (hbI _) ?_; try simp only [Act.put, List.setIfInBounds_toArray, List.set_cons_zero, List.set_cons_succ])
        | refine wpList_load_mid rfl 25 (.tmp 47) rfl b (off + k * 65 + 32) rfl (bys rt) _ hrr Tryz.underlying25 rfl hql ?_
        | (refine wpList_buildRun9 rfl 30 #[(0, .tmp 43), (1, .tmp 48), (2, .tmp 50)] rfl #[(0, .agg (bys (idk k)).toArray), (1, .agg (bys rt).toArray), (2, .int .i64 (300 + (k : Int)))] (by simp [Act.eval]) _ (hbZ _) ?_; try simp only [Act.put, List.setIfInBounds_toArray, List.set_cons_zero, List.set_cons_succ])
        | refine wpList_buildZ rfl (.tmp 51) rfl (rzk9 k rt hq) rfl ?_
        | (at_builtin; refine wpList_app_run9m rfl (.tmp 40) (.tmp 52) 23 23 rfl v (.slice (some ⟨wr.heap.size, 0, none⟩) 1 1) rfl rfl _ _ hrun ?_))
      go_roundw
      case rel =>
        refine ⟨v', k, L ++ [rzk9 k rt hq], by omega, by go_num, rfl, hide ⟨H9.out.1, by have := HO.out.2.1; simp only [List.length_append, List.length_singleton]; omega, fun q => ?_, trivial, (HO.out.2.2.2.2.trans HKA.out (by simp)).trans H9.out.2 (fun j hj hlt => by have := own_far9 HO.out.1 j (by simpa using hj); omega)⟩⟩
        have hz : (rzk9 k rt hq).root = (RL.getD k rz0).root := by rw [HRZ.out, HRT.out]; rfl
        rw [List.map_append, List.mem_append, HO.out.2.2.1 q]
        simp only [List.map_cons, List.map_nil, List.mem_singleton]
        rw [hz]
        constructor
        · rintro (⟨j, h1, h2, h3⟩ | h)
          · exact ⟨j, by omega, h2, h3⟩
          · exact ⟨k, Nat.le_refl _, by rw [HR.out.len]; omega, h.symm⟩
        · rintro ⟨j, h1, h2, h3⟩
          by_cases e : j = k
          · exact .inr (by rw [← h3, e])
          · exact .inl ⟨j, by omega, h2, h3⟩
      case measure => simp [intOf] <;> omega

end Go.Proofs.YtngaimahhgmciaaGreatDoor
