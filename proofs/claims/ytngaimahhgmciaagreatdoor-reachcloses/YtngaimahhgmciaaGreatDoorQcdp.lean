/-
  Contract: freightlaw9.closed, of a need. (Written by tools/qcd.py.)
-/
import Derived.Test.YtngaimahhgmciaaGreatDoorQcap
import Derived.Test.YtngaimahhgmciaaGreatDoorQcbp
import Derived.Test.YtngaimahhgmciaaGreatDoorQjap
import Derived.Test.YtngaimahhgmciaaGreatDoorQ9qp
import Derived.Test.YtngaimahhgmciaaGreatDoorNmp
import Derived.Test.YtngaimahhgmciaaGreatDoorQpap
import Derived.Test.YtngaimahhgmciaaGreatDoorOgp
namespace Go.Proofs.YtngaimahhgmciaaGreatDoor
open Go.RowKit Go.Lib Go.Sort
set_option linter.unusedVariables false
set_option linter.unusedSimpArgs false

theorem wpList_makeSl9 {P : Program} {ops : Array Oper} {rest : List Oper} {o : Oper} {a : Act} {w : World} {Q : Exit → Act → World → Prop} (hg : o.guard = none) (t : TypeId) (x y : Operand) (ho : o.op = .makeSlice t x y) (vx vy : Value) (hx : a.eval x = vx) (hy : a.eval y = vy) (v' : Value) (w' : World) (hrun : (Instr.makeSlice t vx vy).run P w = .ok v' w') (hK : wpList P ops Q rest (a.put o.dst v') w') : wpList P ops Q (o :: rest) a w := by
  refine wpList_plain hg fun K' hK' => ?_
  unfold Oper.wp
  simp [execOp, ho, hx, hy, hrun, Result.andThen]
  exact hK' _ _ hK
theorem Tryz.infoBo9 : (Tryz.prog.info? 4).map (fun i => (i.zero, i.size, i.bytes)) = some (some (.bool false), 1, 1) := by kernel_rfl
/-- make([]bool, n). -/
theorem run_makeBo (w : World) (c : Nat) (h : c ≤ 140737488355328) : (Instr.makeSlice 101 (.int .i64 c) (.int .i64 c)).run Tryz.prog w = .ok (.slice (some ⟨w.heap.size, 0, none⟩) c c) (w.alloc (.cells ((List.replicate c false).map Value.bool).toArray 4 (0, 0))) := by
  obtain ⟨i0, hi, hz0, hz1, hz2⟩ := info_parts Tryz.infoBo9
  have hmk := run_make (P := Tryz.prog) w 101 4 i0 (.bool false) Tryz.underlying101 hi hz0 .i64 .i64 c c (by omega) (by omega) (by rw [hz2]; omega) (by omega)
  rw [hz1] at hmk
  have e : madeCells (Value.bool false).cells (c * 1) = ((List.replicate c false).map Value.bool).toArray := by
    apply Array.ext
    · simp [size_madeCells]
    · intro i h1 h2
      simp [madeCells, Value.cells, Nat.mod_one]
  simp only [Int.toNat_natCast, e] at hmk
  exact hmk
theorem setBo {w : World} {G : Nat} {B : List Bool} (h : w.heap[G]? = some (.cells (B.map Value.bool).toArray 4 (0, 0))) (k : Nat) : (w.setCell ⟨G, k, none⟩ (.bool true)).heap[G]? = some (.cells ((B.set k true).map Value.bool).toArray 4 (0, 0)) := by
  rw [heap_setCell_same w _ _ _ _ _ h]
  simp
theorem own_types0 {w : World} {B s : Nat} {e T : TypeId} {v : Value} {n q : Nat} {xs : List Value} {cs : Array Value} {fr : Nat × Nat} (h : w.ownsRow B e s v n xs) (hq : w.heap[q]? = some (.cells cs T fr)) (hT : T ≠ e) : ∀ g, v.ownBlock = some g → g ≠ q := by
  rintro g hg rfl
  rcases h.2 with ⟨rfl, _⟩ | ⟨g', cap, cur, rfl, _, hg', _⟩
  · cases hg
  · simp only [Value.ownBlock, Option.some.injEq] at hg
    subst hg
    rw [hg'] at hq
    injection hq with hq
    injection hq with _ e2 _
    exact hT e2.symm
theorem OwnE.base9 {w : World} {b1 b2 : Nat} {v : Value} {E : List Ent} (h : OwnE w b1 v E) (hb : b2 ≤ b1) : OwnE w b2 v E := by
  refine ⟨⟨h.1.1, ?_⟩, h.2⟩
  rcases h.1.2 with h1 | ⟨g, cap, cur, h1, h2, h3⟩
  · exact .inl h1
  · exact .inr ⟨g, cap, cur, h1, Nat.le_trans hb h2, h3⟩
theorem Cl9.cong {f : List UInt8 → An} {R l T O : List (List UInt8)} {n : Nat} {X Y X' Y' : List UInt8 → Prop} {B : List Bool} (h : Cl9 f R l T O n X Y B) (hX : ∀ p, X p ↔ X' p) (hY : ∀ p, Y p ↔ Y' p) : Cl9 f R l T O n X' Y' B := by
  have e1 : X = X' := funext fun p => propext (hX p)
  have e2 : Y = Y' := funext fun p => propext (hY p)
  rw [← e1, ← e2]; exact h
theorem ent_id_at {w : World} {b off : Nat} {e : Ent} (h : w.rangeAt b off e.cells) : w.rangeAt b (off + 2) (bys e.id) := fun j v hv => by
  have h1 := h (2 + j) v (by unfold Ent.cells; rw [show 2 + j = j + 1 + 1 by omega]; simpa using hv)
  rwa [← Nat.add_assoc] at h1
theorem ent_kind_at {w : World} {b off : Nat} {e : Ent} (h : w.rangeAt b off e.cells) : w.cell? ⟨b, off + 1, none⟩ = some (.int .i64 e.kind) := h 1 _ rfl

set_option maxHeartbeats 12800000 in
set_option maxRecDepth 100000 in
theorem closed9_ok (mv : Value) (M : List (List UInt8 × List UInt8)) (la : Option Addr) (ln lc : Nat) (l : List (List UInt8)) (ra : Option Addr) (rn rc : Nat) (RL : List Rz) (w : World) (hMp : MapAt w mv M) (hl : l.length = ln) (hL : Ids w la l) (hrl : RL.length = rn) (hR : Rss w ra RL)
    (hup : Up l) (hmem : ∀ q, q ∈ l ↔ nd (mpf M) (RL.map (·.root)) q) (hwh : Whl9 (mpf M) (RL.map (·.root))) (hlm : ln ≤ 2199023255551) (hrm : rn ≤ 2199023255551) :
    Calls Tryz.prog 24 #[mv, .slice la ln lc, .slice ra rn rc] w fun e w' => e = .returned (.bool true) ∧ Kept [] w w' := by
  have HMP := hide hMp
  have HN := hide (And.intro hl trivial)
  have HL := hide hL
  have HR := hide (And.intro hrl hR)
  have HM := hide (And.intro hup (And.intro hmem hwh))
  clear hMp hl hL hrl hR hup hmem hwh
  go_enter Tryz.func24, Tryz.ntmps24
  go_wp2
  go_loopw [7] (fun x wr => ∃ k : Nat, (k ≤ ln ∨ k = 1) ∧ x = .int .i64 k ∧ Hid (Kept [] w wr ∧ 0 < k)) (fun x wr => ln - (intOf x).toNat)
  case atStart => exact ⟨1, .inr rfl, rfl, hide ⟨Kept.refl _ _, by omega⟩⟩
  case round =>
    obtain ⟨k, hk, rfl, HP⟩ := hrel
    by_cases hlt : k < ln
    · as_aux_lemma =>
      have hlt1 : (k : Int) < (ln : Int) := by omega
      obtain ⟨k1, hk1⟩ : ∃ k1, k = k1 + 1 := ⟨k - 1, by have := HP.out.2; omega⟩
      have hkl : k < l.length := by rw [HN.out.1]; exact hlt
      have hk1l : k1 < l.length := by omega
      obtain ⟨g, off, hao, hrq⟩ := (HL.out.kept HP.out.1 (fun _ _ _ => by simp)).1 k hkl
      obtain ⟨g', off', hao', hrp⟩ := (HL.out.kept HP.out.1 (fun _ _ _ => by simp)).1 k1 hk1l
      subst hao
      cases hao'
      have hq : (l.getD k []).length = 32 := HL.out.2 _ (gmem9 hkl)
      have hp : (l.getD k1 []).length = 32 := HL.out.2 _ (gmem9 hk1l)
      have hup : compareBytes (l.getD k1 []) (l.getD k []) < 0 := up_lt HM.out.1 (by omega) hkl
      obtain ⟨q, hqe⟩ : ∃ q, l.getD k [] = q := ⟨_, rfl⟩
      obtain ⟨p, hpe⟩ : ∃ p, l.getD k1 [] = p := ⟨_, rfl⟩
      rw [hqe] at hq hup hrq
      rw [hpe] at hp hup hrp
      have hql := idl q hq
      have hpl := idl p hp
      have hcmp := fun W => rcmp9_ok p q hp hq W
      obtain ⟨cc, hcc⟩ : ∃ cc, compareBytes p q = cc := ⟨_, rfl⟩
      rw [hcc] at hcmp hup
      have hge : ¬ (0 : Int) ≤ cc := by omega
      have hk1m : k1 < ln := by omega
      have hk1n : ¬ ln ≤ k1 := by omega
      have hkz : IntKind.i64.wrap ((k : Int) - 1) = (k1 : Int) := by
        rw [show ((k : Int) - 1) = (k1 : Int) by omega]
        exact wrap_small9 k1 (by omega)
      clear hcc hpe hqe hk1l hkl hk1
      go_upto_region 4 with (fail)
      refine wp_region_held_drew (S := fun w' => Kept [] wr w') (by kernel_rfl) ((Kept.refl [] wr).drew) (fun h0 => ?_)
      generalize World.drew wr = v0 at h0  ⊢
      refine wpAnyH_take (i := 0) (v := .slice (some ⟨g, off, none⟩) ln lc) rfl (by kernel_rfl) (by kernel_rfl) (by kernel_rfl) (fun _ _ _ h => h) (Or.inl ⟨by rfl, fun w hSw => by go_simp⟩) h0 ?_
      try simp only [List.getElem_toArray, List.getElem_cons_zero, List.getElem_cons_succ, Act.put, List.setIfInBounds_toArray, List.set_cons_zero, List.set_cons_succ]
      refine wpAnyH_take (i := 1) (v := .int .i64 k) rfl (by kernel_rfl) (by kernel_rfl) (by kernel_rfl) (fun _ _ _ h => h) (Or.inl ⟨by rfl, fun w hSw => by go_simp⟩) h0 ?_
      try simp only [List.getElem_toArray, List.getElem_cons_zero, List.getElem_cons_succ, Act.put, List.setIfInBounds_toArray, List.set_cons_zero, List.set_cons_succ]
      refine wpAnyH_take (i := 2) (v := .int .i64 k1) rfl (by kernel_rfl) (by kernel_rfl) (by kernel_rfl) (fun _ _ _ h => h) (Or.inl ⟨by rfl, fun w hSw => by go_simp⟩) h0 ?_
      try simp only [List.getElem_toArray, List.getElem_cons_zero, List.getElem_cons_succ, Act.put, List.setIfInBounds_toArray, List.set_cons_zero, List.set_cons_succ]
      refine wpAnyH_take (i := 3) (v := .pointer (some ⟨g, off + k1 * 32, none⟩)) rfl (by kernel_rfl) (by kernel_rfl) (by kernel_rfl) (fun _ _ _ h => h) (Or.inl ⟨by rfl, fun w hSw => by go_simp⟩) h0 ?_
      try simp only [List.getElem_toArray, List.getElem_cons_zero, List.getElem_cons_succ, Act.put, List.setIfInBounds_toArray, List.set_cons_zero, List.set_cons_succ]
      refine wpAnyH_take (i := 4) (v := .agg (bys p).toArray) rfl (by kernel_rfl) (by kernel_rfl) (by kernel_rfl) (fun _ _ _ h => h) (yieldsIf_load_mid (by rfl) _ _ rfl g (off + k1 * 32) rfl (bys p) _ (fun W h => fun jj u hu => Kept.cellOf h (hrp jj u hu) (by simp)) Tryz.underlying25 rfl hpl) h0 ?_
      try simp only [List.getElem_toArray, List.getElem_cons_zero, List.getElem_cons_succ, Act.put, List.setIfInBounds_toArray, List.set_cons_zero, List.set_cons_succ]
      refine wpAnyH_take (i := 5) (v := .slice (some ⟨g, off, none⟩) ln lc) rfl (by kernel_rfl) (by kernel_rfl) (by kernel_rfl) (fun _ _ _ h => h) (Or.inl ⟨by rfl, fun w hSw => by go_simp⟩) h0 ?_
      try simp only [List.getElem_toArray, List.getElem_cons_zero, List.getElem_cons_succ, Act.put, List.setIfInBounds_toArray, List.set_cons_zero, List.set_cons_succ]
      refine wpAnyH_take (i := 6) (v := .int .i64 k) rfl (by kernel_rfl) (by kernel_rfl) (by kernel_rfl) (fun _ _ _ h => h) (Or.inl ⟨by rfl, fun w hSw => by go_simp⟩) h0 ?_
      try simp only [List.getElem_toArray, List.getElem_cons_zero, List.getElem_cons_succ, Act.put, List.setIfInBounds_toArray, List.set_cons_zero, List.set_cons_succ]
      refine wpAnyH_take (i := 7) (v := .pointer (some ⟨g, off + k * 32, none⟩)) rfl (by kernel_rfl) (by kernel_rfl) (by kernel_rfl) (fun _ _ _ h => h) (Or.inl ⟨by rfl, fun w hSw => by go_simp⟩) h0 ?_
      try simp only [List.getElem_toArray, List.getElem_cons_zero, List.getElem_cons_succ, Act.put, List.setIfInBounds_toArray, List.set_cons_zero, List.set_cons_succ]
      refine wpAnyH_take (i := 8) (v := .agg (bys q).toArray) rfl (by kernel_rfl) (by kernel_rfl) (by kernel_rfl) (fun _ _ _ h => h) (yieldsIf_load_mid (by rfl) _ _ rfl g (off + k * 32) rfl (bys q) _ (fun W h => fun jj u hu => Kept.cellOf h (hrq jj u hu) (by simp)) Tryz.underlying25 rfl hql) h0 ?_
      try simp only [List.getElem_toArray, List.getElem_cons_zero, List.getElem_cons_succ, Act.put, List.setIfInBounds_toArray, List.set_cons_zero, List.set_cons_succ]
      refine wpAnyH_ready (rs := [9]) (by kernel_rfl) (by simp) (AllReadyH.cons (i := 9) rfl (fun K hK => ?_) AllReadyH.nil)
      rw [if_pos (by rfl)]
      go_simp
      refine (hcmp v0).mono ?_
      rintro e v1 ⟨rfl, hq9⟩
      refine hK.out _ _ (h0.trans hq9 (by simp)) (fun h1 => ?_)
      clear hK K
      try simp only [List.getElem_toArray, List.getElem_cons_zero, List.getElem_cons_succ, Act.put, List.setIfInBounds_toArray, List.set_cons_zero, List.set_cons_succ]
      refine wpAnyH_take (i := 10) (v := .bool false) rfl (by kernel_rfl) (by kernel_rfl) (by kernel_rfl) (fun _ _ _ h => h) (Or.inl ⟨by rfl, fun w hSw => by go_simp⟩) h1 ?_
      try simp only [List.getElem_toArray, List.getElem_cons_zero, List.getElem_cons_succ, Act.put, List.setIfInBounds_toArray, List.set_cons_zero, List.set_cons_succ]
      refine wpAnyH_done (by kernel_rfl) ?_ _
      have HN2 := hide (HP.out.1.trans h1 (by simp))
      have HK9 := hide HP.out.2
      clear h0 h1 hrq hrp hcmp hq9
      go_wp2
      go_roundw
      case rel => exact ⟨k + 1, by omega, by go_num, hide ⟨HN2.out, by have := HK9.out; omega⟩⟩
      case measure => simp [intOf]; omega
    · have hlt1 : ¬ (k : Int) < (ln : Int) := by omega
      have HA := hide HP.out.1
      clear HP
      obtain ⟨wa, rfl⟩ : ∃ wo, wo = wr := ⟨_, rfl⟩
      have hrm := run_makeBo wa ln (by omega)
      obtain ⟨G, hG⟩ : ∃ G, wa.heap.size = G := ⟨_, rfl⟩
      have hn0 := new_atK wa (.cells ((List.replicate ln false).map Value.bool).toArray 4 (0, 0))
      have hk0 : Kept [] wa (wa.alloc (.cells ((List.replicate ln false).map Value.bool).toArray 4 (0, 0))) := (Kept.refl [] wa).alloc _
      rw [hG] at hrm hn0
      obtain ⟨wm, hwm⟩ : ∃ r, wa.alloc (.cells ((List.replicate ln false).map Value.bool).toArray 4 (0, 0)) = r := ⟨_, rfl⟩
      rw [hwm] at hrm hn0 hk0
      have HGW : Hid (w.heap.size ≤ G) := hide (by rw [← hG]; exact HA.out.size)
      have HKM := hide (HA.out.trans hk0 (by simp))
      have HNB : Hid (wm.heap[G]? = some (.cells ((List.replicate ln false).map Value.bool).toArray 4 (0, 0))) := hide hn0
      have HGM : Hid (G < wm.heap.size) := hide (Array.getElem?_eq_some_iff.1 hn0).1
      clear hG hn0 hk0 hwm HA
      go_upto_region 8 with (refine wpList_makeSl9 rfl 101 (.tmp 37) (.tmp 37) rfl (.int .i64 ln) (.int .i64 ln) rfl rfl _ _ hrm ?_)
      clear hrm
      go_wp2
      go_loopw [8, 10] (fun x y wr => ∃ (v : Value) (k : Nat) (O : List (List UInt8)), k ≤ rn ∧ y = .int .i64 k ∧ v = x ∧ Hid (OwnI wr wm.heap.size v O ∧ Kept [] wm wr ∧ Cl9 (mpf M) (RL.map (·.root)) l ((RL.map (·.root)).take k) O 0 (fun _ => False) (fun _ => False) (List.replicate ln false))) (fun x y wr => rn - (intOf y).toNat)
      case atStart => exact ⟨_, 0, [], Nat.zero_le _, rfl, rfl, hide ⟨⟨World.ownsRow_nil _ _ _ _, by simp⟩, Kept.refl _ _, by rw [List.take_zero]; exact Cl9.start (by rw [List.length_replicate]; exact HN.out.1.symm)⟩⟩
      case round =>
        obtain ⟨v, k, O, hk, rfl, rfl, HP⟩ := hrel
        by_cases hlt : k < rn
        · as_aux_lemma =>
          have hlt1 : (k : Int) < (rn : Int) := by omega
          have hkl : k < RL.length := by rw [HR.out.1]; exact hlt
          obtain ⟨bz, oz, hao, hrg⟩ := (HR.out.2.kept (HKM.out.trans HP.out.2.1 (by simp)) (fun _ _ _ => by simp)) k hkl
          subst hao
          have hrr := rz_root_at hrg
          have hzin : (RL.getD k rz0).root ∈ RL.map (·.root) := List.mem_map.2 ⟨_, by rw [List.getD_eq_getElem?_getD, List.getElem?_eq_getElem hkl]; exact List.getElem_mem _, rfl⟩
          have htk : (RL.map (·.root)).take (k + 1) = (RL.map (·.root)).take k ++ [(RL.getD k rz0).root] := by
            rw [List.take_succ_eq_append_getElem (by rw [List.length_map]; exact hkl)]
            simp [List.getElem?_eq_getElem hkl]
          have hq0 : (RL.getD k rz0).root.length = 32 := (RL.getD k rz0).hr
          obtain ⟨q, hqe⟩ : ∃ q, (RL.getD k rz0).root = q := ⟨_, rfl⟩
          rw [hqe] at hrr hzin htk hq0
          have hql := idl q hq0
          have hOl : O.length ≤ ln := by
            rw [← HN.out.1]
            exact nodup_le HP.out.2.2.nod (fun p hp => (HM.out.2.1 p).2 (nd_opn (HP.out.2.2.op p hp)))
          obtain ⟨ab, cb, eb, _⟩ := own_shape HP.out.1.1
          obtain ⟨nb, hnb⟩ : ∃ m, O.length = m := ⟨_, rfl⟩
          rw [hnb] at eb hOl
          subst eb
          have had := add9_ok wm.heap.size ab nb cb O q wr HP.out.1 hnb HP.out.2.1.size hq0 (by omega)
          have HFAR : Hid (∀ g, (Value.slice ab nb cb).ownBlock = some g → wm.heap.size ≤ g) := hide (own_far9 HP.out.1.1)
          have HCR : Hid (Cl9 (mpf M) (RL.map (·.root)) l ((RL.map (·.root)).take (k + 1)) (addI O q) 0 (fun _ => False) (fun _ => False) (List.replicate ln false)) := hide (by rw [htk]; exact HP.out.2.2.root hzin rfl)
          clear hqe hkl hrg hzin htk hnb hOl
          go_wp2_with (first
            | refine wpList_load_mid rfl 25 (.tmp 49) rfl bz (oz + k * 65 + 32) rfl (bys q) _ hrr Tryz.underlying25 rfl hql ?_
            | (go_at_call 27; refine had.mono ?_; rintro e w9 ⟨vv, rfl, hvv, hk9⟩; have HN2 : Hid (OwnI w9 wm.heap.size vv (addI O q) ∧ Kept [] wm w9) := hide ⟨hvv, HP.out.2.1.trans hk9 (fun j hj hl => by have := HFAR.out j (by simpa using hj); omega)⟩; clear had hvv hk9))
          go_roundw
          case rel => exact ⟨vv, k + 1, addI O q, by omega, by go_num, rfl, hide ⟨HN2.out.1, HN2.out.2, HCR.out⟩⟩
          case measure => simp [intOf]; omega
        · have hlt1 : ¬ (k : Int) < (rn : Int) := by omega
          have HB : Hid (OwnI wr wm.heap.size v O ∧ Kept [] wm wr ∧ Cl9 (mpf M) (RL.map (·.root)) l (RL.map (·.root)) O 0 (fun _ => False) (fun _ => False) (List.replicate ln false)) := hide ⟨HP.out.1, HP.out.2.1, by have h := HP.out.2.2; rwa [List.take_of_length_le (by rw [List.length_map, HR.out.1]; omega)] at h⟩
          clear HP HR
          obtain ⟨wb, rfl⟩ : ∃ wo, wo = wr := ⟨_, rfl⟩
          go_wp2
          go_loopw [8, 11] (fun x y wr => ∃ (v : Value) (n : Nat) (O : List (List UInt8)) (B : List Bool), n ≤ O.length ∧ y = .int .i64 n ∧ v = x ∧ Hid (OwnI wr wm.heap.size v O ∧ Kept [G] wm wr ∧ wr.heap[G]? = some (.cells (B.map Value.bool).toArray 4 (0, 0)) ∧ Cl9 (mpf M) (RL.map (·.root)) l (RL.map (·.root)) O n (fun _ => False) (fun _ => False) B)) (fun x y wr => ln - (intOf y).toNat)
          case atStart => exact ⟨_, 0, O, _, Nat.zero_le _, rfl, rfl, hide ⟨HB.out.1, HB.out.2.1.mono (by simp), by rw [HB.out.2.1.block G HGM.out (by simp)]; exact HNB.out, HB.out.2.2⟩⟩
          case round =>
            clear HB
            obtain ⟨v, n, O, B, hn, rfl, rfl, HP⟩ := hrel
            have hOl : O.length ≤ ln := by
              rw [← HN.out.1]
              exact nodup_le HP.out.2.2.2.nod (fun p hp => (HM.out.2.1 p).2 (nd_opn (HP.out.2.2.2.op p hp)))
            obtain ⟨ab, cb, eb, _⟩ := own_shape HP.out.1.1
            obtain ⟨nb, hnb⟩ : ∃ m, O.length = m := ⟨_, rfl⟩
            rw [hnb] at eb hOl hn
            subst eb
            have HNL := hide hnb
            clear hnb
            by_cases hlt : n < nb
            · as_aux_lemma =>
              have hlt1 : (n : Int) < (nb : Int) := by omega
              have hKw : Kept [] w wr := HKM.out.trans HP.out.2.1 (fun j hj hlt => by have := HGW.out; simp at hj; omega)
              have hnl : n < O.length := by rw [HNL.out]; exact hlt
              obtain ⟨go, oo, hao, hrq⟩ := HP.out.1.ids.1.1 n hnl
              subst hao
              have hop : opn (mpf M) (RL.map (·.root)) (O.getD n []) := HP.out.2.2.2.op _ (gmem9 hnl)
              have hq : (O.getD n []).length = 32 := HP.out.1.2 _ (gmem9 hnl)
              obtain ⟨q, hqe⟩ : ∃ q, O.getD n [] = q := ⟨_, rfl⟩
              have HQE := hide hqe
              rw [hqe] at hrq hop hq
              have hql := idl q hq
              have hqin : q ∈ l := (HM.out.2.1 q).2 (nd_opn hop)
              have HOP := hide hop
              have hat := at9_idx la ln lc l q wr HN.out.1 (HL.out.kept hKw (fun _ _ _ => by simp)) hq hqin (by omega)
              have HKW := hide hKw
              rcases (HMP.out.kept hKw).look q hq false with ⟨hlk, _⟩ | ⟨dv, xs, hdat, hvl, hlk⟩
              · exact absurd hlk (HM.out.2.2.there q (nd_opn hop))
              have HDAT := hide hdat
              obtain ⟨E, hE⟩ : ∃ E, Tn.parse xs = some E := by
                have h := HM.out.2.2.good q hop
                unfold badF at h
                rw [hdat] at h
                cases hp : Tn.parse xs with
                | none => exact absurd hp h
                | some E => exact ⟨E, rfl⟩
              have HE := hide hE
              have HVL := hide hvl
              have HLK := hide hlk
              have hrq2 : ∀ W, Kept [] wr W → W.rangeAt go (oo + n * 32) (bys q) := fun W h => fun j u hu => h.cellOf (hrq j u hu) (by simp)
              have HRQ := hide hrq2
              clear hqe hnl hop hqin hKw hdat hE hvl hlk hrq2
              go_upto_region 16 with (first
                | refine wpList_load_mid rfl 25 (.tmp 61) rfl go (oo + n * 32) rfl (bys q) _ hrq Tryz.underlying25 rfl hql ?_
                | (go_at_call 28; refine hat.mono ?_; rintro e w1 ⟨kq, rfl, hkq, hkqe, hk1⟩; have HKQ := hide (And.intro hkq hkqe); have HK1 := hide hk1; clear hat hkqe hk1))
              have hlk1 := HLK.out w1 HK1.out
              simp only [Bool.false_eq_true, if_false] at hlk1
              obtain ⟨da, dn, dc, rfl, hd1, hd2, hd3, hd4, hd5⟩ := HVL.out.kept HK1.out (fun _ _ _ _ _ _ _ => by simp)
              have hpr := refparse_ok da dn dc xs w1 hd1 hd3 hd2 hd4
              rw [HE.out] at hpr
              have hrq2 := HRQ.out w1 HK1.out
              clear hrq hd1 hd2 hd3 hd4 hd5 HVL HLK
              go_upto_region 17 with (first
                | refine wpList_load_mid rfl 25 (.tmp 68) rfl go (oo + n * 32) rfl (bys q) _ hrq2 Tryz.underlying25 rfl hql ?_
                | (go_at_call 41; refine hpr.mono ?_; rintro e w2 ⟨⟨ve, rfl, hoe⟩, hb2⟩; have HK2 := hide (Kept.of_below hb2); have HOE := hide hoe; clear hpr hb2 hoe hlk1))
              have hc0 : Tn.code true = 0 := rfl
              rw [hc0]
              obtain ⟨ea, ec, hve, _, _, _, _⟩ := HOE.out.ents
              have hee : (some E).getD [] = E := rfl
              rw [hee] at hve HOE
              obtain ⟨en, hen⟩ : ∃ m, E.length = m := ⟨_, rfl⟩
              rw [hen] at hve
              subst hve
              have HEN := hide hen
              have HK12 := hide (HK1.out.trans HK2.out (by simp))
              have hG2 : w2.heap[G]? = some (.cells (B.map Value.bool).toArray 4 (0, 0)) := by rw [HK12.out.block G (Array.getElem?_eq_some_iff.1 HP.out.2.2.1).1 (by simp)]; exact HP.out.2.2.1
              have hBl : B.length = ln := by rw [HP.out.2.2.2.bl]; exact HN.out.1
              have hkq0 : ¬ (kq : Int) < 0 := Int.not_lt.2 (Int.natCast_nonneg kq)
              have hkqi : (kq : Int) < (ln : Int) := by omega
              have hcell : w2.cell? ⟨G, kq, none⟩ = some (.bool (B.getD kq false)) := by
                rw [cell_of_row _ _ _ _ _ _ hG2]
                simp [List.getElem?_eq_getElem (show kq < B.length by omega)]
              have hfz : w2.frozen? ⟨G, kq, none⟩ = false := frozen_of_row _ _ _ _ _ hG2
              obtain ⟨bq, hbq⟩ : ∃ bq, B.getD kq false = bq := ⟨_, rfl⟩
              rw [hbq] at hcell
              have hrow3 : (w2.setCell ⟨G, kq, none⟩ (.bool true)).heap[G]? = some (.cells ((B.set kq true).map Value.bool).toArray 4 (0, 0)) := setBo hG2 kq
              have hk3 : Kept [G] w2 (w2.setCell ⟨G, kq, none⟩ (.bool true)) := (Kept.refl [G] w2).setCell (fun _ => by simp) _
              have HS3 : Hid (Cl9 (mpf M) (RL.map (·.root)) l (RL.map (·.root)) O n (fun p => p = q) (fun _ => False) (B.set kq true)) := hide (HP.out.2.2.2.begin (up_nodup9 HM.out.1) (by rw [HN.out.1]; exact hkq) HKQ.out.2)
              obtain ⟨w3, hw3⟩ : ∃ r, w2.setCell ⟨G, kq, none⟩ (.bool true) = r := ⟨_, rfl⟩
              rw [hw3] at hrow3 hk3
              have hoi2 := HP.out.1.kept HK12.out (fun _ _ => by simp)
              have HO3 : Hid (OwnI w3 wm.heap.size (.slice (some ⟨go, oo, none⟩) nb cb) O) := hide (hoi2.kept hk3 (fun g hg => by simpa using own_types0 hoi2.1 hG2 (by decide) g hg))
              have HE3 : Hid (OwnE w3 wm.heap.size (.slice ea en ec) E) := hide (((HOE.out.base9 (Nat.le_trans HP.out.2.1.size HK1.out.size))).kept hk3 (fun g hg => by simpa using own_types0 HOE.out.1 hG2 (by decide) g hg))
              have HR3 := hide hrow3
              have HK3 : Hid (Kept [G] wm w3) := hide ((HP.out.2.1.trans HK12.out (by simp)).trans hk3 (fun j hj _ => hj))
              clear hbq hrow3 hk3 hoi2 hG2 hBl HOE HK12 HK1 HK2 HP HRQ hrq2
              go_upto_region 20 with (fail)
              clear hw3 hcell hfz
              have HND : Hid (n < O.length) := hide (by rw [HNL.out]; exact hlt)
              go_wp2
              go_loopw [8, 15] (fun x y wr => ∃ (v : Value) (i : Nat) (O2 : List (List UInt8)) (B2 : List Bool), i ≤ en ∧ y = .int .i64 i ∧ v = x ∧ Hid (OwnI wr wm.heap.size v O2 ∧ Kept [G] wm wr ∧ wr.heap[G]? = some (.cells (B2.map Value.bool).toArray 4 (0, 0)) ∧ OwnE wr wm.heap.size (.slice ea en ec) E ∧ Cl9 (mpf M) (RL.map (·.root)) l (RL.map (·.root)) O2 n (fun p => p = q ∨ p ∈ (E.take i).map (·.id)) (fun p => p ∈ fldsE (E.take i)) B2 ∧ O2.getD n [] = q ∧ n < O2.length)) (fun x y wr => en - (intOf y).toNat)
              case atStart => exact ⟨_, 0, O, _, Nat.zero_le _, rfl, rfl, hide ⟨HO3.out, HK3.out, HR3.out, HE3.out, HS3.out.cong (fun p => by simp) (fun p => by simp [fldsE]), HQE.out, HND.out⟩⟩
              case round =>
                clear HO3 HK3 HR3 HE3 HS3 HND
                obtain ⟨v, i, O2, B2, hi, rfl, rfl, HD⟩ := hrel
                by_cases hlt : i < en
                · as_aux_lemma =>
                    have hlt1 : (i : Int) < (en : Int) := by omega
                    have hKw : Kept [] w wr := HKM.out.trans HD.out.2.1 (fun j hj hlt => by have := HGW.out; simp at hj; omega)
                    have hil : i < E.length := by rw [HEN.out]; exact hlt
                    obtain ⟨a0, c0, hv0, _, hents, hblk, _⟩ := HD.out.2.2.2.1.ents
                    injection hv0 with hv1 hv2 hv3
                    clear hv2 hv3
                    subst hv1
                    obtain ⟨ge, oe, hae, hrg, hok⟩ := hents i hil
                    subst hae
                    obtain ⟨x, hx⟩ : ∃ x, E.getD i ent0 = x := ⟨_, rfl⟩
                    have hxE : x ∈ E := by rw [← hx]; exact getD_mem hil
                    rw [hx] at hrg hok
                    have hidin : x.id ∈ idsF (mpf M) q := by
                      unfold idsF
                      rw [HDAT.out]
                      simp only [HE.out]
                      exact List.mem_map.2 ⟨x, hxE, rfl⟩
                    have hnd : nd (mpf M) (RL.map (·.root)) x.id := .inr ⟨q, HOP.out, hidin⟩
                    have hq9 := hok.idl
                    have hrid := ent_id_at hrg
                    have hkd := ent_kind_at hrg
                    have htk : (E.take (i + 1)).map (·.id) = (E.take i).map (·.id) ++ [x.id] := by
                      rw [List.take_succ_eq_append_getElem hil, List.map_append, ← hx]
                      simp [List.getElem?_eq_getElem hil]
                    have hfs := fldsE_snoc E i hil
                    rw [hx] at hfs
                    have hopx : (x.kind == 3) = true → opn (mpf M) (RL.map (·.root)) x.id := fun hk => opn_flds HM.out.2.2 HOP.out (by
                      unfold fldsF
                      rw [HDAT.out]
                      simp only [HE.out]
                      exact List.mem_map.2 ⟨x, List.mem_filter.2 ⟨hxE, hk⟩, rfl⟩)
                    have HOX := hide hopx
                    obtain ⟨kd, hkde⟩ : ∃ kd, x.kind = kd := ⟨_, rfl⟩
                    obtain ⟨xi, hxie⟩ : ∃ xi, x.id = xi := ⟨_, rfl⟩
                    rw [hxie] at hidin hnd hq9 hrid htk hfs
                    rw [hkde] at hkd hfs
                    rw [hkde, hxie] at HOX
                    have hxl := idl xi hq9
                    have hat := at9_idx la ln lc l xi wr HN.out.1 (HL.out.kept hKw (fun _ _ _ => by simp)) hq9 ((HM.out.2.1 xi).2 hnd) (by omega)
                    obtain ⟨ab2, cb2, eb2, _⟩ := own_shape HD.out.1.1
                    obtain ⟨nb2, hnb2⟩ : ∃ m, O2.length = m := ⟨_, rfl⟩
                    rw [hnb2] at eb2
                    subst eb2
                    have hOl2 : O2.length ≤ ln := by
                      rw [← HN.out.1]
                      exact nodup_le HD.out.2.2.2.2.1.nod (fun p hp => (HM.out.2.1 p).2 (nd_opn (HD.out.2.2.2.2.1.op p hp)))
                    rw [hnb2] at hOl2
                    have HNB2 := hide hnb2
                    have HTK := hide htk
                    have HFS := hide hfs
                    have HRI := hide hrid
                    have HKD := hide hkd
                    clear hnb2 htk hfs hnd hidin hxE hx hrg hok hents hblk hkde hxie hopx hKw
                    go_upto_region 24 with (first
                      | refine wpList_load_mid rfl 25 (.tmp 93) rfl ge (oe + i * 34 + 2) rfl (bys xi) _ hrid Tryz.underlying25 rfl hxl ?_
                      | (go_at_call 28; refine hat.mono ?_; rintro e w1 ⟨kq, rfl, hkq, hkqe, hk1⟩; have HKQ := hide (And.intro hkq hkqe); have HK1 := hide hk1; clear hat hkqe hk1))
                    have hG2 : w1.heap[G]? = some (.cells (B2.map Value.bool).toArray 4 (0, 0)) := by rw [HK1.out.block G (Array.getElem?_eq_some_iff.1 HD.out.2.2.1).1 (by simp)]; exact HD.out.2.2.1
                    have hBl : B2.length = ln := by rw [HD.out.2.2.2.2.1.bl]; exact HN.out.1
                    have hkq0 : ¬ (kq : Int) < 0 := Int.not_lt.2 (Int.natCast_nonneg kq)
                    have hkqi : (kq : Int) < (ln : Int) := by omega
                    have hcell : w1.cell? ⟨G, kq, none⟩ = some (.bool (B2.getD kq false)) := by
                      rw [cell_of_row _ _ _ _ _ _ hG2]
                      simp [List.getElem?_eq_getElem (show kq < B2.length by omega)]
                    have hfz : w1.frozen? ⟨G, kq, none⟩ = false := frozen_of_row _ _ _ _ _ hG2
                    obtain ⟨bq, hbq⟩ : ∃ bq, B2.getD kq false = bq := ⟨_, rfl⟩
                    rw [hbq] at hcell
                    have hrow3 : (w1.setCell ⟨G, kq, none⟩ (.bool true)).heap[G]? = some (.cells ((B2.set kq true).map Value.bool).toArray 4 (0, 0)) := setBo hG2 kq
                    have hk3 : Kept [G] w1 (w1.setCell ⟨G, kq, none⟩ (.bool true)) := (Kept.refl [G] w1).setCell (fun _ => by simp) _
                    have hoi2 := HD.out.1.kept HK1.out (fun _ _ => by simp)
                    have hoe2 := HD.out.2.2.2.1.kept HK1.out (fun _ _ => by simp)
                    have hgG : ge ≠ G := own_types0 hoe2.1 hG2 (by decide) ge rfl
                    obtain ⟨w3, hw3⟩ : ∃ r, w1.setCell ⟨G, kq, none⟩ (.bool true) = r := ⟨_, rfl⟩
                    rw [hw3] at hrow3 hk3
                    have HO3 : Hid (OwnI w3 wm.heap.size (.slice ab2 nb2 cb2) O2) := hide (hoi2.kept hk3 (fun g hg => by simpa using own_types0 hoi2.1 hG2 (by decide) g hg))
                    have HE3 : Hid (OwnE w3 wm.heap.size (.slice (some ⟨ge, oe, none⟩) en ec) E) := hide (hoe2.kept hk3 (fun g hg => by simpa using own_types0 hoe2.1 hG2 (by decide) g hg))
                    have HR3 := hide hrow3
                    have HK3 : Hid (Kept [G] wm w3) := hide ((HD.out.2.1.trans HK1.out (by simp)).trans hk3 (fun j hj _ => hj))
                    have HM3 : Hid (Cl9 (mpf M) (RL.map (·.root)) l (RL.map (·.root)) O2 n (fun p => p = q ∨ p ∈ (E.take (i + 1)).map (·.id)) (fun p => p ∈ fldsE (E.take i)) (B2.set kq true)) := hide ((HD.out.2.2.2.2.1.mark (up_nodup9 HM.out.1) (by rw [HN.out.1]; exact hkq) HKQ.out.2).cong (fun p => by rw [HTK.out, List.mem_append, List.mem_singleton, or_assoc]) (fun p => Iff.rfl))
                    have HQ2 := hide HD.out.2.2.2.2.2
                    have hkd3 : w3.cell? ⟨ge, oe + i * 34 + 1, none⟩ = some (.int .i64 kd) := hk3.cellOf (HK1.out.cellOf HKD.out (by simp)) (by simpa using hgG)
                    have hri3 : w3.rangeAt ge (oe + i * 34 + 2) (bys xi) := fun j u hu => hk3.cellOf (HK1.out.cellOf (HRI.out j u hu) (by simp)) (by simpa using hgG)
                    clear hbq hrow3 hk3 hoi2 hoe2 hG2 hBl HD HK1 HRI HKD HTK hrid hkd hgG
                    go_upto_region 27 with (fail)
                    clear hw3 hcell hfz
                    by_cases hkk : (kd == 3) = true
                    · have hop3 := HOX.out hkk
                      have HS4 : Hid (Cl9 (mpf M) (RL.map (·.root)) l (RL.map (·.root)) (addI O2 xi) n (fun p => p = q ∨ p ∈ (E.take (i + 1)).map (·.id)) (fun p => p ∈ fldsE (E.take (i + 1))) (B2.set kq true)) := hide ((HM3.out.fold hop3 rfl).cong (fun p => Iff.rfl) (fun p => by rw [HFS.out, if_pos hkk, List.mem_append, List.mem_singleton]))
                      have HQ4 : Hid ((addI O2 xi).getD n [] = q ∧ n < (addI O2 xi).length) := hide ⟨by
                        have h := getD_addL (q := xi) HQ2.out.2
                        exact h.trans HQ2.out.1, by
                        have := HS4.out.nle
                        have h2 := HQ2.out.2
                        unfold addI
                        split
                        · exact h2
                        · simp; omega⟩
                      have hb3 : wm.heap.size ≤ w3.heap.size := HK3.out.size
                      have had := add9_ok wm.heap.size ab2 nb2 cb2 O2 xi w3 HO3.out HNB2.out hb3 hq9 (by omega)
                      have HFAR : Hid (∀ g, (Value.slice ab2 nb2 cb2).ownBlock = some g → wm.heap.size ≤ g) := hide (own_far9 HO3.out.1)
                      have HTY : Hid (∀ g, (Value.slice ab2 nb2 cb2).ownBlock = some g → g ≠ G ∧ (Value.slice (some ⟨ge, oe, none⟩) en ec).ownBlock ≠ some g) := hide (fun g hg => ⟨own_types0 HO3.out.1 HR3.out (by decide) g hg, own_types9 HE3.out.1 HO3.out.1 (by decide) g hg⟩)
                      clear hop3 HM3 hb3
                      go_wp2_with (first
                        | refine wpList_load_mid rfl 25 (.tmp 111) rfl ge (oe + i * 34 + 2) rfl (bys xi) _ hri3 Tryz.underlying25 rfl hxl ?_
                        | (go_at_call 27; refine had.mono ?_; rintro e w9 ⟨vv, rfl, hvv, hk9⟩; have HO9 := hide hvv; have HK9 := hide hk9; clear had hvv hk9))
                      go_roundw
                      case rel =>
                        refine ⟨vv, i + 1, addI O2 xi, B2.set kq true, by omega, by go_num, rfl, hide ⟨HO9.out, HK3.out.trans HK9.out (fun j hj hlt => by have := HFAR.out j (by simpa using hj); omega), ?_, ?_, HS4.out, HQ4.out.1, HQ4.out.2⟩⟩
                        · rw [HK9.out.block G (Array.getElem?_eq_some_iff.1 HR3.out).1 (fun hm => (HTY.out G (by simpa using hm)).1 rfl)]
                          exact HR3.out
                        · exact HE3.out.kept HK9.out (fun g hg hm => (HTY.out g (by simpa using hm)).2 hg)
                      case measure => simp [intOf]; omega
                    · have hkf : (kd == 3) = false := by simpa using hkk
                      have HS4 : Hid (Cl9 (mpf M) (RL.map (·.root)) l (RL.map (·.root)) O2 n (fun p => p = q ∨ p ∈ (E.take (i + 1)).map (·.id)) (fun p => p ∈ fldsE (E.take (i + 1))) (B2.set kq true)) := hide (HM3.out.cong (fun p => Iff.rfl) (fun p => by rw [HFS.out, if_neg hkk, List.append_nil]))
                      clear hkk HM3 hri3
                      go_wp2
                      go_roundw
                      case rel => exact ⟨.slice ab2 nb2 cb2, i + 1, O2, B2.set kq true, by omega, by go_num, rfl, hide ⟨HO3.out, HK3.out, HR3.out, HE3.out, HS4.out, HQ2.out.1, HQ2.out.2⟩⟩
                      case measure => simp [intOf]; omega
                · have hlt1 : ¬ (i : Int) < (en : Int) := by omega
                  have HX : Hid (Cl9 (mpf M) (RL.map (·.root)) l (RL.map (·.root)) O2 (n + 1) (fun _ => False) (fun _ => False) B2) := hide (by
                    have h := HD.out.2.2.2.2
                    rw [List.take_of_length_le (by rw [HEN.out]; omega)] at h
                    exact h.1.next h.2.2 h.2.1 (fun p hp => by
                      rcases hp with hp | hp
                      · exact .inl hp
                      · unfold idsF at hp
                        rw [HDAT.out] at hp
                        simp only [HE.out] at hp
                        exact .inr hp) (fun p hp => by
                      unfold fldsF at hp
                      rw [HDAT.out] at hp
                      simp only [HE.out] at hp
                      exact hp))
                  go_wp2
                  go_roundw
                  case rel => exact ⟨v, n + 1, O2, B2, HX.out.nle, by go_num, rfl, hide ⟨HD.out.1, HD.out.2.1, HD.out.2.2.1, HX.out⟩⟩
                  case measure => simp [intOf]; omega
            · have hlt1 : ¬ (n : Int) < (nb : Int) := by omega
              have HC : Hid ((∀ k, k < l.length → B.getD k false = true) ∧ Kept [] w wr ∧ wr.heap[G]? = some (.cells (B.map Value.bool).toArray 4 (0, 0)) ∧ B.length = ln) := hide ⟨HP.out.2.2.2.all (by have := HNL.out; omega) (fun q hq => (HM.out.2.1 q).1 hq), HKM.out.trans HP.out.2.1 (fun j hj hlt => by have := HGW.out; simp at hj; omega), HP.out.2.2.1, by rw [HP.out.2.2.2.bl]; exact HN.out.1⟩
              clear HP
              obtain ⟨wc, rfl⟩ : ∃ wo, wo = wr := ⟨_, rfl⟩
              go_wp2
              go_loopw [16] (fun y wr => ∃ k : Nat, k ≤ ln ∧ y = .int .i64 k ∧ Hid (Kept [] wc wr)) (fun y wr => ln - (intOf y).toNat)
              case atStart => exact ⟨0, Nat.zero_le _, rfl, hide (Kept.refl _ _)⟩
              case round =>
                obtain ⟨k, hk, rfl, HP⟩ := hrel
                by_cases hlt : k < ln
                · as_aux_lemma =>
                  have hlt1 : (k : Int) < (ln : Int) := by omega
                  have hkl : k < l.length := by rw [HN.out.1]; exact hlt
                  have hKw : Kept [] w wr := HC.out.2.1.trans HP.out (by simp)
                  obtain ⟨g, off, hao, hrq⟩ := (HL.out.kept hKw (fun _ _ _ => by simp)).1 k hkl
                  subst hao
                  have hq : (l.getD k []).length = 32 := HL.out.2 _ (gmem9 hkl)
                  have hthere := HM.out.2.2.there _ ((HM.out.2.1 _).1 (gmem9 hkl))
                  have hBk := HC.out.1 k hkl
                  obtain ⟨q, hqe⟩ : ∃ q, l.getD k [] = q := ⟨_, rfl⟩
                  rw [hqe] at hrq hq hthere
                  have hql := idl q hq
                  have hGr : wr.heap[G]? = some (.cells (B.map Value.bool).toArray 4 (0, 0)) := by rw [HP.out.block G (Array.getElem?_eq_some_iff.1 HC.out.2.2.1).1 (by simp)]; exact HC.out.2.2.1
                  have hcell : wr.cell? ⟨G, k, none⟩ = some (.bool true) := by
                    rw [cell_of_row _ _ _ _ _ _ hGr, ← hBk]
                    simp [List.getElem?_eq_getElem (show k < B.length by rw [HC.out.2.2.2]; exact hlt)]
                  rcases (HMP.out.kept hKw).look q hq true with ⟨hlk, _⟩ | ⟨dv, xs, hdat, hvl, hlk⟩
                  · exact absurd hlk hthere
                  have hlk1 := hlk wr (Kept.refl _ _)
                  simp only [if_true] at hlk1
                  clear hqe hkl hKw hthere hBk hGr hdat hvl hlk
                  go_wp2_with (refine wpList_load_mid rfl 25 (.tmp 124) rfl g (off + k * 32) rfl (bys q) _ hrq Tryz.underlying25 rfl hql ?_)
                  go_roundw
                  case rel => exact ⟨k + 1, by omega, by go_num, HP⟩
                  case measure => simp [intOf]; omega
                · obtain rfl : k = ln := by omega
                  have hlt1 : ¬ (k : Int) < (k : Int) := by omega
                  have HKF := hide (HC.out.2.1.trans HP.out (by simp))
                  go_wp2
                  go_ret
                  exact ⟨rfl, HKF.out⟩
end Go.Proofs.YtngaimahhgmciaaGreatDoor
