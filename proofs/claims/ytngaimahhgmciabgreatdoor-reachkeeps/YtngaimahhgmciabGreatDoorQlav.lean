/-
  ReachLeast: the walk. (Written by tools/qla.py.)
-/
import Derived.Test.YtngaimahhgmciabGreatDoorQpev
import Derived.BigFrame
namespace Go.Proofs.YtngaimahhgmciabGreatDoor
open Go.RowKit Go.Lib Go.Sort
set_option linter.unusedVariables false
set_option linter.unusedSimpArgs false

theorem InZ.far {w : World} {ao : Option Addr} {n c : Nat} {L : List Rz} (h : InZ w ao n c L) : L ≠ [] → ∀ a, ao = some a → a.block < w.heap.size := fun hne a ha => by
  obtain ⟨b, off, e, hr⟩ := h.rss 0 (List.length_pos_iff.2 hne)
  rw [ha] at e
  cases e
  exact World.block_lt_of_cell? _ _ (hr 0 _ (List.getElem?_eq_getElem (by rw [Rz.len]; omega)))
theorem InZ.kp9 {o : Nat → Prop} {w w' : World} {ao : Option Addr} {n c : Nat} {L : List Rz} (h : InZ w ao n c L) (hk : Kp o w w') (hn : ∀ k, k < w.heap.size → ¬ o k) : InZ w' ao n c L := by
  refine ⟨h.len, h.le, h.max, fun i hi => ?_, h.nil⟩
  obtain ⟨b, off, e, hr⟩ := h.rss i hi
  exact ⟨b, off, e, fun j v hv => hk.cell (hr j v hv) (hn _ (World.block_lt_of_cell? _ _ (hr j v hv)))⟩
theorem own_max9 {w : World} {base n c : Nat} {ao : Option Addr} {C : List (List UInt8)} (h : OwnI w base (.slice ao n c) C) : n ≤ 9223372036854775807 := by
  have e0 := h.ids.2.1
  rcases h.1.2 with ⟨_, e⟩ | ⟨g, cap, cur, e, _⟩
  · omega
  · injection e with e1 _ _
    subst e1
    obtain ⟨cur, _, _, h1, h2, _⟩ := OwnI.row (h := h)
    unfold maxLen at h2
    omega
theorem wpList_load_midw9 {P : Program} {ops : Array Oper} {rest : List Oper} {o : Oper} {a : Act} {w : World} {Q : Exit → Act → World → Prop} (ty : TypeId) (x : Operand) (ho : o.op = .load ty x) (b off : Nat) (hx : a.eval x = .pointer (some ⟨b, off, none⟩)) (cs : List Value) (d : TypeDesc) (hc : w.rangeAt b off cs) (hu : P.underlying ty = some d) (hd : d.isRow = true) (hi : (P.info? ty).map (·.size) = some cs.length)
    (hw : Region.wanted o (yielded ops a.tmps) = true) (h : wpList P ops Q rest (a.put o.dst (.agg cs.toArray)) w) : wpList P ops Q (o :: rest) a w :=
  BigFrame.wpList_want hw fun _ hK => wp_load_mid ty x ho b off hx cs d hc hu hd hi (hK _ _ h)
theorem wrap_small9 (k : Nat) (h : k ≤ 9223372036854775807) : IntKind.i64.wrap (k : Int) = (k : Int) := by
  simp [IntKind.wrap, IntKind.min, IntKind.max, IntKind.bits, IntKind.signed]
  omega
/-- What Need's two answers are. -/
def ErrN (w : World) (lo : Nat) (p : Option (Int × List UInt8)) (N : List (List UInt8)) (v ev : Value) : Prop :=
  (p = none ∧ ev = .nilIface ∧ OwnI w lo v (canon N)) ∨ ∃ cd i eb, p = some (cd, i) ∧ v = .slice none 0 0 ∧ ev = faultV eb ∧ FltAt w eb opNeed i (.iface 38 (.int .i64 cd)) ∧ lo ≤ eb ∧ i.length = 32
theorem NdM.tup {o1 : Nat → Prop} {St : World → Prop} {M : List (List UInt8 × List UInt8)} {roots : List (List UInt8)} {w w' : World} {e : Ending} (h : NdM o1 St M roots w e w') :
    ∃ v ev, e = .returned (.tuple #[v, ev]) ∧ ErrN w' w.heap.size (picks (walkW (mpf M) [] roots).2.1.B (walkW (mpf M) [] roots).2.2 (walkW (mpf M) [] roots).2.1.L) (walkW (mpf M) [] roots).2.1.N v ev := by
  rcases h.ans with ⟨v, h1, h2, h3⟩ | ⟨cd, i, eb, h1, h2, h3, h4, h5⟩
  · exact ⟨_, _, h2, .inl ⟨h1, rfl, h3⟩⟩
  · exact ⟨_, _, h2, .inr ⟨cd, i, eb, h1, rfl, rfl, h3, h4, h5⟩⟩
theorem picks_cases {B R L : List (List UInt8)} {cd : Int} {i : List UInt8} (h : picks B R L = some (cd, i)) : (cd = 100 ∨ cd = 101) ∨ (cd = 102 ∧ L ≠ [] ∧ i = (canon L).getD 0 []) := by
  unfold picks at h
  split at h
  · cases h; exact .inl (.inl rfl)
  · split at h
    · cases h; exact .inl (.inr rfl)
    · split at h
      · next hL => cases h; exact .inr ⟨rfl, hL, rfl⟩
      · cases h
theorem code_nil9 (w : World) : Calls Tryz.prog 12 #[.nilIface] w fun e w' => e = .returned (.int .i64 0) ∧ Kept [] w w' := by
  go_enter Tryz.func12, Tryz.ntmps12
  go_wp2
  go_ret
  exact ⟨rfl, (Kept.refl _ _).alloc _⟩
/-- api.Code of what Need answers. -/
def codeOf (p : Option (Int × List UInt8)) : Int := match p with
  | none => 0
  | some x => x.1
theorem code9_ok {w : World} {lo : Nat} {p : Option (Int × List UInt8)} {N : List (List UInt8)} {v ev : Value} (gl : GlE w) (h : ErrN w lo p N v ev) :
    Calls Tryz.prog 12 #[ev] w fun e w' => e = .returned (.int .i64 (codeOf p)) ∧ Kept [] w w' := by
  rcases h with ⟨rfl, rfl, _⟩ | ⟨cd, i, eb, rfl, _, rfl, hf, _, hi⟩
  · exact code_nil9 w
  · exact codeErrno_ok 1 _ cd w gl ⟨eb, _, rfl, hf.err hi, rfl⟩
theorem OwnI.at9 {w : World} {base n c : Nat} {ao : Option Addr} {C : List (List UInt8)} (h : OwnI w base (.slice ao n c) C) (hn : 0 < n) : ∃ g, ao = some ⟨g, 0, none⟩ := by
  rcases h.1.2 with ⟨e, e2⟩ | ⟨g, cap, cur, e, _⟩
  · injection e with e1 e3 e4
    omega
  · injection e with e1 _ _
    exact ⟨g, e1⟩
/-- What is told of a need lies in no block of o. -/
theorem ErrN.kp {o : Nat → Prop} {w w' : World} {lo : Nat} {p : Option (Int × List UInt8)} {N : List (List UInt8)} {v ev : Value} (h : ErrN w lo p N v ev) (hk : Kp o w w') (hn : ∀ b, lo ≤ b → ¬ o b) : ErrN w' lo p N v ev := by
  rcases h with ⟨h1, h2, h3⟩ | ⟨cd, i, eb, h1, h2, h3, h4, h5, h6⟩
  · exact .inl ⟨h1, h2, h3.kp9 hk (fun g hg => hn g (own_far9 h3.1 g hg))⟩
  · exact .inr ⟨cd, i, eb, h1, h2, h3, hk.fault h4 (hn eb h5), h5, h6⟩
theorem ErrN.kept {w w' : World} {lo : Nat} {p : Option (Int × List UInt8)} {N : List (List UInt8)} {v ev : Value} (h : ErrN w lo p N v ev) (hk : Kept [] w w') : ErrN w' lo p N v ev := h.kp (o := fun _ => False) (Kp.ofKept hk (by simp)) (fun _ _ h => h)

set_option maxHeartbeats 3200000 in
set_option maxRecDepth 100000 in
theorem least_walk (ia : Option Addr) (in_ ic : Nat) (ra : Option Addr) (rn rc : Nat) (IL : List It9) (RL : List Rz) (w : World) (gl : GlE w) (tabs : Tabs w) (hI : InI w ia in_ ic IL) (hR : InZ w ra rn rc RL) :
    Calls Tryz.prog 3 #[.slice ia in_ ic, .slice ra rn rc] w fun e w' => e = .returned (.bool true) ∧ Kept [] w w' := by
  have hkn := known9_ok w gl tabs
  have HG := hide gl
  have HT := hide tabs
  have HI := hide hI
  have HR := hide hR
  have hr72 := hR.max
  have hrle := hR.le
  have hrn : rn ≤ 1954687338211 := by omega
  clear gl tabs hI hR hr72 hrle
  go_enter Tryz.func3, Tryz.ntmps3
  go_upto_region 3 with (go_at_call 7; refine hkn.mono ?_; rintro e w1 ⟨rfl, hk1⟩; have HK1 := hide hk1; have hmp := mapped9_ok ia in_ ic IL w1 (HI.out.kept hk1); clear hkn hk1)
  go_upto_region 4 with (go_at_call 8; refine hmp.mono ?_; rintro e w2 ⟨b, V, rfl, hmw, hk2⟩; have HMW := hide hmw; have HK2 := hide (HK1.out.trans hk2 (by simp)); clear hmp hk2 hmw)
  obtain ⟨M, hM⟩ : ∃ M, map9 IL (ids9 IL) = M := ⟨_, rfl⟩
  have hMl : M.length ≤ 60 := by rw [← hM]; exact Nat.le_trans (map9_len IL _) (ids9_len IL)
  rw [hM] at HMW
  obtain ⟨lo, hlo⟩ : ∃ r, w1.heap.size = r := ⟨_, rfl⟩
  obtain ⟨hi, hhi⟩ : ∃ r, w2.heap.size = r := ⟨_, rfl⟩
  have hgt : 4 ≤ lo := by rw [← hlo]; exact Nat.le_trans HT.out.big HK1.out.size
  have HST : Hid (Std (.map (some b)) M (Rng lo hi) (Mst lo hi b M)) := hide (ms_std hgt)
  have HMS : Hid (Mst lo hi b M w2) := hide (by rw [← hlo, ← hhi]; exact ⟨V, HMW.out.ms⟩)
  have HLH : Hid (lo = w1.heap.size ∧ hi = w2.heap.size) := hide ⟨hlo.symm, hhi.symm⟩
  have hR2 := HR.out.kept HK2.out
  have hnd := need9_ok HST.out HMS.out (fun k hk => by have := hk.2; have := HLH.out.2; omega) (HG.out.kept HK2.out) (HT.out.kept HK2.out (by simp)) ra rn rc RL hR2.len hR2.rss (by omega) hR2.far
  clear hM hlo hhi hgt HMW
  obtain ⟨rr, hrr⟩ : ∃ r, walkW (mpf M) [] (RL.map (·.root)) = r := ⟨_, rfl⟩
  have HTL : Hid (Tls (mpf M) (RL.map (·.root)) rr) := hide (by rw [← hrr]; exact walk_sem (mpf_nofail M) [] _)
  go_upto_region 5 with (go_at_call 9; refine hnd.mono ?_; rintro e w3 hN; obtain ⟨v3, ev, rfl, hE⟩ := hN.tup; rw [hrr] at hE; have HN := hide (And.intro hN.kp (And.intro hN.st (And.intro hN.gl hN.tabs))); have HE := hide hE; clear hN hE hnd)
  have HKW3 : Hid (Kp (Rng lo hi) w w3) := hide ((Kp.ofKept (o := Rng lo hi) HK2.out (by simp)).trans HN.out.1 (fun i h _ => h))
  have hR3 := HR.out.kp9 HKW3.out (fun k hk h => by have := h.1; have := HLH.out.1; have := HK1.out.size; omega)
  have hlk := lacks9_ok HST.out HN.out.2.1 (fun k hk => by have := hk.2; have := HLH.out.2; have := HN.out.1.size; omega) HN.out.2.2.1 HN.out.2.2.2 ra rn rc RL hR3.len hR3.rss (by omega) hR3.far
  have HE3 := HE
  clear hR2 hR3 HE HK2 HMS
  go_upto_region 6 with (go_at_call 10; refine hlk.mono ?_; rintro e w4 hN; obtain ⟨v4, rfl, hov⟩ := hN.ans; rw [hrr] at hov; obtain ⟨a4, c4, e4, _⟩ := own_shape hov.1; subst e4; have HL4 := hide hov; have HN4 := hide (And.intro hN.kp (And.intro hN.st (And.intro hN.gl hN.tabs))); clear hN hov hlk)
  have HE := hide (HE3.out.kp HN4.out.1 (fun b hb h => by have := h.2; have := HLH.out.2; omega))
  have HK4 : Hid (Kept [] w w4) := hide (by
    have k := HKW3.out.trans HN4.out.1 (fun i h _ => h)
    exact ⟨k.os, k.tape, k.output, k.size, fun i hi hn => k.block i hi (fun h => by have := h.1; have := HLH.out.1; have := HK1.out.size; omega)⟩)
  have HMA := hide (HST.out.at_ HN4.out.2.1)
  have HG4 := hide HN4.out.2.2.1
  obtain ⟨m, hm⟩ : ∃ m, (canon rr.2.1.L).length = m := ⟨_, rfl⟩
  have HM := hide hm
  rw [hm] at HL4 ⊢
  have hm2 : m ≤ 9223372036854775807 := own_max9 HL4.out
  clear hrr HE3 HN HKW3 HN4 HST HLH HR HI hm
  go_wp2
  go_loopw [10] (fun x wr => ∃ k : Nat, k ≤ m ∧ x = .int .i64 k ∧ Hid (Kept [] w4 wr)) (fun x wr => m - (intOf x).toNat)
  case atStart => exact ⟨0, by omega, rfl, hide (Kept.refl _ _)⟩
  case round =>
    obtain ⟨k, hk, rfl, HP⟩ := hrel
    by_cases hlt : k < m
    · have hlt1 : (k : Int) < (m : Int) := by omega
      have hkl : k < (canon rr.2.1.L).length := by rw [HM.out]; exact hlt
      obtain ⟨g, off, hao, hrq⟩ := ((HL4.out.kept HP.out (fun _ _ => by simp)).ids.1).1 k hkl
      have hq : ((canon rr.2.1.L).getD k []).length = 32 := HL4.out.2 _ (gmem9 hkl)
      have hlack : mpf M ((canon rr.2.1.L).getD k []) = .lack := ((HTL.out.L _).1 (mem_canon.1 (gmem9 hkl))).2
      have hlk := (HMA.out.kept HP.out).look ((canon rr.2.1.L).getD k []) hq true
      rw [hlack] at hlk
      rcases hlk with ⟨_, hlk⟩ | ⟨_, _, e, _⟩
      rotate_left
      · cases e
      subst hao
      obtain ⟨q, hqe⟩ : ∃ q, (canon rr.2.1.L).getD k [] = q := ⟨_, rfl⟩
      have HQE := hide hqe
      rw [hqe] at hrq hq hlk
      have hlk1 := hlk wr (Kept.refl _ _)
      simp only [if_true] at hlk1
      have hql := idl q hq
      clear hlk hqe hlack
      go_upto_region 12 with (refine wpList_load_mid rfl 36 (.tmp 43) rfl g (off + k * 32) rfl (bys q) _ hrq Tryz.underlying36 rfl hql ?_)
      clear hlk1
      by_cases hk0 : k = 0
      · subst hk0
        have h00 : ¬ (0 : Int) < 0 := by omega
        as_aux_lemma =>
        refine wp_region_held_drew (S := fun w' => Kept [] wr w') (by kernel_rfl) ((Kept.refl [] wr).drew) (fun h0 => ?_)
        generalize World.drew wr = v0 at h0  ⊢
        refine wpAnyH_take (i := 0) (v := .bool false) rfl (by kernel_rfl) (by kernel_rfl) (by kernel_rfl) (fun _ _ _ h => h) (Or.inl ⟨by rfl, fun w hSw => by go_simp⟩) h0 ?_
        try simp only [List.getElem_toArray, List.getElem_cons_zero, List.getElem_cons_succ, Act.put, List.setIfInBounds_toArray, List.set_cons_zero, List.set_cons_succ]
        refine wpAnyH_take (i := 1) (v := .bool false) rfl (by kernel_rfl) (by kernel_rfl) (by kernel_rfl) (fun _ _ _ h => h) (Or.inl ⟨by rfl, fun w hSw => by go_simp⟩) h0 ?_
        try simp only [List.getElem_toArray, List.getElem_cons_zero, List.getElem_cons_succ, Act.put, List.setIfInBounds_toArray, List.set_cons_zero, List.set_cons_succ]
        refine wpAnyH_take (i := 2) (v := .int .i64 0) rfl (by kernel_rfl) (by kernel_rfl) (by kernel_rfl) (fun _ _ _ h => h) (Or.inl ⟨by rfl, fun w hSw => by go_simp⟩) h0 ?_
        try simp only [List.getElem_toArray, List.getElem_cons_zero, List.getElem_cons_succ, Act.put, List.setIfInBounds_toArray, List.set_cons_zero, List.set_cons_succ]
        refine wpAnyH_take (i := 3) (v := .bool false) rfl (by kernel_rfl) (by kernel_rfl) (by kernel_rfl) (fun _ _ _ h => h) (Or.inl ⟨by rfl, fun w hSw => by go_simp⟩) h0 ?_
        try simp only [List.getElem_toArray, List.getElem_cons_zero, List.getElem_cons_succ, Act.put, List.setIfInBounds_toArray, List.set_cons_zero, List.set_cons_succ]
        refine wpAnyH_take (i := 4) (v := .bool false) rfl (by kernel_rfl) (by kernel_rfl) (by kernel_rfl) (fun _ _ _ h => h) (Or.inl ⟨by rfl, fun w hSw => by go_simp⟩) h0 ?_
        try simp only [List.getElem_toArray, List.getElem_cons_zero, List.getElem_cons_succ, Act.put, List.setIfInBounds_toArray, List.set_cons_zero, List.set_cons_succ]
        refine wpAnyH_take (i := 5) (v := undef) rfl (by kernel_rfl) (by kernel_rfl) (by kernel_rfl) (fun _ _ _ h => h) (Or.inr ⟨by kernel_rfl, rfl⟩) h0 ?_
        try simp only [List.getElem_toArray, List.getElem_cons_zero, List.getElem_cons_succ, Act.put, List.setIfInBounds_toArray, List.set_cons_zero, List.set_cons_succ]
        refine wpAnyH_take (i := 6) (v := undef) rfl (by kernel_rfl) (by kernel_rfl) (by kernel_rfl) (fun _ _ _ h => h) (Or.inr ⟨by kernel_rfl, rfl⟩) h0 ?_
        try simp only [List.getElem_toArray, List.getElem_cons_zero, List.getElem_cons_succ, Act.put, List.setIfInBounds_toArray, List.set_cons_zero, List.set_cons_succ]
        refine wpAnyH_take (i := 7) (v := undef) rfl (by kernel_rfl) (by kernel_rfl) (by kernel_rfl) (fun _ _ _ h => h) (Or.inr ⟨by kernel_rfl, rfl⟩) h0 ?_
        try simp only [List.getElem_toArray, List.getElem_cons_zero, List.getElem_cons_succ, Act.put, List.setIfInBounds_toArray, List.set_cons_zero, List.set_cons_succ]
        refine wpAnyH_take (i := 8) (v := undef) rfl (by kernel_rfl) (by kernel_rfl) (by kernel_rfl) (fun _ _ _ h => h) (Or.inr ⟨by kernel_rfl, rfl⟩) h0 ?_
        try simp only [List.getElem_toArray, List.getElem_cons_zero, List.getElem_cons_succ, Act.put, List.setIfInBounds_toArray, List.set_cons_zero, List.set_cons_succ]
        refine wpAnyH_take (i := 9) (v := undef) rfl (by kernel_rfl) (by kernel_rfl) (by kernel_rfl) (fun _ _ _ h => h) (Or.inr ⟨by kernel_rfl, rfl⟩) h0 ?_
        try simp only [List.getElem_toArray, List.getElem_cons_zero, List.getElem_cons_succ, Act.put, List.setIfInBounds_toArray, List.set_cons_zero, List.set_cons_succ]
        refine wpAnyH_take (i := 10) (v := undef) rfl (by kernel_rfl) (by kernel_rfl) (by kernel_rfl) (fun _ _ _ h => h) (Or.inr ⟨by kernel_rfl, rfl⟩) h0 ?_
        try simp only [List.getElem_toArray, List.getElem_cons_zero, List.getElem_cons_succ, Act.put, List.setIfInBounds_toArray, List.set_cons_zero, List.set_cons_succ]
        refine wpAnyH_take (i := 11) (v := undef) rfl (by kernel_rfl) (by kernel_rfl) (by kernel_rfl) (fun _ _ _ h => h) (Or.inr ⟨by kernel_rfl, rfl⟩) h0 ?_
        try simp only [List.getElem_toArray, List.getElem_cons_zero, List.getElem_cons_succ, Act.put, List.setIfInBounds_toArray, List.set_cons_zero, List.set_cons_succ]
        refine wpAnyH_take (i := 12) (v := undef) rfl (by kernel_rfl) (by kernel_rfl) (by kernel_rfl) (fun _ _ _ h => h) (Or.inr ⟨by kernel_rfl, rfl⟩) h0 ?_
        try simp only [List.getElem_toArray, List.getElem_cons_zero, List.getElem_cons_succ, Act.put, List.setIfInBounds_toArray, List.set_cons_zero, List.set_cons_succ]
        refine wpAnyH_take (i := 13) (v := undef) rfl (by kernel_rfl) (by kernel_rfl) (by kernel_rfl) (fun _ _ _ h => h) (Or.inr ⟨by kernel_rfl, rfl⟩) h0 ?_
        try simp only [List.getElem_toArray, List.getElem_cons_zero, List.getElem_cons_succ, Act.put, List.setIfInBounds_toArray, List.set_cons_zero, List.set_cons_succ]
        refine wpAnyH_take (i := 14) (v := undef) rfl (by kernel_rfl) (by kernel_rfl) (by kernel_rfl) (fun _ _ _ h => h) (Or.inr ⟨by kernel_rfl, rfl⟩) h0 ?_
        try simp only [List.getElem_toArray, List.getElem_cons_zero, List.getElem_cons_succ, Act.put, List.setIfInBounds_toArray, List.set_cons_zero, List.set_cons_succ]
        refine wpAnyH_take (i := 15) (v := undef) rfl (by kernel_rfl) (by kernel_rfl) (by kernel_rfl) (fun _ _ _ h => h) (Or.inr ⟨by kernel_rfl, rfl⟩) h0 ?_
        try simp only [List.getElem_toArray, List.getElem_cons_zero, List.getElem_cons_succ, Act.put, List.setIfInBounds_toArray, List.set_cons_zero, List.set_cons_succ]
        refine wpAnyH_take (i := 16) (v := .bool false) rfl (by kernel_rfl) (by kernel_rfl) (by kernel_rfl) (fun _ _ _ h => h) (Or.inl ⟨by rfl, fun w hSw => by go_simp⟩) h0 ?_
        try simp only [List.getElem_toArray, List.getElem_cons_zero, List.getElem_cons_succ, Act.put, List.setIfInBounds_toArray, List.set_cons_zero, List.set_cons_succ]
        refine wpAnyH_take (i := 17) (v := .bool false) rfl (by kernel_rfl) (by kernel_rfl) (by kernel_rfl) (fun _ _ _ h => h) (Or.inl ⟨by rfl, fun w hSw => by go_simp⟩) h0 ?_
        try simp only [List.getElem_toArray, List.getElem_cons_zero, List.getElem_cons_succ, Act.put, List.setIfInBounds_toArray, List.set_cons_zero, List.set_cons_succ]
        refine wpAnyH_done (by kernel_rfl) ?_ _
        have HKF := hide (HP.out.trans h0 (by simp))
        clear h0 hrq
        go_wp2
        go_roundw
        case rel => exact ⟨0 + 1, by omega, by go_num, HKF⟩
        case measure => simp [intOf]; omega
      · obtain ⟨k1, hk1⟩ : ∃ k1, k = k1 + 1 := ⟨k - 1, by omega⟩
        have hk1l : k1 < (canon rr.2.1.L).length := by omega
        obtain ⟨g', off', hao', hrp⟩ := ((HL4.out.kept HP.out (fun _ _ => by simp)).ids.1).1 k1 hk1l
        cases hao'
        have hp : ((canon rr.2.1.L).getD k1 []).length = 32 := HL4.out.2 _ (gmem9 hk1l)
        obtain ⟨p, hpe⟩ : ∃ p, (canon rr.2.1.L).getD k1 [] = p := ⟨_, rfl⟩
        have hup : compareBytes p q < 0 := by
          have h1 := up_canon rr.2.1.L
          rw [← hpe, ← HQE.out]
          have h2 := List.pairwise_iff_getElem.1 h1 k1 k hk1l hkl (by omega)
          rw [List.getD_eq_getElem?_getD, List.getElem?_eq_getElem hk1l, List.getD_eq_getElem?_getD, List.getElem?_eq_getElem hkl]
          exact h2
        rw [hpe] at hrp hp
        have hpl := idl p hp
        have hcmp := fun W => rcmp9_ok p q hp hq W
        obtain ⟨cc, hcc⟩ : ∃ cc, compareBytes p q = cc := ⟨_, rfl⟩
        rw [hcc] at hcmp hup
        have hge : ¬ (0 : Int) ≤ cc := by omega
        have hgt0 : (0 : Int) < (k : Int) := by omega
        have hgtN : 0 < k := by omega
        have hk1m : k1 < m := by omega
        have hk1n : ¬ m ≤ k1 := by omega
        have hkz : IntKind.i64.wrap ((k : Int) - 1) = (k1 : Int) := by
          rw [show ((k : Int) - 1) = (k1 : Int) by omega]
          exact wrap_small9 k1 (by omega)
        clear hcc hpe hk1l hkl hk0 hk1
        as_aux_lemma =>
        refine wp_region_held_drew (S := fun w' => Kept [] wr w') (by kernel_rfl) ((Kept.refl [] wr).drew) (fun h0 => ?_)
        generalize World.drew wr = v0 at h0  ⊢
        refine wpAnyH_take (i := 0) (v := .bool false) rfl (by kernel_rfl) (by kernel_rfl) (by kernel_rfl) (fun _ _ _ h => h) (Or.inl ⟨by rfl, fun w hSw => by go_simp⟩) h0 ?_
        try simp only [List.getElem_toArray, List.getElem_cons_zero, List.getElem_cons_succ, Act.put, List.setIfInBounds_toArray, List.set_cons_zero, List.set_cons_succ]
        refine wpAnyH_take (i := 1) (v := .bool false) rfl (by kernel_rfl) (by kernel_rfl) (by kernel_rfl) (fun _ _ _ h => h) (Or.inl ⟨by rfl, fun w hSw => by go_simp⟩) h0 ?_
        try simp only [List.getElem_toArray, List.getElem_cons_zero, List.getElem_cons_succ, Act.put, List.setIfInBounds_toArray, List.set_cons_zero, List.set_cons_succ]
        refine wpAnyH_take (i := 2) (v := .int .i64 k) rfl (by kernel_rfl) (by kernel_rfl) (by kernel_rfl) (fun _ _ _ h => h) (Or.inl ⟨by rfl, fun w hSw => by go_simp⟩) h0 ?_
        try simp only [List.getElem_toArray, List.getElem_cons_zero, List.getElem_cons_succ, Act.put, List.setIfInBounds_toArray, List.set_cons_zero, List.set_cons_succ]
        refine wpAnyH_take (i := 3) (v := .bool true) rfl (by kernel_rfl) (by kernel_rfl) (by kernel_rfl) (fun _ _ _ h => h) (Or.inl ⟨by rfl, fun w hSw => by go_simp⟩) h0 ?_
        try simp only [List.getElem_toArray, List.getElem_cons_zero, List.getElem_cons_succ, Act.put, List.setIfInBounds_toArray, List.set_cons_zero, List.set_cons_succ]
        refine wpAnyH_take (i := 4) (v := .bool true) rfl (by kernel_rfl) (by kernel_rfl) (by kernel_rfl) (fun _ _ _ h => h) (Or.inl ⟨by rfl, fun w hSw => by go_simp⟩) h0 ?_
        try simp only [List.getElem_toArray, List.getElem_cons_zero, List.getElem_cons_succ, Act.put, List.setIfInBounds_toArray, List.set_cons_zero, List.set_cons_succ]
        refine wpAnyH_take (i := 5) (v := .slice (some ⟨g, off, none⟩) m c4) rfl (by kernel_rfl) (by kernel_rfl) (by kernel_rfl) (fun _ _ _ h => h) (Or.inl ⟨by rfl, fun w hSw => by go_simp⟩) h0 ?_
        try simp only [List.getElem_toArray, List.getElem_cons_zero, List.getElem_cons_succ, Act.put, List.setIfInBounds_toArray, List.set_cons_zero, List.set_cons_succ]
        refine wpAnyH_take (i := 6) (v := .int .i64 k) rfl (by kernel_rfl) (by kernel_rfl) (by kernel_rfl) (fun _ _ _ h => h) (Or.inl ⟨by rfl, fun w hSw => by go_simp⟩) h0 ?_
        try simp only [List.getElem_toArray, List.getElem_cons_zero, List.getElem_cons_succ, Act.put, List.setIfInBounds_toArray, List.set_cons_zero, List.set_cons_succ]
        refine wpAnyH_take (i := 7) (v := .int .i64 k1) rfl (by kernel_rfl) (by kernel_rfl) (by kernel_rfl) (fun _ _ _ h => h) (Or.inl ⟨by rfl, fun w hSw => by go_simp⟩) h0 ?_
        try simp only [List.getElem_toArray, List.getElem_cons_zero, List.getElem_cons_succ, Act.put, List.setIfInBounds_toArray, List.set_cons_zero, List.set_cons_succ]
        refine wpAnyH_take (i := 8) (v := .pointer (some ⟨g, off + k1 * 32, none⟩)) rfl (by kernel_rfl) (by kernel_rfl) (by kernel_rfl) (fun _ _ _ h => h) (Or.inl ⟨by rfl, fun w hSw => by go_simp⟩) h0 ?_
        try simp only [List.getElem_toArray, List.getElem_cons_zero, List.getElem_cons_succ, Act.put, List.setIfInBounds_toArray, List.set_cons_zero, List.set_cons_succ]
        refine wpAnyH_take (i := 9) (v := .agg (bys p).toArray) rfl (by kernel_rfl) (by kernel_rfl) (by kernel_rfl) (fun _ _ _ h => h) (yieldsIf_load_mid (by rfl) _ _ rfl g (off + k1 * 32) rfl (bys p) _ (fun W h => fun jj u hu => Kept.cellOf h (hrp jj u hu) (by simp)) Tryz.underlying36 rfl hpl) h0 ?_
        try simp only [List.getElem_toArray, List.getElem_cons_zero, List.getElem_cons_succ, Act.put, List.setIfInBounds_toArray, List.set_cons_zero, List.set_cons_succ]
        refine wpAnyH_take (i := 10) (v := .slice (some ⟨g, off, none⟩) m c4) rfl (by kernel_rfl) (by kernel_rfl) (by kernel_rfl) (fun _ _ _ h => h) (Or.inl ⟨by rfl, fun w hSw => by go_simp⟩) h0 ?_
        try simp only [List.getElem_toArray, List.getElem_cons_zero, List.getElem_cons_succ, Act.put, List.setIfInBounds_toArray, List.set_cons_zero, List.set_cons_succ]
        refine wpAnyH_take (i := 11) (v := .int .i64 k) rfl (by kernel_rfl) (by kernel_rfl) (by kernel_rfl) (fun _ _ _ h => h) (Or.inl ⟨by rfl, fun w hSw => by go_simp⟩) h0 ?_
        try simp only [List.getElem_toArray, List.getElem_cons_zero, List.getElem_cons_succ, Act.put, List.setIfInBounds_toArray, List.set_cons_zero, List.set_cons_succ]
        refine wpAnyH_take (i := 12) (v := .pointer (some ⟨g, off + k * 32, none⟩)) rfl (by kernel_rfl) (by kernel_rfl) (by kernel_rfl) (fun _ _ _ h => h) (Or.inl ⟨by rfl, fun w hSw => by go_simp⟩) h0 ?_
        try simp only [List.getElem_toArray, List.getElem_cons_zero, List.getElem_cons_succ, Act.put, List.setIfInBounds_toArray, List.set_cons_zero, List.set_cons_succ]
        refine wpAnyH_take (i := 13) (v := .agg (bys q).toArray) rfl (by kernel_rfl) (by kernel_rfl) (by kernel_rfl) (fun _ _ _ h => h) (yieldsIf_load_mid (by rfl) _ _ rfl g (off + k * 32) rfl (bys q) _ (fun W h => fun jj u hu => Kept.cellOf h (hrq jj u hu) (by simp)) Tryz.underlying36 rfl hql) h0 ?_
        try simp only [List.getElem_toArray, List.getElem_cons_zero, List.getElem_cons_succ, Act.put, List.setIfInBounds_toArray, List.set_cons_zero, List.set_cons_succ]
        refine wpAnyH_ready (rs := [14]) (by kernel_rfl) (by simp) (AllReadyH.cons (i := 14) rfl (fun K hK => ?_) AllReadyH.nil)
        rw [if_pos (by rfl)]
        go_simp
        refine (hcmp v0).mono ?_
        rintro e v1 ⟨rfl, hq9⟩
        refine hK.out _ _ (h0.trans hq9 (by simp)) (fun h1 => ?_)
        clear hK K
        try simp only [List.getElem_toArray, List.getElem_cons_zero, List.getElem_cons_succ, Act.put, List.setIfInBounds_toArray, List.set_cons_zero, List.set_cons_succ]
        refine wpAnyH_take (i := 15) (v := .bool false) rfl (by kernel_rfl) (by kernel_rfl) (by kernel_rfl) (fun _ _ _ h => h) (Or.inl ⟨by rfl, fun w hSw => by go_simp⟩) h1 ?_
        try simp only [List.getElem_toArray, List.getElem_cons_zero, List.getElem_cons_succ, Act.put, List.setIfInBounds_toArray, List.set_cons_zero, List.set_cons_succ]
        refine wpAnyH_take (i := 16) (v := .bool false) rfl (by kernel_rfl) (by kernel_rfl) (by kernel_rfl) (fun _ _ _ h => h) (Or.inl ⟨by rfl, fun w hSw => by go_simp⟩) h1 ?_
        try simp only [List.getElem_toArray, List.getElem_cons_zero, List.getElem_cons_succ, Act.put, List.setIfInBounds_toArray, List.set_cons_zero, List.set_cons_succ]
        refine wpAnyH_take (i := 17) (v := .bool false) rfl (by kernel_rfl) (by kernel_rfl) (by kernel_rfl) (fun _ _ _ h => h) (Or.inl ⟨by rfl, fun w hSw => by go_simp⟩) h1 ?_
        try simp only [List.getElem_toArray, List.getElem_cons_zero, List.getElem_cons_succ, Act.put, List.setIfInBounds_toArray, List.set_cons_zero, List.set_cons_succ]
        refine wpAnyH_done (by kernel_rfl) ?_ _
        have HKF := hide (HP.out.trans h1 (by simp))
        clear h0 h1 hrq hrp hcmp hq9
        go_wp2
        go_roundw
        case rel => exact ⟨k + 1, by omega, by go_num, HKF⟩
        case measure => simp [intOf]; omega
    · obtain rfl : k = m := by omega
      have hlt1 : ¬ (k : Int) < (k : Int) := by omega
      have HE9 := hide (HE.out.kept HP.out)
      have HG9 := hide (HG4.out.kept HP.out)
      have HL9 := hide (HL4.out.kept HP.out (fun _ _ => by simp))
      have HK9 := hide (HK4.out.trans HP.out (by simp))
      have hcd := code9_ok HG9.out HE9.out
      clear HP
      rcases HE9.out with ⟨hp, rfl, _⟩ | ⟨cd, i, eb, hp, _, rfl, hf, _, hil⟩
      · rw [hp] at hcd
        have hk0 : k = 0 := by
          rw [← HM.out, (picks_none.1 hp).2.2]
          rfl
        subst hk0
        clear hp
        go_wp2_with (go_at_call 12; refine hcd.mono ?_; rintro e w9 ⟨rfl, hk9⟩; have HKF := hide (HK9.out.trans hk9 (by simp)); clear hcd hk9; unfold codeOf)
        go_ret
        exact ⟨rfl, HKF.out⟩
      · rw [hp] at hcd
        have hcd : Calls Tryz.prog 12 #[faultV eb] wr fun e w' => e = .returned (.int .i64 cd) ∧ Kept [] wr w' := hcd
        rcases picks_cases hp with (rfl | rfl) | ⟨rfl, hL, hie⟩
        · clear hp hf
          unfold faultV at *
          go_wp2_with (go_at_call 12; refine hcd.mono ?_; rintro e w9 ⟨rfl, hk9⟩; have HKF := hide (HK9.out.trans hk9 (by simp)); clear hcd hk9)
          go_ret
          exact ⟨rfl, HKF.out⟩
        · clear hp hf
          unfold faultV at *
          go_wp2_with (go_at_call 12; refine hcd.mono ?_; rintro e w9 ⟨rfl, hk9⟩; have HKF := hide (HK9.out.trans hk9 (by simp)); clear hcd hk9)
          go_ret
          exact ⟨rfl, HKF.out⟩
        · have hk0 : 0 < k := by rw [← HM.out]; exact List.length_pos_iff.2 (canon_ne hL)
          have hk01 : (0 : Int) < (k : Int) := by omega
          have hkl : 0 < (canon rr.2.1.L).length := by rw [HM.out]; exact hk0
          obtain ⟨g, hao⟩ := HL9.out.at9 hk0
          subst hao
          obtain ⟨g', off, hao, hrq⟩ := HL9.out.ids.1.1 0 hkl
          cases hao
          rw [← hie, show 0 + 0 * 32 = 0 from rfl] at hrq
          have HRQ := hide hrq
          have hidl := idl i hil
          have HF := hide hf
          clear hp hf hie hL hkl hrq
          unfold faultV at *
          go_wp2_with (first
            | (go_at_call 12; refine hcd.mono ?_; rintro e w9 ⟨rfl, hk9⟩; have hrq : w9.rangeAt g 0 (bys i) := fun j u hu => hk9.cellOf (HRQ.out j u hu) (by simp); have hrf := refused9_ok eb opNeed i 102 w9 (HG9.out.kept hk9) (HF.out.kept hk9) hil (by decide); rw [show (⟨opNeed.toArray⟩ : ByteArray) = ⟨#[114, 101, 97, 99, 104, 46, 110, 101, 101, 100]⟩ from rfl] at hrf; have HKF := hide (HK9.out.trans hk9 (by simp)); clear hcd hk9)
            | refine wpList_load_midw9 36 (.tmp 81) rfl g 0 rfl (bys i) _ hrq Tryz.underlying36 rfl hidl (by kernel_rfl) ?_
            | (go_at_call 13; refine hrf.mono ?_; rintro e w9 ⟨rfl, hk9⟩; have HKG := hide (HKF.out.trans hk9 (by simp)); clear hrf hk9))
          go_ret
          exact ⟨rfl, HKG.out⟩
end Go.Proofs.YtngaimahhgmciabGreatDoor
