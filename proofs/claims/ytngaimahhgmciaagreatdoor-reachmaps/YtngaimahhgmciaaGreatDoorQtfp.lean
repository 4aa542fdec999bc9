/-
  Contracts: freightref9.Need, freightref9.Lacks. (Written by tools/qtf.py.)
-/
import Derived.Test.YtngaimahhgmciaaGreatDoorQtep
import Derived.Test.YtngaimahhgmciaaGreatDoorQlap
namespace Go.Proofs.YtngaimahhgmciaaGreatDoor
open Go.RowKit Go.Lib Go.Sort
set_option linter.unusedVariables false
set_option linter.unusedSimpArgs false

theorem ret_two_row {P : Program} {fn : Func} {p q r : Tmp} {ty : TypeId} {R : Ending → World → Prop} {a : Act} {w : World} (h : fn.results = #[.tmp p, .tmp q, .cell r ty]) (hd : a.defers = []) (g : Nat) (t : TypeId) (cs : Array Value) (fr : Nat × Nat) (d : TypeDesc)
    (hp : a.tmps.getD r undef = .pointer (some ⟨g, 0, none⟩)) (hg : w.heap[g]? = some (.cells cs t fr)) (hu : P.underlying ty = some d) (hx : (match d with | .struct _ | .array _ _ => true | _ => false) = true) (hi : (P.info? ty).map (·.size) = some cs.size)
    (hR : R (.returned (.tuple #[a.tmps.getD p undef, a.tmps.getD q undef, .agg cs])) w) : bodyPost P fn R .ret a w := by
  refine bodyPost_ret (v := .tuple #[a.tmps.getD p undef, a.tmps.getD q undef, .agg cs]) ?_ hd hR
  have hp' : a.tmps[r]?.getD undef = .pointer (some ⟨g, 0, none⟩) := by simpa using hp
  simp [results, h, hp', asAddr, run_loadVar_row w g t ty cs fr d hg hu hx hi]
/-- Which of a walk's faults is told. -/
def pk9 (r : Option (List UInt8) × Rw × List (List UInt8)) : Option (Int × List UInt8) :=
  if r.2.1.bad ≠ [] then some (100, r.2.1.bad.getD 0 []) else if r.2.2 ≠ [] then some (101, r.2.2.getD 0 []) else if r.2.1.lacks ≠ [] then some (102, r.2.1.lacks.getD 0 []) else none
/-- What the document's Need answers. -/
def NdE9 (w : World) (B : Nat) (cf : List UInt8 → Int) (r : Option (List UInt8) × Rw × List (List UInt8)) (v : Value) (c : Int) (i : List UInt8) : Prop :=
  (∃ q, r.1 = some q ∧ v = .slice none 0 0 ∧ c = cf q ∧ i = q) ∨ (∃ cd q, r.1 = none ∧ pk9 r = some (cd, q) ∧ v = .slice none 0 0 ∧ c = cd ∧ i = q) ∨ (r.1 = none ∧ pk9 r = none ∧ OwnI w B v r.2.1.need ∧ c = 0 ∧ i = z32)
/-- What the document's Lacks answers. -/
def LkE9 (w : World) (B : Nat) (cf : List UInt8 → Int) (r : Option (List UInt8) × Rw × List (List UInt8)) (v : Value) (c : Int) (i : List UInt8) : Prop :=
  (∃ q, r.1 = some q ∧ v = .slice none 0 0 ∧ c = cf q ∧ i = q) ∨ (r.1 = none ∧ OwnI w B v r.2.1.lacks ∧ c = 0 ∧ i = z32)

set_option maxHeartbeats 6400000 in
set_option maxRecDepth 100000 in
theorem rneed9_ok {w : World} {si sd sc : Value} {I : List (List UInt8)} {D : List Value} {C : List Int} {f : List UInt8 → An} {cf : List UInt8 → Int} {U : List (List UInt8)} (hS : Sr9 w si sd sc I D C) (hF : Fnd9 w I D C f cf) (ra : Option Addr) (rn rc : Nat) (RL : List Rz) (hrl : RL.length = rn) (hR : Rss w ra RL) (hn : I.length ≤ 4611686018427387904)
    (hUR : ∀ q ∈ RL.map (·.root), q ∈ U) (hUE : ∀ i xs E, f i = .data xs → Tn.parse xs = some E → ∀ e ∈ E, e.id ∈ U) (hUl : (U.length + 2) * 32 ≤ 140737488355328) (hrm : rn ≤ 4611686018427387904) :
    Calls Tryz.prog 21 #[.agg #[si, sd, sc], .slice ra rn rc] w fun e w' => ∃ v c i, e = .returned (.tuple #[v, .int .i64 c, .agg (bys i).toArray]) ∧ Kept [] w w' ∧ i.length = 32 ∧ NdE9 w' w.heap.size cf (refW f (RL.map (·.root))) v c i := by
  obtain ⟨S, hSS⟩ : ∃ r, r = w.heap.size := ⟨_, rfl⟩
  obtain ⟨Z, hZ⟩ : ∃ r, r = w.heap.size + 1 := ⟨_, rfl⟩
  obtain ⟨w1, hw1⟩ : ∃ r, r = (w.alloc (.cells #[si, sd, sc] 39)).alloc (.cells zeroI 25) := ⟨_, rfl⟩
  have h1 := heap_alloc2_old w (.cells #[si, sd, sc] 39) (.cells zeroI 25)
  have h2 := heap_alloc2_new w (.cells #[si, sd, sc] 39) (.cells zeroI 25)
  have hk0 : Kept [] w w1 := by rw [hw1]; exact ((Kept.refl [] w).alloc _).alloc _
  have hs1 : w1.heap.size = w.heap.size + 2 := by rw [hw1]; show ((w.heap.push _).push _).size = _; simp
  rw [← hSS, ← hw1] at h1
  rw [← hZ, ← hw1] at h2
  have HZW : Hid (w.heap.size ≤ Z ∧ Z < w1.heap.size ∧ w.heap.size ≤ w1.heap.size) := hide ⟨by omega, by omega, by omega⟩
  have HZ1 : Hid (w1.heap[Z]? = some (.cells (bys z32).toArray 25 (0, 0))) := hide h2
  have hro := rounds9_ok (hS.kept hk0) (hF.kept hk0) ra rn rc RL hrl (hR.kept hk0 (fun _ _ _ => by simp)) hn hUR hUE hUl hrm
  obtain ⟨rr, hrr⟩ : ∃ r, refW f (RL.map (·.root)) = r := ⟨_, rfl⟩
  rw [hrr] at hro
  rw [hrr]
  clear hrr
  have HF0 := hide hF
  have HK0 := hide hk0
  have hial : (Tryz.prog.info? 39).map (·.size) = some [si, sd, sc].length := Tryz.infoSr9
  have hzi0 := Tryz.zeroId
  have hrowS : w1.rangeAt S 0 [si, sd, sc] := row_rangeK h1
  clear hS hF h1 h2 hk0 hs1 hrl hR hUR hUE hUl
  go_enter Tryz.func21, Tryz.ntmps21
  go_upto_region 1 with (fail)
  rw [← hZ, ← hSS, ← hw1]
  clear hSS hZ hw1 hzi0
  go_upto_region 2 with (first
    | refine wpList_load_mid rfl 39 (.tmp 2) rfl S 0 rfl [si, sd, sc] _ hrowS Tryz.underlying39 rfl hial ?_
    | (go_at_call 30; refine hro.mono ?_; rintro e w3 ⟨g, rfl, hR9, hk9⟩; have HR9 := hide hR9; have HK13 := hide hk9; have HK3 := hide (HK0.out.trans hk9 (by simp)); clear hro hR9 hk9))
  obtain ⟨va, vn, vb, vd, vl, dp, cd, ci, hw3, hro9⟩ := HR9.out
  have HW3 := hide hw3
  have HRO := hide hro9
  have HZ : Hid (w3.heap[Z]? = some (.cells (bys z32).toArray 25 (0, 0))) := hide ((HK13.out.block Z HZW.out.2.1 (by simp)).trans HZ1.out)
  clear hw3 hro9 HR9 HZ1 hrowS
  rcases HRO.out with ⟨hn1, rfl, rfl, rfl⟩ | ⟨q, hn1, hcd, hci, hfq⟩
  rotate_left
  · as_aux_lemma =>
    have hc0 : (cd != 0) = true := by have h := (HF0.out.fail q hfq).2.1; rw [hcd]; simpa using h
    have hq : q.length = 32 := by rw [← hci]; exact HW3.out.cil
    have hql := idl q hq
    have hsz : (bys q).toArray.size = 32 := by simp [bys_length, hq]
    have hrq : w3.rangeAt g 6 (bys q) := by rw [← hci]; exact HW3.out.cid
    have HC := hide (And.intro hn1 hcd)
    have c5 := HW3.out.cc
    clear hn1 hcd hci hfq
    go_upto_region 3 with (fail)
    have cC := HW3.out.cc
    refine wp_region_late (fun w' => Kept [] w3 w') (fun i => i == 10) (by kernel_rfl) ?_
    have h0 : Kept [] w3 w3.drew := (Kept.refl [] w3).drew
    generalize World.drew w3 = v0 at h0 ⊢
    refine wpAnyL_free (i := 0) (v := .pointer (some ⟨g, 0, none⟩)) rfl (by kernel_rfl) (by kernel_rfl) (by kernel_rfl) (fun _ _ _ h => h) (Or.inl ⟨by rfl, fun w _ => by go_simp⟩) ?_
    try simp only [List.getElem_toArray, List.getElem_cons_zero, List.getElem_cons_succ, Act.put, List.setIfInBounds_toArray, List.set_cons_zero, List.set_cons_succ]
    refine wpAnyL_free (i := 1) (v := .pointer (some ⟨g, 0, none⟩)) rfl (by kernel_rfl) (by kernel_rfl) (by kernel_rfl) (fun _ _ _ h => h) (Or.inl ⟨by rfl, fun w _ => by go_simp⟩) ?_
    try simp only [List.getElem_toArray, List.getElem_cons_zero, List.getElem_cons_succ, Act.put, List.setIfInBounds_toArray, List.set_cons_zero, List.set_cons_succ]
    refine wpAnyL_free (i := 2) (v := .pointer (some ⟨g, 5, none⟩)) rfl (by kernel_rfl) (by kernel_rfl) (by kernel_rfl) (fun _ _ _ h => h) (Or.inl ⟨by rfl, fun w _ => by go_simp⟩) ?_
    try simp only [List.getElem_toArray, List.getElem_cons_zero, List.getElem_cons_succ, Act.put, List.setIfInBounds_toArray, List.set_cons_zero, List.set_cons_succ]
    refine wpAnyL_take (i := 3) (v := .int .i64 cd) rfl (by kernel_rfl) (by kernel_rfl) (by kernel_rfl) (by kernel_rfl) (by kernel_rfl) (fun _ _ _ h => h) (Or.inl ⟨by rfl, fun w hSw => by have c := Kept.cellOf hSw cC (by simp); go_simp⟩) h0 ?_
    try simp only [List.getElem_toArray, List.getElem_cons_zero, List.getElem_cons_succ, Act.put, List.setIfInBounds_toArray, List.set_cons_zero, List.set_cons_succ]
    refine wpAnyL_free (i := 4) (v := .pointer (some ⟨g, 0, none⟩)) rfl (by kernel_rfl) (by kernel_rfl) (by kernel_rfl) (fun _ _ _ h => h) (Or.inl ⟨by rfl, fun w _ => by go_simp⟩) ?_
    try simp only [List.getElem_toArray, List.getElem_cons_zero, List.getElem_cons_succ, Act.put, List.setIfInBounds_toArray, List.set_cons_zero, List.set_cons_succ]
    refine wpAnyL_free (i := 5) (v := .pointer (some ⟨g, 0, none⟩)) rfl (by kernel_rfl) (by kernel_rfl) (by kernel_rfl) (fun _ _ _ h => h) (Or.inl ⟨by rfl, fun w _ => by go_simp⟩) ?_
    try simp only [List.getElem_toArray, List.getElem_cons_zero, List.getElem_cons_succ, Act.put, List.setIfInBounds_toArray, List.set_cons_zero, List.set_cons_succ]
    refine wpAnyL_free (i := 6) (v := .pointer (some ⟨g, 6, none⟩)) rfl (by kernel_rfl) (by kernel_rfl) (by kernel_rfl) (fun _ _ _ h => h) (Or.inl ⟨by rfl, fun w _ => by go_simp⟩) ?_
    try simp only [List.getElem_toArray, List.getElem_cons_zero, List.getElem_cons_succ, Act.put, List.setIfInBounds_toArray, List.set_cons_zero, List.set_cons_succ]
    refine wpAnyL_take (i := 7) (v := .agg (bys q).toArray) rfl (by kernel_rfl) (by kernel_rfl) (by kernel_rfl) (by kernel_rfl) (by kernel_rfl) (fun _ _ _ h => h) (yieldsIf_load_mid (by rfl) _ _ rfl g (6) rfl (bys q) _ (fun W h => fun jj u hu => Kept.cellOf h (hrq jj u hu) (by simp)) Tryz.underlying25 rfl hql) h0 ?_
    try simp only [List.getElem_toArray, List.getElem_cons_zero, List.getElem_cons_succ, Act.put, List.setIfInBounds_toArray, List.set_cons_zero, List.set_cons_succ]
    refine wpAnyL_free (i := 8) (v := .slice none 0 0) rfl (by kernel_rfl) (by kernel_rfl) (by kernel_rfl) (fun _ _ _ h => h) (Or.inl ⟨by rfl, fun w _ => by go_simp⟩) ?_
    try simp only [List.getElem_toArray, List.getElem_cons_zero, List.getElem_cons_succ, Act.put, List.setIfInBounds_toArray, List.set_cons_zero, List.set_cons_succ]
    refine wpAnyL_free (i := 9) (v := .int .i64 cd) rfl (by kernel_rfl) (by kernel_rfl) (by kernel_rfl) (fun _ _ _ h => h) (Or.inl ⟨by rfl, fun w _ => by go_simp⟩) ?_
    try simp only [List.getElem_toArray, List.getElem_cons_zero, List.getElem_cons_succ, Act.put, List.setIfInBounds_toArray, List.set_cons_zero, List.set_cons_succ]
    have hth : v0.there Z 0 32 := there_rowT ((h0.block Z (Array.getElem?_eq_some_iff.1 HZ.out).1 (by simp)).trans HZ.out) 0 32 (by simp [z32, bys_length])
    refine wpAnyL_one (i := 10) (by kernel_rfl) rfl (fun K' hK => ?_)
    rw [if_pos (by rfl)]
    refine wp_store_mid 25 (.tmp 6) (.tmp 24) rfl Z 0 (bys q).toArray rfl rfl (by rw [hsz]; exact hth) (by rw [List.size_toArray]; exact hql) (bys_allT q) ?_
    refine hK.out _ _ (fun _ h => by cases h) ?_
    clear hK K'
    try simp only [List.getElem_toArray, List.getElem_cons_zero, List.getElem_cons_succ, Act.put, List.setIfInBounds_toArray, List.set_cons_zero, List.set_cons_succ]
    refine wpAnyL_done (by kernel_rfl) ?_ _
    clear cC
    have hrowZ : v0.heap[Z]? = some (.cells (bys z32).toArray 25 (0, 0)) := (h0.block Z (Array.getElem?_eq_some_iff.1 HZ.out).1 (by simp)).trans HZ.out
    have hks : Kept [Z] v0 (v0.setCells Z 0 (bys q)) := kept_setCellsT (fun _ => by simp) _ _ _ (Kept.refl [Z] v0)
    have hnew : (v0.setCells Z 0 (bys q)).heap[Z]? = some (.cells (bys q).toArray 25 (0, 0)) := by
      rw [setCells_rowT _ _ _ _ _ _ hrowZ (by simp [z32, bys_length, hq]), setRow_heap _ _ _ _ _ _ hrowZ]
      simp [z32, bys_length, hq]
    have HKE : Hid (Kept [] w (v0.setCells Z 0 (bys q))) := hide ((HK3.out.trans h0 (by simp)).trans hks (fun j hj hlt => by have h9 := HZW.out; have : j = Z := (by simpa using hj); omega))
    clear hks hrowZ h0 hth hrq
    generalize v0.setCells Z 0 (bys q) = w9 at HKE hnew ⊢
    go_wp2
    refine ret_two_row rfl rfl Z 25 (bys q).toArray (0, 0) _ rfl hnew Tryz.underlying25 rfl (by rw [List.size_toArray]; exact hql) ?_
    exact ⟨_, _, q, rfl, HKE.out, hq, .inl ⟨q, HC.out.1, rfl, HC.out.2, rfl⟩⟩
  have HN1 := hide hn1
  have HW3 := HW3
  clear hn1
  obtain ⟨ab, cb, eb, _⟩ := own_shape HW3.out.b.1.1
  obtain ⟨nb, hnb⟩ : ∃ n, rr.2.1.bad.length = n := ⟨_, rfl⟩
  rw [hnb] at eb
  have HNb := hide hnb
  obtain ⟨ad, cd, ed, _⟩ := own_shape HW3.out.d.1.1
  obtain ⟨nd, hnd⟩ : ∃ n, rr.2.2.length = n := ⟨_, rfl⟩
  rw [hnd] at ed
  have HNd := hide hnd
  obtain ⟨al, cl, el, _⟩ := own_shape HW3.out.l.1.1
  obtain ⟨nl, hnl⟩ : ∃ n, rr.2.1.lacks.length = n := ⟨_, rfl⟩
  rw [hnl] at el
  have HNl := hide hnl
  clear hnb hnd hnl
  subst eb
  subst ed
  subst el
  have c5 := HW3.out.cc
  have c2 := HW3.out.cb
  have c3 := HW3.out.cdd
  have c4 := HW3.out.cl
  have c1 := HW3.out.cn
  by_cases hlp : 0 < nb
  · as_aux_lemma =>
    obtain ⟨gb, hao⟩ := OwnI.at9 (show OwnI w3 w1.heap.size (.slice ab nb cb) rr.2.1.bad from HW3.out.b.1) hlp
    subst hao
    have hlq : 0 < (rr.2.1.bad).length := by have h := HNb.out; omega
    obtain ⟨g2, off, hao, hrq⟩ := (show Ids w3 (some ⟨gb, 0, none⟩) rr.2.1.bad from HW3.out.b.1.ids.1).1 0 hlq
    cases hao
    have hq : ((rr.2.1.bad).getD 0 []).length = 32 := HW3.out.b.1.2 _ (gmem9 hlq)
    obtain ⟨q, hqe⟩ : ∃ q, (rr.2.1.bad).getD 0 [] = q := ⟨_, rfl⟩
    rw [hqe, show 0 + 0 * 32 = 0 from rfl] at hrq
    rw [hqe] at hq
    have HQE := hide hqe
    have hql := idl q hq
    have hsz : (bys q).toArray.size = 32 := by simp [bys_length, hq]
    have hlpi : (0 : Int) < (nb : Int) := by omega
    clear hqe hlq
    go_upto_region 5 with (fail)
    have cC := HW3.out.cb
    refine wp_region_late (fun w' => Kept [] w3 w') (fun i => i == 8) (by kernel_rfl) ?_
    have h0 : Kept [] w3 w3.drew := (Kept.refl [] w3).drew
    generalize World.drew w3 = v0 at h0 ⊢
    refine wpAnyL_free (i := 0) (v := .pointer (some ⟨g, 0, none⟩)) rfl (by kernel_rfl) (by kernel_rfl) (by kernel_rfl) (fun _ _ _ h => h) (Or.inl ⟨by rfl, fun w _ => by go_simp⟩) ?_
    try simp only [List.getElem_toArray, List.getElem_cons_zero, List.getElem_cons_succ, Act.put, List.setIfInBounds_toArray, List.set_cons_zero, List.set_cons_succ]
    refine wpAnyL_free (i := 1) (v := .pointer (some ⟨g, 0, none⟩)) rfl (by kernel_rfl) (by kernel_rfl) (by kernel_rfl) (fun _ _ _ h => h) (Or.inl ⟨by rfl, fun w _ => by go_simp⟩) ?_
    try simp only [List.getElem_toArray, List.getElem_cons_zero, List.getElem_cons_succ, Act.put, List.setIfInBounds_toArray, List.set_cons_zero, List.set_cons_succ]
    refine wpAnyL_free (i := 2) (v := .pointer (some ⟨g, 2, none⟩)) rfl (by kernel_rfl) (by kernel_rfl) (by kernel_rfl) (fun _ _ _ h => h) (Or.inl ⟨by rfl, fun w _ => by go_simp⟩) ?_
    try simp only [List.getElem_toArray, List.getElem_cons_zero, List.getElem_cons_succ, Act.put, List.setIfInBounds_toArray, List.set_cons_zero, List.set_cons_succ]
    refine wpAnyL_take (i := 3) (v := .slice (some ⟨gb, 0, none⟩) nb cb) rfl (by kernel_rfl) (by kernel_rfl) (by kernel_rfl) (by kernel_rfl) (by kernel_rfl) (fun _ _ _ h => h) (Or.inl ⟨by rfl, fun w hSw => by have c := Kept.cellOf hSw cC (by simp); go_simp⟩) h0 ?_
    try simp only [List.getElem_toArray, List.getElem_cons_zero, List.getElem_cons_succ, Act.put, List.setIfInBounds_toArray, List.set_cons_zero, List.set_cons_succ]
    refine wpAnyL_free (i := 4) (v := .pointer (some ⟨gb, 0, none⟩)) rfl (by kernel_rfl) (by kernel_rfl) (by kernel_rfl) (fun _ _ _ h => h) (Or.inl ⟨by rfl, fun w _ => by go_simp⟩) ?_
    try simp only [List.getElem_toArray, List.getElem_cons_zero, List.getElem_cons_succ, Act.put, List.setIfInBounds_toArray, List.set_cons_zero, List.set_cons_succ]
    refine wpAnyL_take (i := 5) (v := .agg (bys q).toArray) rfl (by kernel_rfl) (by kernel_rfl) (by kernel_rfl) (by kernel_rfl) (by kernel_rfl) (fun _ _ _ h => h) (yieldsIf_load_mid (by rfl) _ _ rfl gb (0) rfl (bys q) _ (fun W h => fun jj u hu => Kept.cellOf h (hrq jj u hu) (by simp)) Tryz.underlying25 rfl hql) h0 ?_
    try simp only [List.getElem_toArray, List.getElem_cons_zero, List.getElem_cons_succ, Act.put, List.setIfInBounds_toArray, List.set_cons_zero, List.set_cons_succ]
    refine wpAnyL_free (i := 6) (v := .slice none 0 0) rfl (by kernel_rfl) (by kernel_rfl) (by kernel_rfl) (fun _ _ _ h => h) (Or.inl ⟨by rfl, fun w _ => by go_simp⟩) ?_
    try simp only [List.getElem_toArray, List.getElem_cons_zero, List.getElem_cons_succ, Act.put, List.setIfInBounds_toArray, List.set_cons_zero, List.set_cons_succ]
    refine wpAnyL_free (i := 7) (v := .int .i64 100) rfl (by kernel_rfl) (by kernel_rfl) (by kernel_rfl) (fun _ _ _ h => h) (Or.inl ⟨by rfl, fun w _ => by go_simp⟩) ?_
    try simp only [List.getElem_toArray, List.getElem_cons_zero, List.getElem_cons_succ, Act.put, List.setIfInBounds_toArray, List.set_cons_zero, List.set_cons_succ]
    have hth : v0.there Z 0 32 := there_rowT ((h0.block Z (Array.getElem?_eq_some_iff.1 HZ.out).1 (by simp)).trans HZ.out) 0 32 (by simp [z32, bys_length])
    refine wpAnyL_one (i := 8) (by kernel_rfl) rfl (fun K' hK => ?_)
    rw [if_pos (by rfl)]
    refine wp_store_mid 25 (.tmp 6) (.tmp 37) rfl Z 0 (bys q).toArray rfl rfl (by rw [hsz]; exact hth) (by rw [List.size_toArray]; exact hql) (bys_allT q) ?_
    refine hK.out _ _ (fun _ h => by cases h) ?_
    clear hK K'
    try simp only [List.getElem_toArray, List.getElem_cons_zero, List.getElem_cons_succ, Act.put, List.setIfInBounds_toArray, List.set_cons_zero, List.set_cons_succ]
    refine wpAnyL_done (by kernel_rfl) ?_ _
    clear cC
    have hrowZ : v0.heap[Z]? = some (.cells (bys z32).toArray 25 (0, 0)) := (h0.block Z (Array.getElem?_eq_some_iff.1 HZ.out).1 (by simp)).trans HZ.out
    have hks : Kept [Z] v0 (v0.setCells Z 0 (bys q)) := kept_setCellsT (fun _ => by simp) _ _ _ (Kept.refl [Z] v0)
    have hnew : (v0.setCells Z 0 (bys q)).heap[Z]? = some (.cells (bys q).toArray 25 (0, 0)) := by
      rw [setCells_rowT _ _ _ _ _ _ hrowZ (by simp [z32, bys_length, hq]), setRow_heap _ _ _ _ _ _ hrowZ]
      simp [z32, bys_length, hq]
    have HKE : Hid (Kept [] w (v0.setCells Z 0 (bys q))) := hide ((HK3.out.trans h0 (by simp)).trans hks (fun j hj hlt => by have h9 := HZW.out; have : j = Z := (by simpa using hj); omega))
    clear hks hrowZ h0 hth hrq
    generalize v0.setCells Z 0 (bys q) = w9 at HKE hnew ⊢
    go_wp2
    refine ret_two_row rfl rfl Z 25 (bys q).toArray (0, 0) _ rfl hnew Tryz.underlying25 rfl (by rw [List.size_toArray]; exact hql) ?_
    exact ⟨_, _, q, rfl, HKE.out, hq, .inr (.inl ⟨100, q, HN1.out, by unfold pk9; rw [if_pos (by intro h; have := HNb.out; rw [h] at this; simp at this; omega), HQE.out], rfl, rfl, rfl⟩)⟩
  have hb0 : rr.2.1.bad = [] := List.eq_nil_of_length_eq_zero (by have := HNb.out; omega)
  have HB0 := hide hb0
  have hnb0 : ¬ (0 : Int) < (nb : Int) := by omega
  clear hlp hb0
  by_cases hlp : 0 < nd
  · as_aux_lemma =>
    obtain ⟨gb, hao⟩ := OwnI.at9 (show OwnI w3 w1.heap.size (.slice ad nd cd) rr.2.2 from HW3.out.d.1) hlp
    subst hao
    have hlq : 0 < (rr.2.2).length := by have h := HNd.out; omega
    obtain ⟨g2, off, hao, hrq⟩ := (show Ids w3 (some ⟨gb, 0, none⟩) rr.2.2 from HW3.out.d.1.ids.1).1 0 hlq
    cases hao
    have hq : ((rr.2.2).getD 0 []).length = 32 := HW3.out.d.1.2 _ (gmem9 hlq)
    obtain ⟨q, hqe⟩ : ∃ q, (rr.2.2).getD 0 [] = q := ⟨_, rfl⟩
    rw [hqe, show 0 + 0 * 32 = 0 from rfl] at hrq
    rw [hqe] at hq
    have HQE := hide hqe
    have hql := idl q hq
    have hsz : (bys q).toArray.size = 32 := by simp [bys_length, hq]
    have hlpi : (0 : Int) < (nd : Int) := by omega
    clear hqe hlq
    go_upto_region 7 with (fail)
    have cC := HW3.out.cdd
    refine wp_region_late (fun w' => Kept [] w3 w') (fun i => i == 8) (by kernel_rfl) ?_
    have h0 : Kept [] w3 w3.drew := (Kept.refl [] w3).drew
    generalize World.drew w3 = v0 at h0 ⊢
    refine wpAnyL_free (i := 0) (v := .pointer (some ⟨g, 0, none⟩)) rfl (by kernel_rfl) (by kernel_rfl) (by kernel_rfl) (fun _ _ _ h => h) (Or.inl ⟨by rfl, fun w _ => by go_simp⟩) ?_
    try simp only [List.getElem_toArray, List.getElem_cons_zero, List.getElem_cons_succ, Act.put, List.setIfInBounds_toArray, List.set_cons_zero, List.set_cons_succ]
    refine wpAnyL_free (i := 1) (v := .pointer (some ⟨g, 0, none⟩)) rfl (by kernel_rfl) (by kernel_rfl) (by kernel_rfl) (fun _ _ _ h => h) (Or.inl ⟨by rfl, fun w _ => by go_simp⟩) ?_
    try simp only [List.getElem_toArray, List.getElem_cons_zero, List.getElem_cons_succ, Act.put, List.setIfInBounds_toArray, List.set_cons_zero, List.set_cons_succ]
    refine wpAnyL_free (i := 2) (v := .pointer (some ⟨g, 3, none⟩)) rfl (by kernel_rfl) (by kernel_rfl) (by kernel_rfl) (fun _ _ _ h => h) (Or.inl ⟨by rfl, fun w _ => by go_simp⟩) ?_
    try simp only [List.getElem_toArray, List.getElem_cons_zero, List.getElem_cons_succ, Act.put, List.setIfInBounds_toArray, List.set_cons_zero, List.set_cons_succ]
    refine wpAnyL_take (i := 3) (v := .slice (some ⟨gb, 0, none⟩) nd cd) rfl (by kernel_rfl) (by kernel_rfl) (by kernel_rfl) (by kernel_rfl) (by kernel_rfl) (fun _ _ _ h => h) (Or.inl ⟨by rfl, fun w hSw => by have c := Kept.cellOf hSw cC (by simp); go_simp⟩) h0 ?_
    try simp only [List.getElem_toArray, List.getElem_cons_zero, List.getElem_cons_succ, Act.put, List.setIfInBounds_toArray, List.set_cons_zero, List.set_cons_succ]
    refine wpAnyL_free (i := 4) (v := .pointer (some ⟨gb, 0, none⟩)) rfl (by kernel_rfl) (by kernel_rfl) (by kernel_rfl) (fun _ _ _ h => h) (Or.inl ⟨by rfl, fun w _ => by go_simp⟩) ?_
    try simp only [List.getElem_toArray, List.getElem_cons_zero, List.getElem_cons_succ, Act.put, List.setIfInBounds_toArray, List.set_cons_zero, List.set_cons_succ]
    refine wpAnyL_take (i := 5) (v := .agg (bys q).toArray) rfl (by kernel_rfl) (by kernel_rfl) (by kernel_rfl) (by kernel_rfl) (by kernel_rfl) (fun _ _ _ h => h) (yieldsIf_load_mid (by rfl) _ _ rfl gb (0) rfl (bys q) _ (fun W h => fun jj u hu => Kept.cellOf h (hrq jj u hu) (by simp)) Tryz.underlying25 rfl hql) h0 ?_
    try simp only [List.getElem_toArray, List.getElem_cons_zero, List.getElem_cons_succ, Act.put, List.setIfInBounds_toArray, List.set_cons_zero, List.set_cons_succ]
    refine wpAnyL_free (i := 6) (v := .slice none 0 0) rfl (by kernel_rfl) (by kernel_rfl) (by kernel_rfl) (fun _ _ _ h => h) (Or.inl ⟨by rfl, fun w _ => by go_simp⟩) ?_
    try simp only [List.getElem_toArray, List.getElem_cons_zero, List.getElem_cons_succ, Act.put, List.setIfInBounds_toArray, List.set_cons_zero, List.set_cons_succ]
    refine wpAnyL_free (i := 7) (v := .int .i64 101) rfl (by kernel_rfl) (by kernel_rfl) (by kernel_rfl) (fun _ _ _ h => h) (Or.inl ⟨by rfl, fun w _ => by go_simp⟩) ?_
    try simp only [List.getElem_toArray, List.getElem_cons_zero, List.getElem_cons_succ, Act.put, List.setIfInBounds_toArray, List.set_cons_zero, List.set_cons_succ]
    have hth : v0.there Z 0 32 := there_rowT ((h0.block Z (Array.getElem?_eq_some_iff.1 HZ.out).1 (by simp)).trans HZ.out) 0 32 (by simp [z32, bys_length])
    refine wpAnyL_one (i := 8) (by kernel_rfl) rfl (fun K' hK => ?_)
    rw [if_pos (by rfl)]
    refine wp_store_mid 25 (.tmp 6) (.tmp 50) rfl Z 0 (bys q).toArray rfl rfl (by rw [hsz]; exact hth) (by rw [List.size_toArray]; exact hql) (bys_allT q) ?_
    refine hK.out _ _ (fun _ h => by cases h) ?_
    clear hK K'
    try simp only [List.getElem_toArray, List.getElem_cons_zero, List.getElem_cons_succ, Act.put, List.setIfInBounds_toArray, List.set_cons_zero, List.set_cons_succ]
    refine wpAnyL_done (by kernel_rfl) ?_ _
    clear cC
    have hrowZ : v0.heap[Z]? = some (.cells (bys z32).toArray 25 (0, 0)) := (h0.block Z (Array.getElem?_eq_some_iff.1 HZ.out).1 (by simp)).trans HZ.out
    have hks : Kept [Z] v0 (v0.setCells Z 0 (bys q)) := kept_setCellsT (fun _ => by simp) _ _ _ (Kept.refl [Z] v0)
    have hnew : (v0.setCells Z 0 (bys q)).heap[Z]? = some (.cells (bys q).toArray 25 (0, 0)) := by
      rw [setCells_rowT _ _ _ _ _ _ hrowZ (by simp [z32, bys_length, hq]), setRow_heap _ _ _ _ _ _ hrowZ]
      simp [z32, bys_length, hq]
    have HKE : Hid (Kept [] w (v0.setCells Z 0 (bys q))) := hide ((HK3.out.trans h0 (by simp)).trans hks (fun j hj hlt => by have h9 := HZW.out; have : j = Z := (by simpa using hj); omega))
    clear hks hrowZ h0 hth hrq
    generalize v0.setCells Z 0 (bys q) = w9 at HKE hnew ⊢
    go_wp2
    refine ret_two_row rfl rfl Z 25 (bys q).toArray (0, 0) _ rfl hnew Tryz.underlying25 rfl (by rw [List.size_toArray]; exact hql) ?_
    exact ⟨_, _, q, rfl, HKE.out, hq, .inr (.inl ⟨101, q, HN1.out, by unfold pk9; rw [if_neg (by rw [HB0.out]; simp), if_pos (by intro h; have := HNd.out; rw [h] at this; simp at this; omega), HQE.out], rfl, rfl, rfl⟩)⟩
  have hd0 : rr.2.2 = [] := List.eq_nil_of_length_eq_zero (by have := HNd.out; omega)
  have HD0 := hide hd0
  have hnd0 : ¬ (0 : Int) < (nd : Int) := by omega
  clear hlp hd0
  by_cases hlp : 0 < nl
  · as_aux_lemma =>
    obtain ⟨gb, hao⟩ := OwnI.at9 (show OwnI w3 w1.heap.size (.slice al nl cl) rr.2.1.lacks from HW3.out.l.1) hlp
    subst hao
    have hlq : 0 < (rr.2.1.lacks).length := by have h := HNl.out; omega
    obtain ⟨g2, off, hao, hrq⟩ := (show Ids w3 (some ⟨gb, 0, none⟩) rr.2.1.lacks from HW3.out.l.1.ids.1).1 0 hlq
    cases hao
    have hq : ((rr.2.1.lacks).getD 0 []).length = 32 := HW3.out.l.1.2 _ (gmem9 hlq)
    obtain ⟨q, hqe⟩ : ∃ q, (rr.2.1.lacks).getD 0 [] = q := ⟨_, rfl⟩
    rw [hqe, show 0 + 0 * 32 = 0 from rfl] at hrq
    rw [hqe] at hq
    have HQE := hide hqe
    have hql := idl q hq
    have hsz : (bys q).toArray.size = 32 := by simp [bys_length, hq]
    have hlpi : (0 : Int) < (nl : Int) := by omega
    clear hqe hlq
    go_upto_region 9 with (fail)
    have cC := HW3.out.cl
    refine wp_region_late (fun w' => Kept [] w3 w') (fun i => i == 8) (by kernel_rfl) ?_
    have h0 : Kept [] w3 w3.drew := (Kept.refl [] w3).drew
    generalize World.drew w3 = v0 at h0 ⊢
    refine wpAnyL_free (i := 0) (v := .pointer (some ⟨g, 0, none⟩)) rfl (by kernel_rfl) (by kernel_rfl) (by kernel_rfl) (fun _ _ _ h => h) (Or.inl ⟨by rfl, fun w _ => by go_simp⟩) ?_
    try simp only [List.getElem_toArray, List.getElem_cons_zero, List.getElem_cons_succ, Act.put, List.setIfInBounds_toArray, List.set_cons_zero, List.set_cons_succ]
    refine wpAnyL_free (i := 1) (v := .pointer (some ⟨g, 0, none⟩)) rfl (by kernel_rfl) (by kernel_rfl) (by kernel_rfl) (fun _ _ _ h => h) (Or.inl ⟨by rfl, fun w _ => by go_simp⟩) ?_
    try simp only [List.getElem_toArray, List.getElem_cons_zero, List.getElem_cons_succ, Act.put, List.setIfInBounds_toArray, List.set_cons_zero, List.set_cons_succ]
    refine wpAnyL_free (i := 2) (v := .pointer (some ⟨g, 4, none⟩)) rfl (by kernel_rfl) (by kernel_rfl) (by kernel_rfl) (fun _ _ _ h => h) (Or.inl ⟨by rfl, fun w _ => by go_simp⟩) ?_
    try simp only [List.getElem_toArray, List.getElem_cons_zero, List.getElem_cons_succ, Act.put, List.setIfInBounds_toArray, List.set_cons_zero, List.set_cons_succ]
    refine wpAnyL_take (i := 3) (v := .slice (some ⟨gb, 0, none⟩) nl cl) rfl (by kernel_rfl) (by kernel_rfl) (by kernel_rfl) (by kernel_rfl) (by kernel_rfl) (fun _ _ _ h => h) (Or.inl ⟨by rfl, fun w hSw => by have c := Kept.cellOf hSw cC (by simp); go_simp⟩) h0 ?_
    try simp only [List.getElem_toArray, List.getElem_cons_zero, List.getElem_cons_succ, Act.put, List.setIfInBounds_toArray, List.set_cons_zero, List.set_cons_succ]
    refine wpAnyL_free (i := 4) (v := .pointer (some ⟨gb, 0, none⟩)) rfl (by kernel_rfl) (by kernel_rfl) (by kernel_rfl) (fun _ _ _ h => h) (Or.inl ⟨by rfl, fun w _ => by go_simp⟩) ?_
    try simp only [List.getElem_toArray, List.getElem_cons_zero, List.getElem_cons_succ, Act.put, List.setIfInBounds_toArray, List.set_cons_zero, List.set_cons_succ]
    refine wpAnyL_take (i := 5) (v := .agg (bys q).toArray) rfl (by kernel_rfl) (by kernel_rfl) (by kernel_rfl) (by kernel_rfl) (by kernel_rfl) (fun _ _ _ h => h) (yieldsIf_load_mid (by rfl) _ _ rfl gb (0) rfl (bys q) _ (fun W h => fun jj u hu => Kept.cellOf h (hrq jj u hu) (by simp)) Tryz.underlying25 rfl hql) h0 ?_
    try simp only [List.getElem_toArray, List.getElem_cons_zero, List.getElem_cons_succ, Act.put, List.setIfInBounds_toArray, List.set_cons_zero, List.set_cons_succ]
    refine wpAnyL_free (i := 6) (v := .slice none 0 0) rfl (by kernel_rfl) (by kernel_rfl) (by kernel_rfl) (fun _ _ _ h => h) (Or.inl ⟨by rfl, fun w _ => by go_simp⟩) ?_
    try simp only [List.getElem_toArray, List.getElem_cons_zero, List.getElem_cons_succ, Act.put, List.setIfInBounds_toArray, List.set_cons_zero, List.set_cons_succ]
    refine wpAnyL_free (i := 7) (v := .int .i64 102) rfl (by kernel_rfl) (by kernel_rfl) (by kernel_rfl) (fun _ _ _ h => h) (Or.inl ⟨by rfl, fun w _ => by go_simp⟩) ?_
    try simp only [List.getElem_toArray, List.getElem_cons_zero, List.getElem_cons_succ, Act.put, List.setIfInBounds_toArray, List.set_cons_zero, List.set_cons_succ]
    have hth : v0.there Z 0 32 := there_rowT ((h0.block Z (Array.getElem?_eq_some_iff.1 HZ.out).1 (by simp)).trans HZ.out) 0 32 (by simp [z32, bys_length])
    refine wpAnyL_one (i := 8) (by kernel_rfl) rfl (fun K' hK => ?_)
    rw [if_pos (by rfl)]
    refine wp_store_mid 25 (.tmp 6) (.tmp 63) rfl Z 0 (bys q).toArray rfl rfl (by rw [hsz]; exact hth) (by rw [List.size_toArray]; exact hql) (bys_allT q) ?_
    refine hK.out _ _ (fun _ h => by cases h) ?_
    clear hK K'
    try simp only [List.getElem_toArray, List.getElem_cons_zero, List.getElem_cons_succ, Act.put, List.setIfInBounds_toArray, List.set_cons_zero, List.set_cons_succ]
    refine wpAnyL_done (by kernel_rfl) ?_ _
    clear cC
    have hrowZ : v0.heap[Z]? = some (.cells (bys z32).toArray 25 (0, 0)) := (h0.block Z (Array.getElem?_eq_some_iff.1 HZ.out).1 (by simp)).trans HZ.out
    have hks : Kept [Z] v0 (v0.setCells Z 0 (bys q)) := kept_setCellsT (fun _ => by simp) _ _ _ (Kept.refl [Z] v0)
    have hnew : (v0.setCells Z 0 (bys q)).heap[Z]? = some (.cells (bys q).toArray 25 (0, 0)) := by
      rw [setCells_rowT _ _ _ _ _ _ hrowZ (by simp [z32, bys_length, hq]), setRow_heap _ _ _ _ _ _ hrowZ]
      simp [z32, bys_length, hq]
    have HKE : Hid (Kept [] w (v0.setCells Z 0 (bys q))) := hide ((HK3.out.trans h0 (by simp)).trans hks (fun j hj hlt => by have h9 := HZW.out; have : j = Z := (by simpa using hj); omega))
    clear hks hrowZ h0 hth hrq
    generalize v0.setCells Z 0 (bys q) = w9 at HKE hnew ⊢
    go_wp2
    refine ret_two_row rfl rfl Z 25 (bys q).toArray (0, 0) _ rfl hnew Tryz.underlying25 rfl (by rw [List.size_toArray]; exact hql) ?_
    exact ⟨_, _, q, rfl, HKE.out, hq, .inr (.inl ⟨102, q, HN1.out, by unfold pk9; rw [if_neg (by rw [HB0.out]; simp), if_neg (by rw [HD0.out]; simp), if_pos (by intro h; have := HNl.out; rw [h] at this; simp at this; omega), HQE.out], rfl, rfl, rfl⟩)⟩
  have hl0 : rr.2.1.lacks = [] := List.eq_nil_of_length_eq_zero (by have := HNl.out; omega)
  have HL0 := hide hl0
  have hnl0 : ¬ (0 : Int) < (nl : Int) := by omega
  clear hlp hl0
  have hrowZ := HZ.out
  have hzsz : (bys z32).toArray.size = (bys z32).toArray.size := rfl
  have hzi : (Tryz.prog.info? 25).map (·.size) = some (bys z32).toArray.size := by rw [List.size_toArray]; exact idl z32 rfl
  have hall := bys_allT z32
  have hks : Kept [Z] w3 (w3.setRow Z (bys z32).toArray) := kept_rowK (Kept.refl [Z] w3) (fun _ => by simp) _
  have hnew := setRow_heap w3 Z _ (bys z32).toArray 25 (0, 0) hrowZ
  have HKE : Hid (Kept [] w (w3.setRow Z (bys z32).toArray)) := hide (HK3.out.trans hks (fun j hj hlt => by have h9 := HZW.out; have : j = Z := (by simpa using hj); omega))
  have HOE : Hid (OwnI (w3.setRow Z (bys z32).toArray) w.heap.size vn rr.2.1.need) := hide (by
    have h := HW3.out.n.1
    exact ⟨own_base9 (h.kept hks (fun k hk hm => by have h1 := own_far9 h.1 k hk; have h2 := HZW.out; have : k = Z := (by simpa using hm); omega)).1 (by have h2 := HZW.out; omega), h.2⟩)
  clear hks
  go_wp2_with (refine wpList_store_rowTo rfl 25 (.tmp 6) (.tmp 68) rfl rfl Z (bys z32).toArray rfl rfl 25 (bys z32).toArray hrowZ hzi rfl hall ?_)
  refine ret_two_row rfl rfl Z 25 (bys z32).toArray (0, 0) _ rfl hnew Tryz.underlying25 rfl hzi ?_
  exact ⟨_, _, z32, rfl, HKE.out, rfl, .inr (.inr ⟨HN1.out, by unfold pk9; rw [if_neg (by rw [HB0.out]; simp), if_neg (by rw [HD0.out]; simp), if_neg (by rw [HL0.out]; simp)], HOE.out, rfl, rfl⟩)⟩

set_option maxHeartbeats 6400000 in
set_option maxRecDepth 100000 in
theorem rlacks9_ok {w : World} {si sd sc : Value} {I : List (List UInt8)} {D : List Value} {C : List Int} {f : List UInt8 → An} {cf : List UInt8 → Int} {U : List (List UInt8)} (hS : Sr9 w si sd sc I D C) (hF : Fnd9 w I D C f cf) (ra : Option Addr) (rn rc : Nat) (RL : List Rz) (hrl : RL.length = rn) (hR : Rss w ra RL) (hn : I.length ≤ 4611686018427387904)
    (hUR : ∀ q ∈ RL.map (·.root), q ∈ U) (hUE : ∀ i xs E, f i = .data xs → Tn.parse xs = some E → ∀ e ∈ E, e.id ∈ U) (hUl : (U.length + 2) * 32 ≤ 140737488355328) (hrm : rn ≤ 4611686018427387904) :
    Calls Tryz.prog 22 #[.agg #[si, sd, sc], .slice ra rn rc] w fun e w' => ∃ v c i, e = .returned (.tuple #[v, .int .i64 c, .agg (bys i).toArray]) ∧ Kept [] w w' ∧ i.length = 32 ∧ LkE9 w' w.heap.size cf (refW f (RL.map (·.root))) v c i := by
  obtain ⟨S, hSS⟩ : ∃ r, r = w.heap.size := ⟨_, rfl⟩
  obtain ⟨Z, hZ⟩ : ∃ r, r = w.heap.size + 1 := ⟨_, rfl⟩
  obtain ⟨w1, hw1⟩ : ∃ r, r = (w.alloc (.cells #[si, sd, sc] 39)).alloc (.cells zeroI 25) := ⟨_, rfl⟩
  have h1 := heap_alloc2_old w (.cells #[si, sd, sc] 39) (.cells zeroI 25)
  have h2 := heap_alloc2_new w (.cells #[si, sd, sc] 39) (.cells zeroI 25)
  have hk0 : Kept [] w w1 := by rw [hw1]; exact ((Kept.refl [] w).alloc _).alloc _
  have hs1 : w1.heap.size = w.heap.size + 2 := by rw [hw1]; show ((w.heap.push _).push _).size = _; simp
  rw [← hSS, ← hw1] at h1
  rw [← hZ, ← hw1] at h2
  have HZW : Hid (w.heap.size ≤ Z ∧ Z < w1.heap.size ∧ w.heap.size ≤ w1.heap.size) := hide ⟨by omega, by omega, by omega⟩
  have HZ1 : Hid (w1.heap[Z]? = some (.cells (bys z32).toArray 25 (0, 0))) := hide h2
  have hro := rounds9_ok (hS.kept hk0) (hF.kept hk0) ra rn rc RL hrl (hR.kept hk0 (fun _ _ _ => by simp)) hn hUR hUE hUl hrm
  obtain ⟨rr, hrr⟩ : ∃ r, refW f (RL.map (·.root)) = r := ⟨_, rfl⟩
  rw [hrr] at hro
  rw [hrr]
  clear hrr
  have HF0 := hide hF
  have HK0 := hide hk0
  have hial : (Tryz.prog.info? 39).map (·.size) = some [si, sd, sc].length := Tryz.infoSr9
  have hzi0 := Tryz.zeroId
  have hrowS : w1.rangeAt S 0 [si, sd, sc] := row_rangeK h1
  clear hS hF h1 h2 hk0 hs1 hrl hR hUR hUE hUl
  go_enter Tryz.func22, Tryz.ntmps22
  go_upto_region 1 with (fail)
  rw [← hZ, ← hSS, ← hw1]
  clear hSS hZ hw1 hzi0
  go_upto_region 2 with (first
    | refine wpList_load_mid rfl 39 (.tmp 2) rfl S 0 rfl [si, sd, sc] _ hrowS Tryz.underlying39 rfl hial ?_
    | (go_at_call 30; refine hro.mono ?_; rintro e w3 ⟨g, rfl, hR9, hk9⟩; have HR9 := hide hR9; have HK13 := hide hk9; have HK3 := hide (HK0.out.trans hk9 (by simp)); clear hro hR9 hk9))
  obtain ⟨va, vn, vb, vd, vl, dp, cd, ci, hw3, hro9⟩ := HR9.out
  have HW3 := hide hw3
  have HRO := hide hro9
  have HZ : Hid (w3.heap[Z]? = some (.cells (bys z32).toArray 25 (0, 0))) := hide ((HK13.out.block Z HZW.out.2.1 (by simp)).trans HZ1.out)
  clear hw3 hro9 HR9 HZ1 hrowS
  rcases HRO.out with ⟨hn1, rfl, rfl, rfl⟩ | ⟨q, hn1, hcd, hci, hfq⟩
  rotate_left
  · as_aux_lemma =>
    have hc0 : (cd != 0) = true := by have h := (HF0.out.fail q hfq).2.1; rw [hcd]; simpa using h
    have hq : q.length = 32 := by rw [← hci]; exact HW3.out.cil
    have hql := idl q hq
    have hsz : (bys q).toArray.size = 32 := by simp [bys_length, hq]
    have hrq : w3.rangeAt g 6 (bys q) := by rw [← hci]; exact HW3.out.cid
    have HC := hide (And.intro hn1 hcd)
    have c5 := HW3.out.cc
    clear hn1 hcd hci hfq
    go_upto_region 3 with (fail)
    have cC := HW3.out.cc
    refine wp_region_late (fun w' => Kept [] w3 w') (fun i => i == 10) (by kernel_rfl) ?_
    have h0 : Kept [] w3 w3.drew := (Kept.refl [] w3).drew
    generalize World.drew w3 = v0 at h0 ⊢
    refine wpAnyL_free (i := 0) (v := .pointer (some ⟨g, 0, none⟩)) rfl (by kernel_rfl) (by kernel_rfl) (by kernel_rfl) (fun _ _ _ h => h) (Or.inl ⟨by rfl, fun w _ => by go_simp⟩) ?_
    try simp only [List.getElem_toArray, List.getElem_cons_zero, List.getElem_cons_succ, Act.put, List.setIfInBounds_toArray, List.set_cons_zero, List.set_cons_succ]
    refine wpAnyL_free (i := 1) (v := .pointer (some ⟨g, 0, none⟩)) rfl (by kernel_rfl) (by kernel_rfl) (by kernel_rfl) (fun _ _ _ h => h) (Or.inl ⟨by rfl, fun w _ => by go_simp⟩) ?_
    try simp only [List.getElem_toArray, List.getElem_cons_zero, List.getElem_cons_succ, Act.put, List.setIfInBounds_toArray, List.set_cons_zero, List.set_cons_succ]
    refine wpAnyL_free (i := 2) (v := .pointer (some ⟨g, 5, none⟩)) rfl (by kernel_rfl) (by kernel_rfl) (by kernel_rfl) (fun _ _ _ h => h) (Or.inl ⟨by rfl, fun w _ => by go_simp⟩) ?_
    try simp only [List.getElem_toArray, List.getElem_cons_zero, List.getElem_cons_succ, Act.put, List.setIfInBounds_toArray, List.set_cons_zero, List.set_cons_succ]
    refine wpAnyL_take (i := 3) (v := .int .i64 cd) rfl (by kernel_rfl) (by kernel_rfl) (by kernel_rfl) (by kernel_rfl) (by kernel_rfl) (fun _ _ _ h => h) (Or.inl ⟨by rfl, fun w hSw => by have c := Kept.cellOf hSw cC (by simp); go_simp⟩) h0 ?_
    try simp only [List.getElem_toArray, List.getElem_cons_zero, List.getElem_cons_succ, Act.put, List.setIfInBounds_toArray, List.set_cons_zero, List.set_cons_succ]
    refine wpAnyL_free (i := 4) (v := .pointer (some ⟨g, 0, none⟩)) rfl (by kernel_rfl) (by kernel_rfl) (by kernel_rfl) (fun _ _ _ h => h) (Or.inl ⟨by rfl, fun w _ => by go_simp⟩) ?_
    try simp only [List.getElem_toArray, List.getElem_cons_zero, List.getElem_cons_succ, Act.put, List.setIfInBounds_toArray, List.set_cons_zero, List.set_cons_succ]
    refine wpAnyL_free (i := 5) (v := .pointer (some ⟨g, 0, none⟩)) rfl (by kernel_rfl) (by kernel_rfl) (by kernel_rfl) (fun _ _ _ h => h) (Or.inl ⟨by rfl, fun w _ => by go_simp⟩) ?_
    try simp only [List.getElem_toArray, List.getElem_cons_zero, List.getElem_cons_succ, Act.put, List.setIfInBounds_toArray, List.set_cons_zero, List.set_cons_succ]
    refine wpAnyL_free (i := 6) (v := .pointer (some ⟨g, 6, none⟩)) rfl (by kernel_rfl) (by kernel_rfl) (by kernel_rfl) (fun _ _ _ h => h) (Or.inl ⟨by rfl, fun w _ => by go_simp⟩) ?_
    try simp only [List.getElem_toArray, List.getElem_cons_zero, List.getElem_cons_succ, Act.put, List.setIfInBounds_toArray, List.set_cons_zero, List.set_cons_succ]
    refine wpAnyL_take (i := 7) (v := .agg (bys q).toArray) rfl (by kernel_rfl) (by kernel_rfl) (by kernel_rfl) (by kernel_rfl) (by kernel_rfl) (fun _ _ _ h => h) (yieldsIf_load_mid (by rfl) _ _ rfl g (6) rfl (bys q) _ (fun W h => fun jj u hu => Kept.cellOf h (hrq jj u hu) (by simp)) Tryz.underlying25 rfl hql) h0 ?_
    try simp only [List.getElem_toArray, List.getElem_cons_zero, List.getElem_cons_succ, Act.put, List.setIfInBounds_toArray, List.set_cons_zero, List.set_cons_succ]
    refine wpAnyL_free (i := 8) (v := .slice none 0 0) rfl (by kernel_rfl) (by kernel_rfl) (by kernel_rfl) (fun _ _ _ h => h) (Or.inl ⟨by rfl, fun w _ => by go_simp⟩) ?_
    try simp only [List.getElem_toArray, List.getElem_cons_zero, List.getElem_cons_succ, Act.put, List.setIfInBounds_toArray, List.set_cons_zero, List.set_cons_succ]
    refine wpAnyL_free (i := 9) (v := .int .i64 cd) rfl (by kernel_rfl) (by kernel_rfl) (by kernel_rfl) (fun _ _ _ h => h) (Or.inl ⟨by rfl, fun w _ => by go_simp⟩) ?_
    try simp only [List.getElem_toArray, List.getElem_cons_zero, List.getElem_cons_succ, Act.put, List.setIfInBounds_toArray, List.set_cons_zero, List.set_cons_succ]
    have hth : v0.there Z 0 32 := there_rowT ((h0.block Z (Array.getElem?_eq_some_iff.1 HZ.out).1 (by simp)).trans HZ.out) 0 32 (by simp [z32, bys_length])
    refine wpAnyL_one (i := 10) (by kernel_rfl) rfl (fun K' hK => ?_)
    rw [if_pos (by rfl)]
    refine wp_store_mid 25 (.tmp 6) (.tmp 23) rfl Z 0 (bys q).toArray rfl rfl (by rw [hsz]; exact hth) (by rw [List.size_toArray]; exact hql) (bys_allT q) ?_
    refine hK.out _ _ (fun _ h => by cases h) ?_
    clear hK K'
    try simp only [List.getElem_toArray, List.getElem_cons_zero, List.getElem_cons_succ, Act.put, List.setIfInBounds_toArray, List.set_cons_zero, List.set_cons_succ]
    refine wpAnyL_done (by kernel_rfl) ?_ _
    clear cC
    have hrowZ : v0.heap[Z]? = some (.cells (bys z32).toArray 25 (0, 0)) := (h0.block Z (Array.getElem?_eq_some_iff.1 HZ.out).1 (by simp)).trans HZ.out
    have hks : Kept [Z] v0 (v0.setCells Z 0 (bys q)) := kept_setCellsT (fun _ => by simp) _ _ _ (Kept.refl [Z] v0)
    have hnew : (v0.setCells Z 0 (bys q)).heap[Z]? = some (.cells (bys q).toArray 25 (0, 0)) := by
      rw [setCells_rowT _ _ _ _ _ _ hrowZ (by simp [z32, bys_length, hq]), setRow_heap _ _ _ _ _ _ hrowZ]
      simp [z32, bys_length, hq]
    have HKE : Hid (Kept [] w (v0.setCells Z 0 (bys q))) := hide ((HK3.out.trans h0 (by simp)).trans hks (fun j hj hlt => by have h9 := HZW.out; have : j = Z := (by simpa using hj); omega))
    clear hks hrowZ h0 hth hrq
    generalize v0.setCells Z 0 (bys q) = w9 at HKE hnew ⊢
    go_wp2
    refine ret_two_row rfl rfl Z 25 (bys q).toArray (0, 0) _ rfl hnew Tryz.underlying25 rfl (by rw [List.size_toArray]; exact hql) ?_
    exact ⟨_, _, q, rfl, HKE.out, hq, .inl ⟨q, HC.out.1, rfl, HC.out.2, rfl⟩⟩
  have HN1 := hide hn1
  clear hn1
  have c5 := HW3.out.cc
  have c4 := HW3.out.cl
  have hrowZ := HZ.out
  have hzsz : (bys z32).toArray.size = (bys z32).toArray.size := rfl
  have hzi : (Tryz.prog.info? 25).map (·.size) = some (bys z32).toArray.size := by rw [List.size_toArray]; exact idl z32 rfl
  have hall := bys_allT z32
  have hks : Kept [Z] w3 (w3.setRow Z (bys z32).toArray) := kept_rowK (Kept.refl [Z] w3) (fun _ => by simp) _
  have hnew := setRow_heap w3 Z _ (bys z32).toArray 25 (0, 0) hrowZ
  have HKE : Hid (Kept [] w (w3.setRow Z (bys z32).toArray)) := hide (HK3.out.trans hks (fun j hj hlt => by have h9 := HZW.out; have : j = Z := (by simpa using hj); omega))
  have HOE : Hid (OwnI (w3.setRow Z (bys z32).toArray) w.heap.size vl rr.2.1.lacks) := hide (by
    have h := HW3.out.l.1
    exact ⟨own_base9 (h.kept hks (fun k hk hm => by have h1 := own_far9 h.1 k hk; have h2 := HZW.out; have : k = Z := (by simpa using hm); omega)).1 (by have h2 := HZW.out; omega), h.2⟩)
  clear hks
  go_wp2_with (refine wpList_store_rowTo rfl 25 (.tmp 6) (.tmp 28) rfl rfl Z (bys z32).toArray rfl rfl 25 (bys z32).toArray hrowZ hzi rfl hall ?_)
  refine ret_two_row rfl rfl Z 25 (bys z32).toArray (0, 0) _ rfl hnew Tryz.underlying25 rfl hzi ?_
  exact ⟨_, _, z32, rfl, HKE.out, rfl, .inr ⟨HN1.out, HOE.out, rfl, rfl⟩⟩
end Go.Proofs.YtngaimahhgmciaaGreatDoor
