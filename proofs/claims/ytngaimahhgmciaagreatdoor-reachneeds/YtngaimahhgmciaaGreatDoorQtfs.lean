import Derived.Test.YtngaimahhgmciaaGreatDoorQtds
import Derived.Test.YtngaimahhgmciaaGreatDoorQlas
import Derived.Test.YtngaimahhgmciaaGreatDoorQ9qs
namespace Go.Proofs.YtngaimahhgmciaaGreatDoor
section
open Go.RowKit Go.Lib Go.Sort
set_option linter.unusedVariables false
set_option linter.unusedSimpArgs false
theorem ret_two_row {P : Program} {fn : Func} {p q r : Tmp} {ty : TypeId} {R : Ending → World → Prop} {a : Act} {w : World} (h : fn.results = #[.tmp p, .tmp q, .cell r ty]) (hd : a.defers = []) (g : Nat) (t : TypeId) (cs : Array Value) (fr : Nat × Nat) (d : TypeDesc)
  (hp : a.tmps.getD r undef = .pointer (some ⟨g, 0, none⟩)) (hg : w.heap[g]? = some (.cells cs t fr)) (hu : P.underlying ty = some d) (hx : (match d with | .struct _ | .array _ _ => true | _ => false) = true) (hi : (P.info? ty).map (·.size) = some cs.size)
  (hR : R (.returned (.tuple #[a.tmps.getD p undef, a.tmps.getD q undef, .agg cs])) w) : bodyPost P fn R .ret a w := by
 refine bodyPost_ret (v := .tuple #[a.tmps.getD p undef, a.tmps.getD q undef, .agg cs]) ?_ hd hR
 have hp' : a.tmps[r]?.getD undef = .pointer (some ⟨g, 0, none⟩) := by simpa using hp
 simp [results, h, hp', asAddr, run_loadVar_row w g t ty cs fr d hg hu hx hi]
def pk9 (r : Option (List UInt8) × Rw × List (List UInt8)) : Option (Int × List UInt8) :=
 if r.2.1.bad ≠ [] then some (100, r.2.1.bad.getD 0 []) else if r.2.2 ≠ [] then some (101, r.2.2.getD 0 []) else if r.2.1.lacks ≠ [] then some (102, r.2.1.lacks.getD 0 []) else none
def NdE9 (w : World) (B : Nat) (cf : List UInt8 → Int) (r : Option (List UInt8) × Rw × List (List UInt8)) (v : Value) (c : Int) (i : List UInt8) : Prop :=
 (∃ q, r.1 = some q ∧ v = .slice none 0 0 ∧ c = cf q ∧ i = q) ∨ (∃ cd q, r.1 = none ∧ pk9 r = some (cd, q) ∧ v = .slice none 0 0 ∧ c = cd ∧ i = q) ∨ (r.1 = none ∧ pk9 r = none ∧ OwnI w B v r.2.1.need ∧ c = 0 ∧ i = z32)
def LkE9 (w : World) (B : Nat) (cf : List UInt8 → Int) (r : Option (List UInt8) × Rw × List (List UInt8)) (v : Value) (c : Int) (i : List UInt8) : Prop :=
 (∃ q, r.1 = some q ∧ v = .slice none 0 0 ∧ c = cf q ∧ i = q) ∨ (r.1 = none ∧ OwnI w B v r.2.1.lacks ∧ c = 0 ∧ i = z32)
set_option maxHeartbeats 6400000 in
set_option maxRecDepth 100000 in
theorem rneed9_ok {w : World} {si sd sc : Value} {I : List (List UInt8)} {D : List Value} {C : List Int} {f : List UInt8 → An} {cf : List UInt8 → Int} {U : List (List UInt8)} (hS : Sr9 w si sd sc I D C) (hF : Fnd9 w I D C f cf) (ra : Option Addr) (rn rc : Nat) (RL : List Rz) (hrl : RL.length = rn) (hR : Rss w ra RL) (hn : I.length ≤ 4611686018427387904)
  (hUR : ∀ q ∈ RL.map (·.root), q ∈ U) (hUE : ∀ i xs E, f i = .data xs → Tn.parse xs = some E → ∀ e ∈ E, e.id ∈ U) (hUl : (U.length + 2) * 32 ≤ 140737488355328) (hrm : rn ≤ 4611686018427387904) :
  Calls Tryz.prog 21 #[.agg #[si, sd, sc], .slice ra rn rc] w fun e w' => ∃ v c i, e = .returned (.tuple #[v, .int .i64 c, .agg (bys i).toArray]) ∧ Kept [] w w' ∧ i.length = 32 ∧ NdE9 w' w.heap.size cf (refW f (RL.map (·.root))) v c i := by
 obtain ⟨S, hSS⟩ : ∃ r, r = w.heap.size := ⟨_, rfl⟩
 obtain ⟨Z, hZ⟩ : ∃ r, r = w.heap.size + 1 := ⟨_, rfl⟩
 obtain ⟨w1, hw1⟩ : ∃ r, r = (w.alloc (.cells #[si, sd, sc] 39)).alloc (.cells zeroI 25) := ⟨_, rfl⟩
 have h1 := heap_alloc2_old w (.cells #[si, sd, sc] 39) (.cells zeroI 25)
 have h2 := heap_alloc2_new w (.cells #[si, sd, sc] 39) (.cells zeroI 25)
 have hk0 : Kept [] w w1 := by rw [hw1]; exact ((Kept.refl [] w).alloc _).alloc _
 have hs1 : w1.heap.size = w.heap.size + 2 := by rw [hw1]; show ((w.heap.push _).push _).size = _; simp
 rw [← hSS, ← hw1] at h1
 rw [← hZ, ← hw1] at h2
 have HZW : Hid (w.heap.size ≤ Z ∧ Z < w1.heap.size ∧ w.heap.size ≤ w1.heap.size) := hide ⟨by omega, by omega, by omega⟩
 have HZ1 : Hid (w1.heap[Z]? = some (.cells (bys z32).toArray 25 (0, 0))) := hide h2
 have hro := rounds9_ok (hS.kept hk0) (hF.kept hk0) ra rn rc RL hrl (hR.kept hk0 (fun _ _ _ => by simp)) hn hUR hUE hUl hrm
 obtain ⟨rr, hrr⟩ : ∃ r, refW f (RL.map (·.root)) = r := ⟨_, rfl⟩
 rw [hrr] at hro
 rw [hrr]
 clear hrr
 have HF0 := hide hF
 have HK0 := hide hk0
 have hial : (Tryz.prog.info? 39).map (·.size) = some [si, sd, sc].length := Tryz.infoSr9
 have hzi0 := Tryz.zeroId
 have hrowS : w1.rangeAt S 0 [si, sd, sc] := row_rangeK h1
 clear hS hF h1 h2 hk0 hs1 hrl hR hUR hUE hUl
 go_enter Tryz.func21, Tryz.ntmps21
 go_upto_region 1 with (fail)
 rw [← hZ, ← hSS, ← hw1]
 clear hSS hZ hw1 hzi0
 go_upto_region 2 with (first
  | refine wpList_load_mid rfl 39 (.tmp 2) rfl S 0 rfl [si, sd, sc] _ hrowS Tryz.underlying39 rfl hial ?_
  | (go_at_call 30; refine hro.mono ?_; rintro e w3 ⟨g, rfl, hR9, hk9⟩; have HR9 := hide hR9; have HK13 := hide hk9; have HK3 := hide (HK0.out.trans hk9 (by simp)); clear hro hR9 hk9))
 obtain ⟨va, vn, vb, vd, vl, dp, cd, ci, hw3, hro9⟩ := HR9.out
 have HW3 := hide hw3
 have HRO := hide hro9
 have HZ : Hid (w3.heap[Z]? = some (.cells (bys z32).toArray 25 (0, 0))) := hide ((HK13.out.block Z HZW.out.2.1 (by simp)).trans HZ1.out)
 clear hw3 hro9 HR9 HZ1 hrowS
 rcases HRO.out with ⟨hn1, rfl, rfl, rfl⟩ | ⟨q, hn1, hcd, hci, hfq⟩
 rotate_left
 ·as_aux_lemma =>
  have hc0 : (cd != 0) = true := by have h := (HF0.out.fail q hfq).2.1; rw [hcd]; simpa using h
  have hq : q.length = 32 := by rw [← hci]; exact HW3.out.cil
  have hql := idl q hq
  have hsz : (bys q).toArray.size = 32 := by simp [bys_length, hq]
  have hrq : w3.rangeAt g 6 (bys q) := by rw [← hci]; exact HW3.out.cid
  have HC := hide (And.intro hn1 hcd)
  have c5 := HW3.out.cc
  clear hn1 hcd hci hfq
  go_upto_region 3 with (fail)
  have cC := HW3.out.cc
  refine wp_region_late (fun w' => Kept [] w3 w') (fun i => i == 10) (by kernel_rfl) ?_
  have h0 : Kept [] w3 w3.drew := (Kept.refl [] w3).drew
  generalize World.drew w3 = v0 at h0 ⊢
  refine wpAnyL_free (i := 0) (v := .pointer (some ⟨g, 0, none⟩)) rfl (by kernel_rfl) (by kernel_rfl) (by kernel_rfl) (fun _ _ _ h => h) (Or.inl ⟨by rfl, fun w _ => by go_simp⟩) ?_
  try simp only [zk1, zk2, zk3, zk4, zk5, zk6, zk7, zk8]
  refine wpAnyL_free (i := 1) (v := .pointer (some ⟨g, 0, none⟩)) rfl (by kernel_rfl) (by kernel_rfl) (by kernel_rfl) (fun _ _ _ h => h) (Or.inl ⟨by rfl, fun w _ => by go_simp⟩) ?_
  try simp only [zk1, zk2, zk3, zk4, zk5, zk6, zk7, zk8]
  refine wpAnyL_free (i := 2) (v := .pointer (some ⟨g, 5, none⟩)) rfl (by kernel_rfl) (by kernel_rfl) (by kernel_rfl) (fun _ _ _ h => h) (Or.inl ⟨by rfl, fun w _ => by go_simp⟩) ?_
  try simp only [zk1, zk2, zk3, zk4, zk5, zk6, zk7, zk8]
  refine wpAnyL_take (i := 3) (v := .int .i64 cd) rfl (by kernel_rfl) (by kernel_rfl) (by kernel_rfl) (by kernel_rfl) (by kernel_rfl) (fun _ _ _ h => h) (Or.inl ⟨by rfl, fun w hSw => by have c := Kept.cellOf hSw cC (by simp); go_simp⟩) h0 ?_
  try simp only [zk1, zk2, zk3, zk4, zk5, zk6, zk7, zk8]
  refine wpAnyL_free (i := 4) (v := .pointer (some ⟨g, 0, none⟩)) rfl (by kernel_rfl) (by kernel_rfl) (by kernel_rfl) (fun _ _ _ h => h) (Or.inl ⟨by rfl, fun w _ => by go_simp⟩) ?_
  try simp only [zk1, zk2, zk3, zk4, zk5, zk6, zk7, zk8]
  refine wpAnyL_free (i := 5) (v := .pointer (some ⟨g, 0, none⟩)) rfl (by kernel_rfl) (by kernel_rfl) (by kernel_rfl) (fun _ _ _ h => h) (Or.inl ⟨by rfl, fun w _ => by go_simp⟩) ?_
  try simp only [zk1, zk2, zk3, zk4, zk5, zk6, zk7, zk8]
  refine wpAnyL_free (i := 6) (v := .pointer (some ⟨g, 6, none⟩)) rfl (by kernel_rfl) (by kernel_rfl) (by kernel_rfl) (fun _ _ _ h => h) (Or.inl ⟨by rfl, fun w _ => by go_simp⟩) ?_
  try simp only [zk1, zk2, zk3, zk4, zk5, zk6, zk7, zk8]
  refine wpAnyL_take (i := 7) (v := .agg (bys q).toArray) rfl (by kernel_rfl) (by kernel_rfl) (by kernel_rfl) (by kernel_rfl) (by kernel_rfl) (fun _ _ _ h => h) (yieldsIf_load_mid (by rfl) _ _ rfl g (6) rfl (bys q) _ (fun W h => fun jj u hu => Kept.cellOf h (hrq jj u hu) (by simp)) Tryz.underlying25 rfl hql) h0 ?_
  try simp only [zk1, zk2, zk3, zk4, zk5, zk6, zk7, zk8]
  refine wpAnyL_free (i := 8) (v := .slice none 0 0) rfl (by kernel_rfl) (by kernel_rfl) (by kernel_rfl) (fun _ _ _ h => h) (Or.inl ⟨by rfl, fun w _ => by go_simp⟩) ?_
  try simp only [zk1, zk2, zk3, zk4, zk5, zk6, zk7, zk8]
  refine wpAnyL_free (i := 9) (v := .int .i64 cd) rfl (by kernel_rfl) (by kernel_rfl) (by kernel_rfl) (fun _ _ _ h => h) (Or.inl ⟨by rfl, fun w _ => by go_simp⟩) ?_
  try simp only [zk1, zk2, zk3, zk4, zk5, zk6, zk7, zk8]
  have hth : v0.there Z 0 32 := there_rowT ((h0.block Z (Array.getElem?_eq_some_iff.1 HZ.out).1 (by simp)).trans HZ.out) 0 32 (by simp [z32, bys_length])
  refine wpAnyL_one (i := 10) (by kernel_rfl) rfl (fun K' hK => ?_)
  rw [if_pos (by rfl)]
  refine wp_store_mid 25 (.tmp 6) (.tmp 24) rfl Z 0 (bys q).toArray rfl rfl (by rw [hsz]; exact hth) (by rw [List.size_toArray]; exact hql) (bys_allT q) ?_
  refine hK.out _ _ (fun _ h => by cases h) ?_
  clear hK K'
  try simp only [zk1, zk2, zk3, zk4, zk5, zk6, zk7, zk8]
  refine wpAnyL_done (by kernel_rfl) ?_ _
  clear cC
  have hrowZ : v0.heap[Z]? = some (.cells (bys z32).toArray 25 (0, 0)) := (h0.block Z (Array.getElem?_eq_some_iff.1 HZ.out).1 (by simp)).trans HZ.out
  have hks : Kept [Z] v0 (v0.setCells Z 0 (bys q)) := kept_setCellsT (fun _ => by simp) _ _ _ (Kept.refl [Z] v0)
  have hnew : (v0.setCells Z 0 (bys q)).heap[Z]? = some (.cells (bys q).toArray 25 (0, 0)) := by
   rw [setCells_rowT _ _ _ _ _ _ hrowZ (by simp [z32, bys_length, hq]), setRow_heap _ _ _ _ _ _ hrowZ]
   simp [z32, bys_length, hq]
  have HKE : Hid (Kept [] w (v0.setCells Z 0 (bys q))) := hide ((HK3.out.trans h0 (by simp)).trans hks (fun j hj hlt => by have h9 := HZW.out; have : j = Z := (by simpa using hj); omega))
  clear hks hrowZ h0 hth hrq
  generalize v0.setCells Z 0 (bys q) = w9 at HKE hnew ⊢
  go_wp2
  refine ret_two_row rfl rfl Z 25 (bys q).toArray (0, 0) _ rfl hnew Tryz.underlying25 rfl (by rw [List.size_toArray]; exact hql) ?_
  exact ⟨_, _, q, rfl, HKE.out, hq, .inl ⟨q, HC.out.1, rfl, HC.out.2, rfl⟩⟩
 have HN1 := hide hn1
 have HW3 := HW3
 clear hn1
 obtain ⟨ab, cb, eb, _⟩ := own_shape HW3.out.b.1.1
 obtain ⟨nb, hnb⟩ : ∃ n, rr.2.1.bad.length = n := ⟨_, rfl⟩
 rw [hnb] at eb
 have HNb := hide hnb
 obtain ⟨ad, cd, ed, _⟩ := own_shape HW3.out.d.1.1
 obtain ⟨nd, hnd⟩ : ∃ n, rr.2.2.length = n := ⟨_, rfl⟩
 rw [hnd] at ed
 have HNd := hide hnd
 obtain ⟨al, cl, el, _⟩ := own_shape HW3.out.l.1.1
 obtain ⟨nl, hnl⟩ : ∃ n, rr.2.1.lacks.length = n := ⟨_, rfl⟩
 rw [hnl] at el
 have HNl := hide hnl
 clear hnb hnd hnl
 subst eb
 subst ed
 subst el
 have c5 := HW3.out.cc
 have c2 := HW3.out.cb
 have c3 := HW3.out.cdd
 have c4 := HW3.out.cl
 have c1 := HW3.out.cn
 by_cases hlp : 0 < nb
 ·as_aux_lemma =>
  obtain ⟨gb, hao⟩ := OwnI.at9 (show OwnI w3 w1.heap.size (.slice ab nb cb) rr.2.1.bad from HW3.out.b.1) hlp
  subst hao
  have hlq : 0 < (rr.2.1.bad).length := by have h := HNb.out; omega
  obtain ⟨g2, off, hao, hrq⟩ := (show Ids w3 (some ⟨gb, 0, none⟩) rr.2.1.bad from HW3.out.b.1.ids.1).1 0 hlq
  cases hao
  have hq : ((rr.2.1.bad).getD 0 []).length = 32 := HW3.out.b.1.2 _ (gmem9 hlq)
  obtain ⟨q, hqe⟩ : ∃ q, (rr.2.1.bad).getD 0 [] = q := ⟨_, rfl⟩
  rw [hqe, show 0 + 0 * 32 = 0 from rfl] at hrq
  rw [hqe] at hq
  have HQE := hide hqe
  have hql := idl q hq
  have hsz : (bys q).toArray.size = 32 := by simp [bys_length, hq]
  have hlpi : (0 : Int) < (nb : Int) := by omega
  clear hqe hlq
  go_upto_region 5 with (fail)
  have cC := HW3.out.cb
  refine wp_region_late (fun w' => Kept [] w3 w') (fun i => i == 8) (by kernel_rfl) ?_
  have h0 : Kept [] w3 w3.drew := (Kept.refl [] w3).drew
  generalize World.drew w3 = v0 at h0 ⊢
  refine wpAnyL_free (i := 0) (v := .pointer (some ⟨g, 0, none⟩)) rfl (by kernel_rfl) (by kernel_rfl) (by kernel_rfl) (fun _ _ _ h => h) (Or.inl ⟨by rfl, fun w _ => by go_simp⟩) ?_
  try simp only [zk1, zk2, zk3, zk4, zk5, zk6, zk7, zk8]
  refine wpAnyL_free (i := 1) (v := .pointer (some ⟨g, 0, none⟩)) rfl (by kernel_rfl) (by kernel_rfl) (by kernel_rfl) (fun _ _ _ h => h) (Or.inl ⟨by rfl, fun w _ => by go_simp⟩) ?_
  try simp only [zk1, zk2, zk3, zk4, zk5, zk6, zk7, zk8]
  refine wpAnyL_free (i := 2) (v := .pointer (some ⟨g, 2, none⟩)) rfl (by kernel_rfl) (by kernel_rfl) (by kernel_rfl) (fun _ _ _ h => h) (Or.inl ⟨by rfl, fun w _ => by go_simp⟩) ?_
  try simp only [zk1, zk2, zk3, zk4, zk5, zk6, zk7, zk8]
  refine wpAnyL_take (i := 3) (v := .slice (some ⟨gb, 0, none⟩) nb cb) rfl (by kernel_rfl) (by kernel_rfl) (by kernel_rfl) (by kernel_rfl) (by kernel_rfl) (fun _ _ _ h => h) (Or.inl ⟨by rfl, fun w hSw => by have c := Kept.cellOf hSw cC (by simp); go_simp⟩) h0 ?_
  try simp only [zk1, zk2, zk3, zk4, zk5, zk6, zk7, zk8]
  refine wpAnyL_free (i := 4) (v := .pointer (some ⟨gb, 0, none⟩)) rfl (by kernel_rfl) (by kernel_rfl) (by kernel_rfl) (fun _ _ _ h => h) (Or.inl ⟨by rfl, fun w _ => by go_simp⟩) ?_
  try simp only [zk1, zk2, zk3, zk4, zk5, zk6, zk7, zk8]
  refine wpAnyL_take (i := 5) (v := .agg (bys q).toArray) rfl (by kernel_rfl) (by kernel_rfl) (by kernel_rfl) (by kernel_rfl) (by kernel_rfl) (fun _ _ _ h => h) (yieldsIf_load_mid (by rfl) _ _ rfl gb (0) rfl (bys q) _ (fun W h => fun jj u hu => Kept.cellOf h (hrq jj u hu) (by simp)) Tryz.underlying25 rfl hql) h0 ?_
  try simp only [zk1, zk2, zk3, zk4, zk5, zk6, zk7, zk8]
  refine wpAnyL_free (i := 6) (v := .slice none 0 0) rfl (by kernel_rfl) (by kernel_rfl) (by kernel_rfl) (fun _ _ _ h => h) (Or.inl ⟨by rfl, fun w _ => by go_simp⟩) ?_
  try simp only [zk1, zk2, zk3, zk4, zk5, zk6, zk7, zk8]
  refine wpAnyL_free (i := 7) (v := .int .i64 100) rfl (by kernel_rfl) (by kernel_rfl) (by kernel_rfl) (fun _ _ _ h => h) (Or.inl ⟨by rfl, fun w _ => by go_simp⟩) ?_
  try simp only [zk1, zk2, zk3, zk4, zk5, zk6, zk7, zk8]
  have hth : v0.there Z 0 32 := there_rowT ((h0.block Z (Array.getElem?_eq_some_iff.1 HZ.out).1 (by simp)).trans HZ.out) 0 32 (by simp [z32, bys_length])
  refine wpAnyL_one (i := 8) (by kernel_rfl) rfl (fun K' hK => ?_)
  rw [if_pos (by rfl)]
  refine wp_store_mid 25 (.tmp 6) (.tmp 37) rfl Z 0 (bys q).toArray rfl rfl (by rw [hsz]; exact hth) (by rw [List.size_toArray]; exact hql) (bys_allT q) ?_
  refine hK.out _ _ (fun _ h => by cases h) ?_
  clear hK K'
  try simp only [zk1, zk2, zk3, zk4, zk5, zk6, zk7, zk8]
  refine wpAnyL_done (by kernel_rfl) ?_ _
  clear cC
  have hrowZ : v0.heap[Z]? = some (.cells (bys z32).toArray 25 (0, 0)) := (h0.block Z (Array.getElem?_eq_some_iff.1 HZ.out).1 (by simp)).trans HZ.out
  have hks : Kept [Z] v0 (v0.setCells Z 0 (bys q)) := kept_setCellsT (fun _ => by simp) _ _ _ (Kept.refl [Z] v0)
  have hnew : (v0.setCells Z 0 (bys q)).heap[Z]? = some (.cells (bys q).toArray 25 (0, 0)) := by
   rw [setCells_rowT _ _ _ _ _ _ hrowZ (by simp [z32, bys_length, hq]), setRow_heap _ _ _ _ _ _ hrowZ]
   simp [z32, bys_length, hq]
  have HKE : Hid (Kept [] w (v0.setCells Z 0 (bys q))) := hide ((HK3.out.trans h0 (by simp)).trans hks (fun j hj hlt => by have h9 := HZW.out; have : j = Z := (by simpa using hj); omega))
  clear hks hrowZ h0 hth hrq
  generalize v0.setCells Z 0 (bys q) = w9 at HKE hnew ⊢
  go_wp2
  refine ret_two_row rfl rfl Z 25 (bys q).toArray (0, 0) _ rfl hnew Tryz.underlying25 rfl (by rw [List.size_toArray]; exact hql) ?_
  exact ⟨_, _, q, rfl, HKE.out, hq, .inr (.inl ⟨100, q, HN1.out, by unfold pk9; rw [if_pos (by intro h; have := HNb.out; rw [h] at this; simp at this; omega), HQE.out], rfl, rfl, rfl⟩)⟩
 have hb0 : rr.2.1.bad = [] := List.eq_nil_of_length_eq_zero (by have := HNb.out; omega)
 have HB0 := hide hb0
 have hnb0 : ¬ (0 : Int) < (nb : Int) := by omega
 clear hlp hb0
 by_cases hlp : 0 < nd
 ·as_aux_lemma =>
  obtain ⟨gb, hao⟩ := OwnI.at9 (show OwnI w3 w1.heap.size (.slice ad nd cd) rr.2.2 from HW3.out.d.1) hlp
  subst hao
  have hlq : 0 < (rr.2.2).length := by have h := HNd.out; omega
  obtain ⟨g2, off, hao, hrq⟩ := (show Ids w3 (some ⟨gb, 0, none⟩) rr.2.2 from HW3.out.d.1.ids.1).1 0 hlq
  cases hao
  have hq : ((rr.2.2).getD 0 []).length = 32 := HW3.out.d.1.2 _ (gmem9 hlq)
  obtain ⟨q, hqe⟩ : ∃ q, (rr.2.2).getD 0 [] = q := ⟨_, rfl⟩
  rw [hqe, show 0 + 0 * 32 = 0 from rfl] at hrq
  rw [hqe] at hq
  have HQE := hide hqe
  have hql := idl q hq
  have hsz : (bys q).toArray.size = 32 := by simp [bys_length, hq]
  have hlpi : (0 : Int) < (nd : Int) := by omega
  clear hqe hlq
  go_upto_region 7 with (fail)
  have cC := HW3.out.cdd
  refine wp_region_late (fun w' => Kept [] w3 w') (fun i => i == 8) (by kernel_rfl) ?_
  have h0 : Kept [] w3 w3.drew := (Kept.refl [] w3).drew
  generalize World.drew w3 = v0 at h0 ⊢
  refine wpAnyL_free (i := 0) (v := .pointer (some ⟨g, 0, none⟩)) rfl (by kernel_rfl) (by kernel_rfl) (by kernel_rfl) (fun _ _ _ h => h) (Or.inl ⟨by rfl, fun w _ => by go_simp⟩) ?_
  try simp only [zk1, zk2, zk3, zk4, zk5, zk6, zk7, zk8]
  refine wpAnyL_free (i := 1) (v := .pointer (some ⟨g, 0, none⟩)) rfl (by kernel_rfl) (by kernel_rfl) (by kernel_rfl) (fun _ _ _ h => h) (Or.inl ⟨by rfl, fun w _ => by go_simp⟩) ?_
  try simp only [zk1, zk2, zk3, zk4, zk5, zk6, zk7, zk8]
  refine wpAnyL_free (i := 2) (v := .pointer (some ⟨g, 3, none⟩)) rfl (by kernel_rfl) (by kernel_rfl) (by kernel_rfl) (fun _ _ _ h => h) (Or.inl ⟨by rfl, fun w _ => by go_simp⟩) ?_
  try simp only [zk1, zk2, zk3, zk4, zk5, zk6, zk7, zk8]
  refine wpAnyL_take (i := 3) (v := .slice (some ⟨gb, 0, none⟩) nd cd) rfl (by kernel_rfl) (by kernel_rfl) (by kernel_rfl) (by kernel_rfl) (by kernel_rfl) (fun _ _ _ h => h) (Or.inl ⟨by rfl, fun w hSw => by have c := Kept.cellOf hSw cC (by simp); go_simp⟩) h0 ?_
  try simp only [zk1, zk2, zk3, zk4, zk5, zk6, zk7, zk8]
  refine wpAnyL_free (i := 4) (v := .pointer (some ⟨gb, 0, none⟩)) rfl (by kernel_rfl) (by kernel_rfl) (by kernel_rfl) (fun _ _ _ h => h) (Or.inl ⟨by rfl, fun w _ => by go_simp⟩) ?_
  try simp only [zk1, zk2, zk3, zk4, zk5, zk6, zk7, zk8]
  refine wpAnyL_take (i := 5) (v := .agg (bys q).toArray) rfl (by kernel_rfl) (by kernel_rfl) (by kernel_rfl) (by kernel_rfl) (by kernel_rfl) (fun _ _ _ h => h) (yieldsIf_load_mid (by rfl) _ _ rfl gb (0) rfl (bys q) _ (fun W h => fun jj u hu => Kept.cellOf h (hrq jj u hu) (by simp)) Tryz.underlying25 rfl hql) h0 ?_
  try simp only [zk1, zk2, zk3, zk4, zk5, zk6, zk7, zk8]
  refine wpAnyL_free (i := 6) (v := .slice none 0 0) rfl (by kernel_rfl) (by kernel_rfl) (by kernel_rfl) (fun _ _ _ h => h) (Or.inl ⟨by rfl, fun w _ => by go_simp⟩) ?_
  try simp only [zk1, zk2, zk3, zk4, zk5, zk6, zk7, zk8]
  refine wpAnyL_free (i := 7) (v := .int .i64 101) rfl (by kernel_rfl) (by kernel_rfl) (by kernel_rfl) (fun _ _ _ h => h) (Or.inl ⟨by rfl, fun w _ => by go_simp⟩) ?_
  try simp only [zk1, zk2, zk3, zk4, zk5, zk6, zk7, zk8]
  have hth : v0.there Z 0 32 := there_rowT ((h0.block Z (Array.getElem?_eq_some_iff.1 HZ.out).1 (by simp)).trans HZ.out) 0 32 (by simp [z32, bys_length])
  refine wpAnyL_one (i := 8) (by kernel_rfl) rfl (fun K' hK => ?_)
  rw [if_pos (by rfl)]
  refine wp_store_mid 25 (.tmp 6) (.tmp 50) rfl Z 0 (bys q).toArray rfl rfl (by rw [hsz]; exact hth) (by rw [List.size_toArray]; exact hql) (bys_allT q) ?_
  refine hK.out _ _ (fun _ h => by cases h) ?_
  clear hK K'
  try simp only [zk1, zk2, zk3, zk4, zk5, zk6, zk7, zk8]
  refine wpAnyL_done (by kernel_rfl) ?_ _
  clear cC
  have hrowZ : v0.heap[Z]? = some (.cells (bys z32).toArray 25 (0, 0)) := (h0.block Z (Array.getElem?_eq_some_iff.1 HZ.out).1 (by simp)).trans HZ.out
  have hks : Kept [Z] v0 (v0.setCells Z 0 (bys q)) := kept_setCellsT (fun _ => by simp) _ _ _ (Kept.refl [Z] v0)
  have hnew : (v0.setCells Z 0 (bys q)).heap[Z]? = some (.cells (bys q).toArray 25 (0, 0)) := by
   rw [setCells_rowT _ _ _ _ _ _ hrowZ (by simp [z32, bys_length, hq]), setRow_heap _ _ _ _ _ _ hrowZ]
   simp [z32, bys_length, hq]
  have HKE : Hid (Kept [] w (v0.setCells Z 0 (bys q))) := hide ((HK3.out.trans h0 (by simp)).trans hks (fun j hj hlt => by have h9 := HZW.out; have : j = Z := (by simpa using hj); omega))
  clear hks hrowZ h0 hth hrq
  generalize v0.setCells Z 0 (bys q) = w9 at HKE hnew ⊢
  go_wp2
  refine ret_two_row rfl rfl Z 25 (bys q).toArray (0, 0) _ rfl hnew Tryz.underlying25 rfl (by rw [List.size_toArray]; exact hql) ?_
  exact ⟨_, _, q, rfl, HKE.out, hq, .inr (.inl ⟨101, q, HN1.out, by unfold pk9; rw [if_neg (by rw [HB0.out]; simp), if_pos (by intro h; have := HNd.out; rw [h] at this; simp at this; omega), HQE.out], rfl, rfl, rfl⟩)⟩
 have hd0 : rr.2.2 = [] := List.eq_nil_of_length_eq_zero (by have := HNd.out; omega)
 have HD0 := hide hd0
 have hnd0 : ¬ (0 : Int) < (nd : Int) := by omega
 clear hlp hd0
 by_cases hlp : 0 < nl
 ·as_aux_lemma =>
  obtain ⟨gb, hao⟩ := OwnI.at9 (show OwnI w3 w1.heap.size (.slice al nl cl) rr.2.1.lacks from HW3.out.l.1) hlp
  subst hao
  have hlq : 0 < (rr.2.1.lacks).length := by have h := HNl.out; omega
  obtain ⟨g2, off, hao, hrq⟩ := (show Ids w3 (some ⟨gb, 0, none⟩) rr.2.1.lacks from HW3.out.l.1.ids.1).1 0 hlq
  cases hao
  have hq : ((rr.2.1.lacks).getD 0 []).length = 32 := HW3.out.l.1.2 _ (gmem9 hlq)
  obtain ⟨q, hqe⟩ : ∃ q, (rr.2.1.lacks).getD 0 [] = q := ⟨_, rfl⟩
  rw [hqe, show 0 + 0 * 32 = 0 from rfl] at hrq
  rw [hqe] at hq
  have HQE := hide hqe
  have hql := idl q hq
  have hsz : (bys q).toArray.size = 32 := by simp [bys_length, hq]
  have hlpi : (0 : Int) < (nl : Int) := by omega
  clear hqe hlq
  go_upto_region 9 with (fail)
  have cC := HW3.out.cl
  refine wp_region_late (fun w' => Kept [] w3 w') (fun i => i == 8) (by kernel_rfl) ?_
  have h0 : Kept [] w3 w3.drew := (Kept.refl [] w3).drew
  generalize World.drew w3 = v0 at h0 ⊢
  refine wpAnyL_free (i := 0) (v := .pointer (some ⟨g, 0, none⟩)) rfl (by kernel_rfl) (by kernel_rfl) (by kernel_rfl) (fun _ _ _ h => h) (Or.inl ⟨by rfl, fun w _ => by go_simp⟩) ?_
  try simp only [zk1, zk2, zk3, zk4, zk5, zk6, zk7, zk8]
  refine wpAnyL_free (i := 1) (v := .pointer (some ⟨g, 0, none⟩)) rfl (by kernel_rfl) (by kernel_rfl) (by kernel_rfl) (fun _ _ _ h => h) (Or.inl ⟨by rfl, fun w _ => by go_simp⟩) ?_
  try simp only [zk1, zk2, zk3, zk4, zk5, zk6, zk7, zk8]
  refine wpAnyL_free (i := 2) (v := .pointer (some ⟨g, 4, none⟩)) rfl (by kernel_rfl) (by kernel_rfl) (by kernel_rfl) (fun _ _ _ h => h) (Or.inl ⟨by rfl, fun w _ => by go_simp⟩) ?_
  try simp only [zk1, zk2, zk3, zk4, zk5, zk6, zk7, zk8]
  refine wpAnyL_take (i := 3) (v := .slice (some ⟨gb, 0, none⟩) nl cl) rfl (by kernel_rfl) (by kernel_rfl) (by kernel_rfl) (by kernel_rfl) (by kernel_rfl) (fun _ _ _ h => h) (Or.inl ⟨by rfl, fun w hSw => by have c := Kept.cellOf hSw cC (by simp); go_simp⟩) h0 ?_
  try simp only [zk1, zk2, zk3, zk4, zk5, zk6, zk7, zk8]
  refine wpAnyL_free (i := 4) (v := .pointer (some ⟨gb, 0, none⟩)) rfl (by kernel_rfl) (by kernel_rfl) (by kernel_rfl) (fun _ _ _ h => h) (Or.inl ⟨by rfl, fun w _ => by go_simp⟩) ?_
  try simp only [zk1, zk2, zk3, zk4, zk5, zk6, zk7, zk8]
  refine wpAnyL_take (i := 5) (v := .agg (bys q).toArray) rfl (by kernel_rfl) (by kernel_rfl) (by kernel_rfl) (by kernel_rfl) (by kernel_rfl) (fun _ _ _ h => h) (yieldsIf_load_mid (by rfl) _ _ rfl gb (0) rfl (bys q) _ (fun W h => fun jj u hu => Kept.cellOf h (hrq jj u hu) (by simp)) Tryz.underlying25 rfl hql) h0 ?_
  try simp only [zk1, zk2, zk3, zk4, zk5, zk6, zk7, zk8]
  refine wpAnyL_free (i := 6) (v := .slice none 0 0) rfl (by kernel_rfl) (by kernel_rfl) (by kernel_rfl) (fun _ _ _ h => h) (Or.inl ⟨by rfl, fun w _ => by go_simp⟩) ?_
  try simp only [zk1, zk2, zk3, zk4, zk5, zk6, zk7, zk8]
  refine wpAnyL_free (i := 7) (v := .int .i64 102) rfl (by kernel_rfl) (by kernel_rfl) (by kernel_rfl) (fun _ _ _ h => h) (Or.inl ⟨by rfl, fun w _ => by go_simp⟩) ?_
  try simp only [zk1, zk2, zk3, zk4, zk5, zk6, zk7, zk8]
  have hth : v0.there Z 0 32 := there_rowT ((h0.block Z (Array.getElem?_eq_some_iff.1 HZ.out).1 (by simp)).trans HZ.out) 0 32 (by simp [z32, bys_length])
  refine wpAnyL_one (i := 8) (by kernel_rfl) rfl (fun K' hK => ?_)
  rw [if_pos (by rfl)]
  refine wp_store_mid 25 (.tmp 6) (.tmp 63) rfl Z 0 (bys q).toArray rfl rfl (by rw [hsz]; exact hth) (by rw [List.size_toArray]; exact hql) (bys_allT q) ?_
  refine hK.out _ _ (fun _ h => by cases h) ?_
  clear hK K'
  try simp only [zk1, zk2, zk3, zk4, zk5, zk6, zk7, zk8]
  refine wpAnyL_done (by kernel_rfl) ?_ _
  clear cC
  have hrowZ : v0.heap[Z]? = some (.cells (bys z32).toArray 25 (0, 0)) := (h0.block Z (Array.getElem?_eq_some_iff.1 HZ.out).1 (by simp)).trans HZ.out
  have hks : Kept [Z] v0 (v0.setCells Z 0 (bys q)) := kept_setCellsT (fun _ => by simp) _ _ _ (Kept.refl [Z] v0)
  have hnew : (v0.setCells Z 0 (bys q)).heap[Z]? = some (.cells (bys q).toArray 25 (0, 0)) := by
   rw [setCells_rowT _ _ _ _ _ _ hrowZ (by simp [z32, bys_length, hq]), setRow_heap _ _ _ _ _ _ hrowZ]
   simp [z32, bys_length, hq]
  have HKE : Hid (Kept [] w (v0.setCells Z 0 (bys q))) := hide ((HK3.out.trans h0 (by simp)).trans hks (fun j hj hlt => by have h9 := HZW.out; have : j = Z := (by simpa using hj); omega))
  clear hks hrowZ h0 hth hrq
  generalize v0.setCells Z 0 (bys q) = w9 at HKE hnew ⊢
  go_wp2
  refine ret_two_row rfl rfl Z 25 (bys q).toArray (0, 0) _ rfl hnew Tryz.underlying25 rfl (by rw [List.size_toArray]; exact hql) ?_
  exact ⟨_, _, q, rfl, HKE.out, hq, .inr (.inl ⟨102, q, HN1.out, by unfold pk9; rw [if_neg (by rw [HB0.out]; simp), if_neg (by rw [HD0.out]; simp), if_pos (by intro h; have := HNl.out; rw [h] at this; simp at this; omega), HQE.out], rfl, rfl, rfl⟩)⟩
 have hl0 : rr.2.1.lacks = [] := List.eq_nil_of_length_eq_zero (by have := HNl.out; omega)
 have HL0 := hide hl0
 have hnl0 : ¬ (0 : Int) < (nl : Int) := by omega
 clear hlp hl0
 have hrowZ := HZ.out
 have hzsz : (bys z32).toArray.size = (bys z32).toArray.size := rfl
 have hzi : (Tryz.prog.info? 25).map (·.size) = some (bys z32).toArray.size := by rw [List.size_toArray]; exact idl z32 rfl
 have hall := bys_allT z32
 have hks : Kept [Z] w3 (w3.setRow Z (bys z32).toArray) := kept_rowK (Kept.refl [Z] w3) (fun _ => by simp) _
 have hnew := setRow_heap w3 Z _ (bys z32).toArray 25 (0, 0) hrowZ
 have HKE : Hid (Kept [] w (w3.setRow Z (bys z32).toArray)) := hide (HK3.out.trans hks (fun j hj hlt => by have h9 := HZW.out; have : j = Z := (by simpa using hj); omega))
 have HOE : Hid (OwnI (w3.setRow Z (bys z32).toArray) w.heap.size vn rr.2.1.need) := hide (by
  have h := HW3.out.n.1
  exact ⟨own_base9 (h.kept hks (fun k hk hm => by have h1 := own_far9 h.1 k hk; have h2 := HZW.out; have : k = Z := (by simpa using hm); omega)).1 (by have h2 := HZW.out; omega), h.2⟩)
 clear hks
 go_wp2_with (refine wpList_store_rowTo rfl 25 (.tmp 6) (.tmp 68) rfl rfl Z (bys z32).toArray rfl rfl 25 (bys z32).toArray hrowZ hzi rfl hall ?_)
 refine ret_two_row rfl rfl Z 25 (bys z32).toArray (0, 0) _ rfl hnew Tryz.underlying25 rfl hzi ?_
 exact ⟨_, _, z32, rfl, HKE.out, rfl, .inr (.inr ⟨HN1.out, by unfold pk9; rw [if_neg (by rw [HB0.out]; simp), if_neg (by rw [HD0.out]; simp), if_neg (by rw [HL0.out]; simp)], HOE.out, rfl, rfl⟩)⟩
set_option maxHeartbeats 6400000 in
set_option maxRecDepth 100000 in
theorem rlacks9_ok {w : World} {si sd sc : Value} {I : List (List UInt8)} {D : List Value} {C : List Int} {f : List UInt8 → An} {cf : List UInt8 → Int} {U : List (List UInt8)} (hS : Sr9 w si sd sc I D C) (hF : Fnd9 w I D C f cf) (ra : Option Addr) (rn rc : Nat) (RL : List Rz) (hrl : RL.length = rn) (hR : Rss w ra RL) (hn : I.length ≤ 4611686018427387904)
  (hUR : ∀ q ∈ RL.map (·.root), q ∈ U) (hUE : ∀ i xs E, f i = .data xs → Tn.parse xs = some E → ∀ e ∈ E, e.id ∈ U) (hUl : (U.length + 2) * 32 ≤ 140737488355328) (hrm : rn ≤ 4611686018427387904) :
  Calls Tryz.prog 22 #[.agg #[si, sd, sc], .slice ra rn rc] w fun e w' => ∃ v c i, e = .returned (.tuple #[v, .int .i64 c, .agg (bys i).toArray]) ∧ Kept [] w w' ∧ i.length = 32 ∧ LkE9 w' w.heap.size cf (refW f (RL.map (·.root))) v c i := by
 obtain ⟨S, hSS⟩ : ∃ r, r = w.heap.size := ⟨_, rfl⟩
 obtain ⟨Z, hZ⟩ : ∃ r, r = w.heap.size + 1 := ⟨_, rfl⟩
 obtain ⟨w1, hw1⟩ : ∃ r, r = (w.alloc (.cells #[si, sd, sc] 39)).alloc (.cells zeroI 25) := ⟨_, rfl⟩
 have h1 := heap_alloc2_old w (.cells #[si, sd, sc] 39) (.cells zeroI 25)
 have h2 := heap_alloc2_new w (.cells #[si, sd, sc] 39) (.cells zeroI 25)
 have hk0 : Kept [] w w1 := by rw [hw1]; exact ((Kept.refl [] w).alloc _).alloc _
 have hs1 : w1.heap.size = w.heap.size + 2 := by rw [hw1]; show ((w.heap.push _).push _).size = _; simp
 rw [← hSS, ← hw1] at h1
 rw [← hZ, ← hw1] at h2
 have HZW : Hid (w.heap.size ≤ Z ∧ Z < w1.heap.size ∧ w.heap.size ≤ w1.heap.size) := hide ⟨by omega, by omega, by omega⟩
 have HZ1 : Hid (w1.heap[Z]? = some (.cells (bys z32).toArray 25 (0, 0))) := hide h2
 have hro := rounds9_ok (hS.kept hk0) (hF.kept hk0) ra rn rc RL hrl (hR.kept hk0 (fun _ _ _ => by simp)) hn hUR hUE hUl hrm
 obtain ⟨rr, hrr⟩ : ∃ r, refW f (RL.map (·.root)) = r := ⟨_, rfl⟩
 rw [hrr] at hro
 rw [hrr]
 clear hrr
 have HF0 := hide hF
 have HK0 := hide hk0
 have hial : (Tryz.prog.info? 39).map (·.size) = some [si, sd, sc].length := Tryz.infoSr9
 have hzi0 := Tryz.zeroId
 have hrowS : w1.rangeAt S 0 [si, sd, sc] := row_rangeK h1
 clear hS hF h1 h2 hk0 hs1 hrl hR hUR hUE hUl
 go_enter Tryz.func22, Tryz.ntmps22
 go_upto_region 1 with (fail)
 rw [← hZ, ← hSS, ← hw1]
 clear hSS hZ hw1 hzi0
 go_upto_region 2 with (first
  | refine wpList_load_mid rfl 39 (.tmp 2) rfl S 0 rfl [si, sd, sc] _ hrowS Tryz.underlying39 rfl hial ?_
  | (go_at_call 30; refine hro.mono ?_; rintro e w3 ⟨g, rfl, hR9, hk9⟩; have HR9 := hide hR9; have HK13 := hide hk9; have HK3 := hide (HK0.out.trans hk9 (by simp)); clear hro hR9 hk9))
 obtain ⟨va, vn, vb, vd, vl, dp, cd, ci, hw3, hro9⟩ := HR9.out
 have HW3 := hide hw3
 have HRO := hide hro9
 have HZ : Hid (w3.heap[Z]? = some (.cells (bys z32).toArray 25 (0, 0))) := hide ((HK13.out.block Z HZW.out.2.1 (by simp)).trans HZ1.out)
 clear hw3 hro9 HR9 HZ1 hrowS
 rcases HRO.out with ⟨hn1, rfl, rfl, rfl⟩ | ⟨q, hn1, hcd, hci, hfq⟩
 rotate_left
 ·as_aux_lemma =>
  have hc0 : (cd != 0) = true := by have h := (HF0.out.fail q hfq).2.1; rw [hcd]; simpa using h
  have hq : q.length = 32 := by rw [← hci]; exact HW3.out.cil
  have hql := idl q hq
  have hsz : (bys q).toArray.size = 32 := by simp [bys_length, hq]
  have hrq : w3.rangeAt g 6 (bys q) := by rw [← hci]; exact HW3.out.cid
  have HC := hide (And.intro hn1 hcd)
  have c5 := HW3.out.cc
  clear hn1 hcd hci hfq
  go_upto_region 3 with (fail)
  have cC := HW3.out.cc
  refine wp_region_late (fun w' => Kept [] w3 w') (fun i => i == 10) (by kernel_rfl) ?_
  have h0 : Kept [] w3 w3.drew := (Kept.refl [] w3).drew
  generalize World.drew w3 = v0 at h0 ⊢
  refine wpAnyL_free (i := 0) (v := .pointer (some ⟨g, 0, none⟩)) rfl (by kernel_rfl) (by kernel_rfl) (by kernel_rfl) (fun _ _ _ h => h) (Or.inl ⟨by rfl, fun w _ => by go_simp⟩) ?_
  try simp only [zk1, zk2, zk3, zk4, zk5, zk6, zk7, zk8]
  refine wpAnyL_free (i := 1) (v := .pointer (some ⟨g, 0, none⟩)) rfl (by kernel_rfl) (by kernel_rfl) (by kernel_rfl) (fun _ _ _ h => h) (Or.inl ⟨by rfl, fun w _ => by go_simp⟩) ?_
  try simp only [zk1, zk2, zk3, zk4, zk5, zk6, zk7, zk8]
  refine wpAnyL_free (i := 2) (v := .pointer (some ⟨g, 5, none⟩)) rfl (by kernel_rfl) (by kernel_rfl) (by kernel_rfl) (fun _ _ _ h => h) (Or.inl ⟨by rfl, fun w _ => by go_simp⟩) ?_
  try simp only [zk1, zk2, zk3, zk4, zk5, zk6, zk7, zk8]
  refine wpAnyL_take (i := 3) (v := .int .i64 cd) rfl (by kernel_rfl) (by kernel_rfl) (by kernel_rfl) (by kernel_rfl) (by kernel_rfl) (fun _ _ _ h => h) (Or.inl ⟨by rfl, fun w hSw => by have c := Kept.cellOf hSw cC (by simp); go_simp⟩) h0 ?_
  try simp only [zk1, zk2, zk3, zk4, zk5, zk6, zk7, zk8]
  refine wpAnyL_free (i := 4) (v := .pointer (some ⟨g, 0, none⟩)) rfl (by kernel_rfl) (by kernel_rfl) (by kernel_rfl) (fun _ _ _ h => h) (Or.inl ⟨by rfl, fun w _ => by go_simp⟩) ?_
  try simp only [zk1, zk2, zk3, zk4, zk5, zk6, zk7, zk8]
  refine wpAnyL_free (i := 5) (v := .pointer (some ⟨g, 0, none⟩)) rfl (by kernel_rfl) (by kernel_rfl) (by kernel_rfl) (fun _ _ _ h => h) (Or.inl ⟨by rfl, fun w _ => by go_simp⟩) ?_
  try simp only [zk1, zk2, zk3, zk4, zk5, zk6, zk7, zk8]
  refine wpAnyL_free (i := 6) (v := .pointer (some ⟨g, 6, none⟩)) rfl (by kernel_rfl) (by kernel_rfl) (by kernel_rfl) (fun _ _ _ h => h) (Or.inl ⟨by rfl, fun w _ => by go_simp⟩) ?_
  try simp only [zk1, zk2, zk3, zk4, zk5, zk6, zk7, zk8]
  refine wpAnyL_take (i := 7) (v := .agg (bys q).toArray) rfl (by kernel_rfl) (by kernel_rfl) (by kernel_rfl) (by kernel_rfl) (by kernel_rfl) (fun _ _ _ h => h) (yieldsIf_load_mid (by rfl) _ _ rfl g (6) rfl (bys q) _ (fun W h => fun jj u hu => Kept.cellOf h (hrq jj u hu) (by simp)) Tryz.underlying25 rfl hql) h0 ?_
  try simp only [zk1, zk2, zk3, zk4, zk5, zk6, zk7, zk8]
  refine wpAnyL_free (i := 8) (v := .slice none 0 0) rfl (by kernel_rfl) (by kernel_rfl) (by kernel_rfl) (fun _ _ _ h => h) (Or.inl ⟨by rfl, fun w _ => by go_simp⟩) ?_
  try simp only [zk1, zk2, zk3, zk4, zk5, zk6, zk7, zk8]
  refine wpAnyL_free (i := 9) (v := .int .i64 cd) rfl (by kernel_rfl) (by kernel_rfl) (by kernel_rfl) (fun _ _ _ h => h) (Or.inl ⟨by rfl, fun w _ => by go_simp⟩) ?_
  try simp only [zk1, zk2, zk3, zk4, zk5, zk6, zk7, zk8]
  have hth : v0.there Z 0 32 := there_rowT ((h0.block Z (Array.getElem?_eq_some_iff.1 HZ.out).1 (by simp)).trans HZ.out) 0 32 (by simp [z32, bys_length])
  refine wpAnyL_one (i := 10) (by kernel_rfl) rfl (fun K' hK => ?_)
  rw [if_pos (by rfl)]
  refine wp_store_mid 25 (.tmp 6) (.tmp 23) rfl Z 0 (bys q).toArray rfl rfl (by rw [hsz]; exact hth) (by rw [List.size_toArray]; exact hql) (bys_allT q) ?_
  refine hK.out _ _ (fun _ h => by cases h) ?_
  clear hK K'
  try simp only [zk1, zk2, zk3, zk4, zk5, zk6, zk7, zk8]
  refine wpAnyL_done (by kernel_rfl) ?_ _
  clear cC
  have hrowZ : v0.heap[Z]? = some (.cells (bys z32).toArray 25 (0, 0)) := (h0.block Z (Array.getElem?_eq_some_iff.1 HZ.out).1 (by simp)).trans HZ.out
  have hks : Kept [Z] v0 (v0.setCells Z 0 (bys q)) := kept_setCellsT (fun _ => by simp) _ _ _ (Kept.refl [Z] v0)
  have hnew : (v0.setCells Z 0 (bys q)).heap[Z]? = some (.cells (bys q).toArray 25 (0, 0)) := by
   rw [setCells_rowT _ _ _ _ _ _ hrowZ (by simp [z32, bys_length, hq]), setRow_heap _ _ _ _ _ _ hrowZ]
   simp [z32, bys_length, hq]
  have HKE : Hid (Kept [] w (v0.setCells Z 0 (bys q))) := hide ((HK3.out.trans h0 (by simp)).trans hks (fun j hj hlt => by have h9 := HZW.out; have : j = Z := (by simpa using hj); omega))
  clear hks hrowZ h0 hth hrq
  generalize v0.setCells Z 0 (bys q) = w9 at HKE hnew ⊢
  go_wp2
  refine ret_two_row rfl rfl Z 25 (bys q).toArray (0, 0) _ rfl hnew Tryz.underlying25 rfl (by rw [List.size_toArray]; exact hql) ?_
  exact ⟨_, _, q, rfl, HKE.out, hq, .inl ⟨q, HC.out.1, rfl, HC.out.2, rfl⟩⟩
 have HN1 := hide hn1
 clear hn1
 have c5 := HW3.out.cc
 have c4 := HW3.out.cl
 have hrowZ := HZ.out
 have hzsz : (bys z32).toArray.size = (bys z32).toArray.size := rfl
 have hzi : (Tryz.prog.info? 25).map (·.size) = some (bys z32).toArray.size := by rw [List.size_toArray]; exact idl z32 rfl
 have hall := bys_allT z32
 have hks : Kept [Z] w3 (w3.setRow Z (bys z32).toArray) := kept_rowK (Kept.refl [Z] w3) (fun _ => by simp) _
 have hnew := setRow_heap w3 Z _ (bys z32).toArray 25 (0, 0) hrowZ
 have HKE : Hid (Kept [] w (w3.setRow Z (bys z32).toArray)) := hide (HK3.out.trans hks (fun j hj hlt => by have h9 := HZW.out; have : j = Z := (by simpa using hj); omega))
 have HOE : Hid (OwnI (w3.setRow Z (bys z32).toArray) w.heap.size vl rr.2.1.lacks) := hide (by
  have h := HW3.out.l.1
  exact ⟨own_base9 (h.kept hks (fun k hk hm => by have h1 := own_far9 h.1 k hk; have h2 := HZW.out; have : k = Z := (by simpa using hm); omega)).1 (by have h2 := HZW.out; omega), h.2⟩)
 clear hks
 go_wp2_with (refine wpList_store_rowTo rfl 25 (.tmp 6) (.tmp 28) rfl rfl Z (bys z32).toArray rfl rfl 25 (bys z32).toArray hrowZ hzi rfl hall ?_)
 refine ret_two_row rfl rfl Z 25 (bys z32).toArray (0, 0) _ rfl hnew Tryz.underlying25 rfl hzi ?_
 exact ⟨_, _, z32, rfl, HKE.out, rfl, .inr ⟨HN1.out, HOE.out, rfl, rfl⟩⟩
end

section
open Go.RowKit Go.Lib Go.Sort
set_option linter.unusedVariables false
set_option linter.unusedSimpArgs false
set_option maxHeartbeats 3200000 in
set_option maxRecDepth 100000 in
theorem plain9b_ok (ao : Option Addr) (n cap : Nat) (L : List It9) (w : World) (hits : ItsAt w ao L) (hlen : L.length = n) (hn : n ≤ 4611686018427387904) :
  Calls Tryz.prog 14 #[.slice ao n cap] w fun e w' => ∃ vi vd vc, e = .returned (.agg #[vi, vd, vc]) ∧ Src9 w w' L vi vd vc := by
 have HL := hide hits
 have HN := hide hlen
 have hz := Tryz.zeroSr9
 obtain ⟨BR, hBR⟩ : ∃ r, r = w.heap.size := ⟨_, rfl⟩
 obtain ⟨BS, hBS⟩ : ∃ r, r = w.heap.size + 1 := ⟨_, rfl⟩
 have g1 := heap_alloc2_old w (.cells zeroS 39) (.cells zeroS 39)
 have g2 := heap_alloc2_new w (.cells zeroS 39) (.cells zeroS 39)
 have hk0 : Kept [] w ((w.alloc (.cells zeroS 39)).alloc (.cells zeroS 39)) := ((Kept.refl [] w).alloc _).alloc _
 rw [← hBR] at g1
 rw [← hBS] at g2
 have HKW := hide hk0
 have HZ := hide (And.intro g1 g2)
 have HBN : Hid (BS = w.heap.size + 1 ∧ BR = w.heap.size) := hide ⟨hBS, hBR⟩
 have HBW : Hid (BS < ((w.alloc (.cells zeroS 39)).alloc (.cells zeroS 39)).heap.size) := hide (Array.getElem?_eq_some_iff.1 g2).1
 clear hits hlen hk0 g1 g2
 go_enter Tryz.func14, Tryz.ntmps14
 go_upto_region 3 with (fail)
 rw [← hBS, ← hBR]
 clear hBS hBR hz
 generalize (w.alloc _).alloc _ = w2 at HKW HZ HBW ⊢
 go_wp2
 go_loopw [4, 5] (fun x y wr => ∃ (k : Nat) (oo : Option Addr) (on oc : Nat), k ≤ n ∧ x = .slice oo on oc ∧ y = .int .i64 k ∧ Hid (OwnI wr w2.heap.size (.slice oo on oc) (canon ((L.take k).map (·.id))) ∧ Kept [] w2 wr ∧ k ≤ 60)) (fun x y wr => n - (intOf y).toNat)
 case atStart => exact ⟨0, none, 0, 0, by omega, rfl, rfl, hide ⟨⟨World.ownsRow_nil _ _ _ _, fun i hi => absurd (mem_canon.1 hi) (by simp)⟩, Kept.refl _ _, by omega⟩⟩
 case round =>
  obtain ⟨k, oo, on, oc, hk, rfl, rfl, HI⟩ := hrel
  have hk60 := HI.out.2.2
  go_upto_region 4 with (fail)
  go_cut [15] from 8 to 24 (fun y wx => ∃ bb : Bool, y = .bool bb ∧ Hid (bb = decide (k < n ∧ k < 60)) ∧ wx = wr)
  case first =>
   by_cases h1 : k < n
   ·by_cases h2 : k < 60
    ·have g1 : (k : Int) < (n : Int) := by omega
     have g2 : (k : Int) < 60 := by omega
     go_wp2
     go_meet
     case rel => exact ⟨true, rfl, hide (by simp [h1, h2]), rfl⟩
    ·have g1 : (k : Int) < (n : Int) := by omega
     have g2 : ¬ (k : Int) < 60 := by omega
     go_wp2
     go_meet
     case rel => exact ⟨false, rfl, hide (by simp [h2]), rfl⟩
   ·have g1 : ¬ (k : Int) < (n : Int) := by omega
    go_wp2
    go_meet
    case rel => exact ⟨false, rfl, hide (by simp [h1]), rfl⟩
  case rest =>
   obtain ⟨bb, rfl, HBB, hwc⟩ := hcut
   obtain rfl := hwc.symm
   cases bb with
   | true =>
    have hc : k < n ∧ k < 60 := by simpa using HBB.out.symm
    have hkl : k < L.length := by rw [HN.out]; exact hc.1
    obtain ⟨⟨b, off, hab, hcells⟩, _⟩ := HL.out k hkl
    subst hab
    have hpa := it_at (w := wr) (fun jj u hu => (HKW.out.trans HI.out.2.1 (by simp)).cellOf (hcells jj u hu) (by simp))
    obtain ⟨x, hxi⟩ : ∃ y, (L.getD k it0).id = y := ⟨_, rfl⟩
    have hx : x.length = 32 := by rw [← hxi]; exact (L.getD k it0).hi
    have HTK : Hid (canon ((L.take (k + 1)).map (·.id)) = wth (canon ((L.take k).map (·.id))) x) := hide (by
     have e : L[k].id = x := by rw [← hxi]; simp [List.getElem?_eq_getElem hkl]
     rw [List.take_succ_eq_append_getElem hkl, List.map_append]
     unfold canon
     rw [List.foldl_append]
     simp only [List.map_cons, List.map_nil, List.foldl_cons, List.foldl_nil]
     rw [e])
    rw [hxi] at hpa
    have hrx := hpa.1
    have hxl := idl x hx
    have hcl : (canon ((L.take k).map (·.id))).length ≤ 60 := by
     have h1 := canon_len ((L.take k).map (·.id))
     rw [List.length_map, List.length_take] at h1
     omega
    have hwi := with9_ok w2.heap.size oo on oc _ x wr HI.out.1 HI.out.2.1.size (up_canon _) hx (by omega)
    have HIK := hide HI.out.2.1
    have hc1 : k < 60 := hc.2
    have hc2 : k < n := hc.1
    clear hpa hcells hxi hkl HBB HI hcl hc
    go_wp2_with (first
     | refine wpList_load_mid rfl 25 (.tmp 22) rfl b (off + k * 35) rfl (bys x) _ hrx Tryz.underlying25 rfl hxl ?_
     | (go_at_call 33; refine hwi.mono ?_; rintro e w9 ⟨v, rfl, hov, hk9⟩; obtain ⟨q1, q2, hvv, hcc⟩ := own_shape hov.1; obtain ⟨n9, hn9⟩ : ∃ n9, (wth (canon ((L.take k).map (·.id))) x).length = n9 := ⟨_, rfl⟩; rw [hn9] at hvv; subst hvv; have H9 := hide (And.intro hov (HIK.out.trans hk9 (by simp))); clear hwi hov hk9 hcc hn9))
    go_roundw
    case rel => exact ⟨k + 1, _, _, _, by omega, rfl, by go_num, hide ⟨by rw [HTK.out]; exact H9.out.1, H9.out.2, by omega⟩⟩
    case measure => simp [intOf]; omega
   | false =>
    have hc : ¬ (k < n ∧ k < 60) := by simpa using HBB.out.symm
    have HTK : Hid (canon ((L.take 60).map (·.id)) = canon ((L.take k).map (·.id))) := hide (by
     by_cases h60 : k = 60
     ·rw [h60]
     ·have : n ≤ k := by omega
      rw [List.take_of_length_le (by have := HN.out; omega), List.take_of_length_le (by have := HN.out; omega)])
    obtain ⟨K, hK⟩ : ∃ K, canon ((L.take k).map (·.id)) = K := ⟨_, rfl⟩
    have HKE : Hid (canon ((L.take 60).map (·.id)) = K) := hide (by rw [HTK.out, hK])
    have HO := hide HI.out.1
    rw [hK] at HO
    have HM : Hid (K.length = on) := hide HO.out.ids.2.1.symm
    have HKW2 := hide HI.out.2.1
    have hm60 : on ≤ 60 := by
     rw [← HM.out, ← HKE.out]
     exact ids9_len L
    have HBS3 : Hid (wr.heap[BS]? = some (.cells zeroS 39 (0, 0)) ∧ wr.heap[BR]? = some (.cells zeroS 39 (0, 0))) := hide ⟨by rw [HKW2.out.block BS (Array.getElem?_eq_some_iff.1 HZ.out.2).1 (by simp)]; exact HZ.out.2, by rw [HKW2.out.block BR (Array.getElem?_eq_some_iff.1 HZ.out.1).1 (by simp)]; exact HZ.out.1⟩
    clear HTK hc hK HBB hk60 HI
    obtain ⟨w3, rfl⟩ : ∃ w3, w3 = wr := ⟨_, rfl⟩
    obtain ⟨cK, rfl⟩ : ∃ cK, cK = oc := ⟨_, rfl⟩
    obtain ⟨m, rfl⟩ : ∃ m, m = on := ⟨_, rfl⟩
    have HW3 := hide (HKW.out.trans HKW2.out (by simp))
    have HON : Hid (∀ g o, oo = some ⟨g, o, none⟩ → g ≠ BS) := hide (fun g o e => by
     subst e
     rcases HO.out.1.2 with ⟨e, _⟩ | ⟨g2, c2, cur, e, hb, _⟩
     ·cases e
     ·injection e with e
      injection e with e
      injection e with e _ _
      have := HBW.out
      omega)
    have HBR := hide HBS3.out.2
    have HP0 : Hid (Ps9 w3 w3 BS (.slice none 0 0) (.slice none 0 0) (.slice none 0 0) [] [] []) := hide ⟨HBS3.out.1, ⟨World.ownsRow_nil _ _ _ _, by simp⟩, World.ownsRow_nil _ _ _ _, World.ownsRow_nil _ _ _ _, Kept.refl _ _, (Array.getElem?_eq_some_iff.1 HBS3.out.1).1⟩
    have HOK : Hid (OwnI w3 w2.heap.size (.slice oo m cK) K) := HO
    clear HO HBS3 HKW HKW2
    have HKW := HW3
    clear HW3
    go_wp2
    go_loopw [6] (fun y wr => ∃ j : Nat, j ≤ m ∧ y = .int .i64 j ∧ Hid (∃ vi vd vc, Ps9 w3 wr BS vi vd vc (K.take j) (dat9 L (K.take j)) (cod9 L (K.take j)))) (fun y wr => m - (intOf y).toNat)
    case atStart => exact ⟨0, by omega, rfl, hide ⟨_, _, _, HP0.out⟩⟩
    case round =>
     clear HP0
     obtain ⟨j, hj, rfl, HI⟩ := hrel
     by_cases hlt : j < m
     ·have hjl : j < K.length := by rw [HM.out]; exact hlt
      obtain ⟨vi, vd, vc, hps⟩ := HI.out
      have HP := hide hps
      have HJL : Hid ((K.take j).length = j) := hide (by rw [List.length_take]; omega)
      have HJD : Hid ((dat9 L (K.take j)).length = j) := hide (by unfold dat9; rw [List.length_map, List.length_take]; omega)
      have HJC : Hid ((cod9 L (K.take j)).length = j) := hide (by unfold cod9; rw [List.length_map, List.length_take]; omega)
      have HTK : Hid (K.take (j + 1) = K.take j ++ [K.getD j []]) := hide (by rw [List.take_succ_eq_append_getElem hjl, List.getD_eq_getElem?_getD, List.getElem?_eq_getElem hjl]; rfl)
      have HQM : Hid (K.getD j [] ∈ (L.take 60).map (·.id)) := hide (mem_canon.1 (by rw [HKE.out]; exact gmem9 hjl))
      have hq : (K.getD j []).length = 32 := HOK.out.2 _ (gmem9 hjl)
      obtain ⟨g3, o3, hao, hrq3⟩ := HOK.out.ids.1.1 j hjl
      subst hao
      have HNQ : Hid (g3 ≠ BS) := hide (fun e => HON.out g3 o3 rfl e)
      obtain ⟨q, hqe⟩ : ∃ q, K.getD j [] = q := ⟨_, rfl⟩
      rw [hqe] at hrq3 hq HTK HQM
      have HRQ := hide hrq3
      have hql := idl q hq
      have hltj1 : (j : Int) < (m : Int) := by omega
      clear hps HI hrq3 hqe hjl
      go_wp2
      obtain ⟨wo, rfl⟩ : ∃ wo, wo = wr := ⟨_, rfl⟩
      go_loopw [7] (fun y wx => ∃ k : Nat, k ≤ n ∧ y = .int .i64 k ∧ Hid (Kept [] wo wx ∧ ∀ z, z < k → (L.getD z it0).id ≠ q)) (fun y wx => n - (intOf y).toNat)
      case atStart => exact ⟨0, by omega, rfl, hide ⟨Kept.refl _ _, fun z hz => by omega⟩⟩
      case round =>
       obtain ⟨k, hk, rfl, HC⟩ := hrel
       by_cases hltk : k < n
       ·have hkl : k < L.length := by rw [HN.out]; exact hltk
        obtain ⟨⟨b, off, hab, hcells⟩, _⟩ := HL.out k hkl
        subst hab
        obtain ⟨it, hit⟩ : ∃ it, L.getD k it0 = it := ⟨_, rfl⟩
        rw [hit] at hcells
        have HNB : Hid (b ≠ BS) := hide (fun e => by
         have h2 := World.block_lt_of_cell? _ _ (hcells 0 _ (List.getElem?_eq_getElem (by rw [It9.len]; omega)))
         have := HBN.out
         simp only at h2
         omega)
        have hc3 : w3.rangeAt b (off + k * 35) it.cells := fun jj u hu => HKW.out.cellOf (hcells jj u hu) (by simp)
        obtain ⟨xa, hxa⟩ : ∃ y, it.ao = y := ⟨_, rfl⟩
        obtain ⟨xn, hxn⟩ : ∃ y, it.n = y := ⟨_, rfl⟩
        obtain ⟨xc, hxc⟩ : ∃ y, it.cap = y := ⟨_, rfl⟩
        obtain ⟨xcd, hxcd⟩ : ∃ y, it.code = y := ⟨_, rfl⟩
        obtain ⟨x, hxi⟩ : ∃ y, it.id = y := ⟨_, rfl⟩
        have hx : x.length = 32 := by rw [← hxi]; exact it.hi
        have HIT : Hid (L.getD k it0 = it ∧ it.id = x ∧ it.dv = .slice xa xn xc ∧ it.code = xcd) := hide ⟨hit, hxi, by rw [← hxa, ← hxn, ← hxc]; rfl, hxcd⟩
        have hpa := it_at hc3
        rw [HIT.out.2.1, HIT.out.2.2.1, HIT.out.2.2.2] at hpa
        have HRI : Hid (w3.cell? ⟨b, off + k * 35 + 32, none⟩ = some (.slice xa xn xc) ∧ w3.cell? ⟨b, off + k * 35 + 33, none⟩ = some (.int .i64 xcd)) := hide ⟨hpa.2.1, hpa.2.2.1⟩
        have HXW : Hid (Kept [BS] w3 wr) := hide (HP.out.kp.trans HC.out.1 (by simp))
        have hrx : wr.rangeAt b (off + k * 35) (bys x) := fun jj u hu => HXW.out.cellOf (hpa.1 jj u hu) (by simpa using HNB.out)
        have hrq : wr.rangeAt g3 (o3 + j * 32) (bys q) := fun jj u hu => HXW.out.cellOf (HRQ.out jj u hu) (by simpa using HNQ.out)
        have hxl := idl x hx
        have heqx : ∀ W, (Op.equalIn 10000 25 (.agg (bys x).toArray) (.agg (bys q).toArray)).run Tryz.prog W = .ok (decide (x = q)) W := fun W => Tryz.eqlID x q hx hq W
        have hltk1 : (k : Int) < (n : Int) := by omega
        clear hit hcells hc3 hxa hxn hxc hxcd hxi hpa hkl
        by_cases hxy : x = q
        ·have heq : ∀ W, (Op.equalIn 10000 25 (.agg (bys x).toArray) (.agg (bys q).toArray)).run Tryz.prog W = .ok true W := fun W => by rw [heqx W, decide_eq_true hxy]
         have HE : Hid (x = q) := hide hxy
         clear heqx hxy
         as_aux_lemma =>
         go_upto_region 13 with (fail)
         refine wp_region_held_drew (S := fun w' => Kept [] wr w') (by kernel_rfl) ((Kept.refl [] wr).drew) (fun h0 => ?_)
         generalize World.drew wr = v0 at h0  ⊢
         refine wpAnyH_take (i := 0) (v := .slice (some ⟨b, off, none⟩) n cap) rfl (by kernel_rfl) (by kernel_rfl) (by kernel_rfl) (fun _ _ _ h => h) (Or.inl ⟨by rfl, fun w hSw => by go_simp⟩) h0 ?_
         try simp only [zk1, zk2, zk3, zk4, zk5, zk6, zk7, zk8]
         refine wpAnyH_take (i := 1) (v := .int .i64 k) rfl (by kernel_rfl) (by kernel_rfl) (by kernel_rfl) (fun _ _ _ h => h) (Or.inl ⟨by rfl, fun w hSw => by go_simp⟩) h0 ?_
         try simp only [zk1, zk2, zk3, zk4, zk5, zk6, zk7, zk8]
         refine wpAnyH_take (i := 2) (v := .pointer (some ⟨b, off + k * 35, none⟩)) rfl (by kernel_rfl) (by kernel_rfl) (by kernel_rfl) (fun _ _ _ h => h) (Or.inl ⟨by rfl, fun w hSw => by go_simp⟩) h0 ?_
         try simp only [zk1, zk2, zk3, zk4, zk5, zk6, zk7, zk8]
         refine wpAnyH_take (i := 3) (v := .pointer (some ⟨b, off + k * 35, none⟩)) rfl (by kernel_rfl) (by kernel_rfl) (by kernel_rfl) (fun _ _ _ h => h) (Or.inl ⟨by rfl, fun w hSw => by go_simp⟩) h0 ?_
         try simp only [zk1, zk2, zk3, zk4, zk5, zk6, zk7, zk8]
         refine wpAnyH_take (i := 4) (v := .agg (bys x).toArray) rfl (by kernel_rfl) (by kernel_rfl) (by kernel_rfl) (fun _ _ _ h => h) (yieldsIf_load_mid (by rfl) _ _ rfl b (off + k * 35) rfl (bys x) _ (fun W h => fun jj u hu => Kept.cellOf h (hrx jj u hu) (by simp)) Tryz.underlying25 rfl hxl) h0 ?_
         try simp only [zk1, zk2, zk3, zk4, zk5, zk6, zk7, zk8]
         refine wpAnyH_take (i := 5) (v := .slice (some ⟨g3, o3, none⟩) m cK) rfl (by kernel_rfl) (by kernel_rfl) (by kernel_rfl) (fun _ _ _ h => h) (Or.inl ⟨by rfl, fun w hSw => by go_simp⟩) h0 ?_
         try simp only [zk1, zk2, zk3, zk4, zk5, zk6, zk7, zk8]
         refine wpAnyH_take (i := 6) (v := .int .i64 j) rfl (by kernel_rfl) (by kernel_rfl) (by kernel_rfl) (fun _ _ _ h => h) (Or.inl ⟨by rfl, fun w hSw => by go_simp⟩) h0 ?_
         try simp only [zk1, zk2, zk3, zk4, zk5, zk6, zk7, zk8]
         refine wpAnyH_take (i := 7) (v := .pointer (some ⟨g3, o3 + j * 32, none⟩)) rfl (by kernel_rfl) (by kernel_rfl) (by kernel_rfl) (fun _ _ _ h => h) (Or.inl ⟨by rfl, fun w hSw => by go_simp⟩) h0 ?_
         try simp only [zk1, zk2, zk3, zk4, zk5, zk6, zk7, zk8]
         refine wpAnyH_take (i := 8) (v := .agg (bys q).toArray) rfl (by kernel_rfl) (by kernel_rfl) (by kernel_rfl) (fun _ _ _ h => h) (yieldsIf_load_mid (by rfl) _ _ rfl g3 (o3 + j * 32) rfl (bys q) _ (fun W h => fun jj u hu => Kept.cellOf h (hrq jj u hu) (by simp)) Tryz.underlying25 rfl hql) h0 ?_
         try simp only [zk1, zk2, zk3, zk4, zk5, zk6, zk7, zk8]
         refine wpAnyH_take (i := 9) (v := .bool true) rfl (by kernel_rfl) (by kernel_rfl) (by kernel_rfl) (fun _ _ _ h => h) (Or.inl ⟨by rfl, fun w hSw => by have c0 := heq w; go_simp⟩) h0 ?_
         try simp only [zk1, zk2, zk3, zk4, zk5, zk6, zk7, zk8]
         refine wpAnyH_done (by kernel_rfl) ?_ _
         have HFS : Hid ((fst9 L q).dv = .slice xa xn xc ∧ (fst9 L q).code = xcd) := hide (by
          have hkl : k < L.length := by rw [HN.out]; exact hltk
          have h1 := fst9_at hkl (fun y hy => by rw [HIT.out.1, HIT.out.2.1, HE.out]; exact HC.out.2 y hy)
          rw [HIT.out.1, HIT.out.2.1, HE.out] at h1
          rw [h1]
          exact HIT.out.2.2)
         clear heq hrx
         have HFK := hide (HC.out.1.trans h0 (by simp))
         have HPv9 := hide (HP.out.kept HFK.out)
         have HKQv9 : Hid (Kept [BS] w3 v0) := hide HPv9.out.kp
         clear hrq h0 HP HC HXW
         generalize v0 = v9 at HFK HPv9 HKQv9 ⊢
         go_upto_region 14 with (fail)
         have cS := (HPv9.out).cell.1
         have hrq : v9.rangeAt g3 (o3 + j * 32) (bys q) := fun jj u hu => HKQv9.out.cellOf (HRQ.out jj u hu) (by simpa using HNQ.out)
         refine wp_region_late (fun w' => Kept [] v9 w') (fun i => i == 7 || i == 9) (by kernel_rfl) ?_
         have h0 : Kept [] v9 v9.drew := (Kept.refl [] v9).drew
         generalize World.drew v9 = v0 at h0 ⊢
         refine wpAnyL_free (i := 0) (v := .pointer (some ⟨BS, 0, none⟩)) rfl (by kernel_rfl) (by kernel_rfl) (by kernel_rfl) (fun _ _ _ h => h) (Or.inl ⟨by rfl, fun w _ => by go_simp⟩) ?_
         try simp only [zk1, zk2, zk3, zk4, zk5, zk6, zk7, zk8]
         refine wpAnyL_take (i := 1) (v := vi) rfl (by kernel_rfl) (by kernel_rfl) (by kernel_rfl) (by kernel_rfl) (by kernel_rfl) (fun _ _ _ h => h) (Or.inl ⟨by rfl, fun w hSw => by have c := Kept.cellOf hSw cS (by simp); go_simp⟩) h0 ?_
         try simp only [zk1, zk2, zk3, zk4, zk5, zk6, zk7, zk8]
         refine wpAnyL_free (i := 2) (v := .slice (some ⟨g3, o3, none⟩) m cK) rfl (by kernel_rfl) (by kernel_rfl) (by kernel_rfl) (fun _ _ _ h => h) (Or.inl ⟨by rfl, fun w _ => by go_simp⟩) ?_
         try simp only [zk1, zk2, zk3, zk4, zk5, zk6, zk7, zk8]
         refine wpAnyL_free (i := 3) (v := .int .i64 j) rfl (by kernel_rfl) (by kernel_rfl) (by kernel_rfl) (fun _ _ _ h => h) (Or.inl ⟨by rfl, fun w _ => by go_simp⟩) ?_
         try simp only [zk1, zk2, zk3, zk4, zk5, zk6, zk7, zk8]
         refine wpAnyL_free (i := 4) (v := .pointer (some ⟨g3, o3 + j * 32, none⟩)) rfl (by kernel_rfl) (by kernel_rfl) (by kernel_rfl) (fun _ _ _ h => h) (Or.inl ⟨by rfl, fun w _ => by go_simp⟩) ?_
         try simp only [zk1, zk2, zk3, zk4, zk5, zk6, zk7, zk8]
         refine wpAnyL_take (i := 5) (v := .agg (bys q).toArray) rfl (by kernel_rfl) (by kernel_rfl) (by kernel_rfl) (by kernel_rfl) (by kernel_rfl) (fun _ _ _ h => h) (yieldsIf_load_mid (by rfl) _ _ rfl g3 (o3 + j * 32) rfl (bys q) _ (fun W h => fun jj u hu => Kept.cellOf h (hrq jj u hu) (by simp)) Tryz.underlying25 rfl hql) h0 ?_
         try simp only [zk1, zk2, zk3, zk4, zk5, zk6, zk7, zk8]
         obtain ⟨ga, ca, wa2, hrun, hsome, hfz, hps⟩ := ((HPv9.out).kept h0).putI q hq (by rw [HJL.out]; omega)
         obtain ⟨u0, hu0⟩ := Option.isSome_iff_exists.1 hsome
         rw [HJL.out] at hrun hps
         refine wpAnyL_one (i := 6) (by kernel_rfl) rfl (fun K' hK => ?_)
         rw [if_pos (by rfl)]
         refine wp_buildI (.tmp 52) rfl q rfl hq ?_
         refine hK.out _ _ (fun _ _ => h0.alloc _) ?_
         clear hK K'
         try simp only [zk1, zk2, zk3, zk4, zk5, zk6, zk7, zk8]
         refine wpAnyL_one (i := 7) (by kernel_rfl) rfl (fun K' hK => ?_)
         rw [if_pos (by rfl)]
         refine wp_append_run (.tmp 48) (.tmp 53) 35 35 rfl vi (.slice (some ⟨v0.heap.size, 0, none⟩) 1 1) rfl rfl _ _ hrun ?_
         refine hK.out _ _ (fun _ h => by cases h) ?_
         clear hK K' hrun
         try simp only [zk1, zk2, zk3, zk4, zk5, zk6, zk7, zk8]
         refine wpAnyL_free (i := 8) (v := .pointer (some ⟨BS, 0, none⟩)) rfl (by kernel_rfl) (by kernel_rfl) (by kernel_rfl) (fun _ _ _ h => h) (Or.inl ⟨by rfl, fun w _ => by go_simp⟩) ?_
         try simp only [zk1, zk2, zk3, zk4, zk5, zk6, zk7, zk8]
         refine wpAnyL_one (i := 9) (by kernel_rfl) rfl (fun K' hK => ?_)
         rw [if_pos (by rfl)]
         go_simp
         refine hK.out _ _ (fun _ h => by cases h) ?_
         clear hK K'
         try simp only [zk1, zk2, zk3, zk4, zk5, zk6, zk7, zk8]
         refine wpAnyL_done (by kernel_rfl) ?_ _
         have HPz14 := hide hps
         clear hps hsome hfz hu0 h0 cS hrq
         generalize wa2.setCell _ _ = z14 at HPz14 ⊢
         have HKQz14 : Hid (Kept [BS] w3 z14) := hide HPz14.out.kp
         go_upto_region 15 with (fail)
         have cS := (HPz14.out).cell.2.1
         have cI : z14.cell? ⟨b, off + k * 35 + 32, none⟩ = some (.slice xa xn xc) := HKQz14.out.cellOf HRI.out.1 (by simpa using HNB.out)
         refine wp_region_late (fun w' => Kept [] z14 w') (fun i => i == 8 || i == 10) (by kernel_rfl) ?_
         have h0 : Kept [] z14 z14.drew := (Kept.refl [] z14).drew
         generalize World.drew z14 = v0 at h0 ⊢
         refine wpAnyL_free (i := 0) (v := .pointer (some ⟨BS, 1, none⟩)) rfl (by kernel_rfl) (by kernel_rfl) (by kernel_rfl) (fun _ _ _ h => h) (Or.inl ⟨by rfl, fun w _ => by go_simp⟩) ?_
         try simp only [zk1, zk2, zk3, zk4, zk5, zk6, zk7, zk8]
         refine wpAnyL_take (i := 1) (v := vd) rfl (by kernel_rfl) (by kernel_rfl) (by kernel_rfl) (by kernel_rfl) (by kernel_rfl) (fun _ _ _ h => h) (Or.inl ⟨by rfl, fun w hSw => by have c := Kept.cellOf hSw cS (by simp); go_simp⟩) h0 ?_
         try simp only [zk1, zk2, zk3, zk4, zk5, zk6, zk7, zk8]
         refine wpAnyL_free (i := 2) (v := .slice (some ⟨b, off, none⟩) n cap) rfl (by kernel_rfl) (by kernel_rfl) (by kernel_rfl) (fun _ _ _ h => h) (Or.inl ⟨by rfl, fun w _ => by go_simp⟩) ?_
         try simp only [zk1, zk2, zk3, zk4, zk5, zk6, zk7, zk8]
         refine wpAnyL_free (i := 3) (v := .int .i64 k) rfl (by kernel_rfl) (by kernel_rfl) (by kernel_rfl) (fun _ _ _ h => h) (Or.inl ⟨by rfl, fun w _ => by go_simp⟩) ?_
         try simp only [zk1, zk2, zk3, zk4, zk5, zk6, zk7, zk8]
         refine wpAnyL_free (i := 4) (v := .pointer (some ⟨b, off + k * 35, none⟩)) rfl (by kernel_rfl) (by kernel_rfl) (by kernel_rfl) (fun _ _ _ h => h) (Or.inl ⟨by rfl, fun w _ => by go_simp⟩) ?_
         try simp only [zk1, zk2, zk3, zk4, zk5, zk6, zk7, zk8]
         refine wpAnyL_free (i := 5) (v := .pointer (some ⟨b, off + k * 35 + 32, none⟩)) rfl (by kernel_rfl) (by kernel_rfl) (by kernel_rfl) (fun _ _ _ h => h) (Or.inl ⟨by rfl, fun w _ => by go_simp⟩) ?_
         try simp only [zk1, zk2, zk3, zk4, zk5, zk6, zk7, zk8]
         refine wpAnyL_take (i := 6) (v := .slice xa xn xc) rfl (by kernel_rfl) (by kernel_rfl) (by kernel_rfl) (by kernel_rfl) (by kernel_rfl) (fun _ _ _ h => h) (Or.inl ⟨by rfl, fun w hSw => by have c := Kept.cellOf hSw cI (by simp); go_simp⟩) h0 ?_
         try simp only [zk1, zk2, zk3, zk4, zk5, zk6, zk7, zk8]
         obtain ⟨ga, ca, wa2, hrun, hsome, hfz, hps⟩ := ((HPz14.out).kept h0).putD (.slice xa xn xc) rfl (by rw [HJD.out]; omega)
         obtain ⟨u0, hu0⟩ := Option.isSome_iff_exists.1 hsome
         rw [HJD.out] at hrun hps
         refine wpAnyL_one (i := 7) (by kernel_rfl) rfl (fun K' hK => ?_)
         rw [if_pos (by rfl)]
         go_simp
         refine hK.out _ _ (fun _ _ => h0.alloc _) ?_
         clear hK K'
         try simp only [zk1, zk2, zk3, zk4, zk5, zk6, zk7, zk8]
         refine wpAnyL_one (i := 8) (by kernel_rfl) rfl (fun K' hK => ?_)
         rw [if_pos (by rfl)]
         refine wp_append_run (.tmp 57) (.tmp 63) 36 36 rfl vd (.slice (some ⟨v0.heap.size, 0, none⟩) 1 1) rfl rfl _ _ hrun ?_
         refine hK.out _ _ (fun _ h => by cases h) ?_
         clear hK K' hrun
         try simp only [zk1, zk2, zk3, zk4, zk5, zk6, zk7, zk8]
         refine wpAnyL_free (i := 9) (v := .pointer (some ⟨BS, 1, none⟩)) rfl (by kernel_rfl) (by kernel_rfl) (by kernel_rfl) (fun _ _ _ h => h) (Or.inl ⟨by rfl, fun w _ => by go_simp⟩) ?_
         try simp only [zk1, zk2, zk3, zk4, zk5, zk6, zk7, zk8]
         refine wpAnyL_one (i := 10) (by kernel_rfl) rfl (fun K' hK => ?_)
         rw [if_pos (by rfl)]
         go_simp
         refine hK.out _ _ (fun _ h => by cases h) ?_
         clear hK K'
         try simp only [zk1, zk2, zk3, zk4, zk5, zk6, zk7, zk8]
         refine wpAnyL_done (by kernel_rfl) ?_ _
         have HPz15 := hide hps
         clear hps hsome hfz hu0 h0 cS cI
         generalize wa2.setCell _ _ = z15 at HPz15 ⊢
         have HKQz15 : Hid (Kept [BS] w3 z15) := hide HPz15.out.kp
         go_upto_region 16 with (fail)
         have cS := (HPz15.out).cell.2.2
         have cI : z15.cell? ⟨b, off + k * 35 + 33, none⟩ = some (.int .i64 xcd) := HKQz15.out.cellOf HRI.out.2 (by simpa using HNB.out)
         refine wp_region_late (fun w' => Kept [] z15 w') (fun i => i == 8 || i == 10) (by kernel_rfl) ?_
         have h0 : Kept [] z15 z15.drew := (Kept.refl [] z15).drew
         generalize World.drew z15 = v0 at h0 ⊢
         refine wpAnyL_free (i := 0) (v := .pointer (some ⟨BS, 2, none⟩)) rfl (by kernel_rfl) (by kernel_rfl) (by kernel_rfl) (fun _ _ _ h => h) (Or.inl ⟨by rfl, fun w _ => by go_simp⟩) ?_
         try simp only [zk1, zk2, zk3, zk4, zk5, zk6, zk7, zk8]
         refine wpAnyL_take (i := 1) (v := vc) rfl (by kernel_rfl) (by kernel_rfl) (by kernel_rfl) (by kernel_rfl) (by kernel_rfl) (fun _ _ _ h => h) (Or.inl ⟨by rfl, fun w hSw => by have c := Kept.cellOf hSw cS (by simp); go_simp⟩) h0 ?_
         try simp only [zk1, zk2, zk3, zk4, zk5, zk6, zk7, zk8]
         refine wpAnyL_free (i := 2) (v := .slice (some ⟨b, off, none⟩) n cap) rfl (by kernel_rfl) (by kernel_rfl) (by kernel_rfl) (fun _ _ _ h => h) (Or.inl ⟨by rfl, fun w _ => by go_simp⟩) ?_
         try simp only [zk1, zk2, zk3, zk4, zk5, zk6, zk7, zk8]
         refine wpAnyL_free (i := 3) (v := .int .i64 k) rfl (by kernel_rfl) (by kernel_rfl) (by kernel_rfl) (fun _ _ _ h => h) (Or.inl ⟨by rfl, fun w _ => by go_simp⟩) ?_
         try simp only [zk1, zk2, zk3, zk4, zk5, zk6, zk7, zk8]
         refine wpAnyL_free (i := 4) (v := .pointer (some ⟨b, off + k * 35, none⟩)) rfl (by kernel_rfl) (by kernel_rfl) (by kernel_rfl) (fun _ _ _ h => h) (Or.inl ⟨by rfl, fun w _ => by go_simp⟩) ?_
         try simp only [zk1, zk2, zk3, zk4, zk5, zk6, zk7, zk8]
         refine wpAnyL_free (i := 5) (v := .pointer (some ⟨b, off + k * 35 + 33, none⟩)) rfl (by kernel_rfl) (by kernel_rfl) (by kernel_rfl) (fun _ _ _ h => h) (Or.inl ⟨by rfl, fun w _ => by go_simp⟩) ?_
         try simp only [zk1, zk2, zk3, zk4, zk5, zk6, zk7, zk8]
         refine wpAnyL_take (i := 6) (v := .int .i64 xcd) rfl (by kernel_rfl) (by kernel_rfl) (by kernel_rfl) (by kernel_rfl) (by kernel_rfl) (fun _ _ _ h => h) (Or.inl ⟨by rfl, fun w hSw => by have c := Kept.cellOf hSw cI (by simp); go_simp⟩) h0 ?_
         try simp only [zk1, zk2, zk3, zk4, zk5, zk6, zk7, zk8]
         obtain ⟨ga, ca, wa2, hrun, hsome, hfz, hps⟩ := ((HPz15.out).kept h0).putC (.int .i64 xcd) rfl (by rw [HJC.out]; omega)
         obtain ⟨u0, hu0⟩ := Option.isSome_iff_exists.1 hsome
         rw [HJC.out] at hrun hps
         refine wpAnyL_one (i := 7) (by kernel_rfl) rfl (fun K' hK => ?_)
         rw [if_pos (by rfl)]
         go_simp
         refine hK.out _ _ (fun _ _ => h0.alloc _) ?_
         clear hK K'
         try simp only [zk1, zk2, zk3, zk4, zk5, zk6, zk7, zk8]
         refine wpAnyL_one (i := 8) (by kernel_rfl) rfl (fun K' hK => ?_)
         rw [if_pos (by rfl)]
         refine wp_append_run (.tmp 67) (.tmp 73) 37 37 rfl vc (.slice (some ⟨v0.heap.size, 0, none⟩) 1 1) rfl rfl _ _ hrun ?_
         refine hK.out _ _ (fun _ h => by cases h) ?_
         clear hK K' hrun
         try simp only [zk1, zk2, zk3, zk4, zk5, zk6, zk7, zk8]
         refine wpAnyL_free (i := 9) (v := .pointer (some ⟨BS, 2, none⟩)) rfl (by kernel_rfl) (by kernel_rfl) (by kernel_rfl) (fun _ _ _ h => h) (Or.inl ⟨by rfl, fun w _ => by go_simp⟩) ?_
         try simp only [zk1, zk2, zk3, zk4, zk5, zk6, zk7, zk8]
         refine wpAnyL_one (i := 10) (by kernel_rfl) rfl (fun K' hK => ?_)
         rw [if_pos (by rfl)]
         go_simp
         refine hK.out _ _ (fun _ h => by cases h) ?_
         clear hK K'
         try simp only [zk1, zk2, zk3, zk4, zk5, zk6, zk7, zk8]
         refine wpAnyL_done (by kernel_rfl) ?_ _
         have HPz16 := hide hps
         clear hps hsome hfz hu0 h0 cS cI
         generalize wa2.setCell _ _ = z16 at HPz16 ⊢
         go_wp2
         go_roundw
         case rel =>
          refine ⟨j + 1, by omega, by go_num, hide ?_⟩
          rw [HTK.out]
          have e1 : dat9 L (K.take j ++ [q]) = dat9 L (K.take j) ++ [.slice xa xn xc] := by unfold dat9; rw [List.map_append]; simp only [List.map_cons, List.map_nil]; rw [HFS.out.1]
          have e2 : cod9 L (K.take j ++ [q]) = cod9 L (K.take j) ++ [.int .i64 xcd] := by unfold cod9; rw [List.map_append]; simp only [List.map_cons, List.map_nil]; rw [HFS.out.2]
          rw [e1, e2]
          exact ⟨_, _, _, HPz16.out⟩
         case measure => simp [intOf]; omega
        ·have heq : ∀ W, (Op.equalIn 10000 25 (.agg (bys x).toArray) (.agg (bys q).toArray)).run Tryz.prog W = .ok false W := fun W => by rw [heqx W, decide_eq_false hxy]
         clear heqx
         as_aux_lemma =>
         go_upto_region 13 with (fail)
         refine wp_region_held_drew (S := fun w' => Kept [] wr w') (by kernel_rfl) ((Kept.refl [] wr).drew) (fun h0 => ?_)
         generalize World.drew wr = v0 at h0  ⊢
         refine wpAnyH_take (i := 0) (v := .slice (some ⟨b, off, none⟩) n cap) rfl (by kernel_rfl) (by kernel_rfl) (by kernel_rfl) (fun _ _ _ h => h) (Or.inl ⟨by rfl, fun w hSw => by go_simp⟩) h0 ?_
         try simp only [zk1, zk2, zk3, zk4, zk5, zk6, zk7, zk8]
         refine wpAnyH_take (i := 1) (v := .int .i64 k) rfl (by kernel_rfl) (by kernel_rfl) (by kernel_rfl) (fun _ _ _ h => h) (Or.inl ⟨by rfl, fun w hSw => by go_simp⟩) h0 ?_
         try simp only [zk1, zk2, zk3, zk4, zk5, zk6, zk7, zk8]
         refine wpAnyH_take (i := 2) (v := .pointer (some ⟨b, off + k * 35, none⟩)) rfl (by kernel_rfl) (by kernel_rfl) (by kernel_rfl) (fun _ _ _ h => h) (Or.inl ⟨by rfl, fun w hSw => by go_simp⟩) h0 ?_
         try simp only [zk1, zk2, zk3, zk4, zk5, zk6, zk7, zk8]
         refine wpAnyH_take (i := 3) (v := .pointer (some ⟨b, off + k * 35, none⟩)) rfl (by kernel_rfl) (by kernel_rfl) (by kernel_rfl) (fun _ _ _ h => h) (Or.inl ⟨by rfl, fun w hSw => by go_simp⟩) h0 ?_
         try simp only [zk1, zk2, zk3, zk4, zk5, zk6, zk7, zk8]
         refine wpAnyH_take (i := 4) (v := .agg (bys x).toArray) rfl (by kernel_rfl) (by kernel_rfl) (by kernel_rfl) (fun _ _ _ h => h) (yieldsIf_load_mid (by rfl) _ _ rfl b (off + k * 35) rfl (bys x) _ (fun W h => fun jj u hu => Kept.cellOf h (hrx jj u hu) (by simp)) Tryz.underlying25 rfl hxl) h0 ?_
         try simp only [zk1, zk2, zk3, zk4, zk5, zk6, zk7, zk8]
         refine wpAnyH_take (i := 5) (v := .slice (some ⟨g3, o3, none⟩) m cK) rfl (by kernel_rfl) (by kernel_rfl) (by kernel_rfl) (fun _ _ _ h => h) (Or.inl ⟨by rfl, fun w hSw => by go_simp⟩) h0 ?_
         try simp only [zk1, zk2, zk3, zk4, zk5, zk6, zk7, zk8]
         refine wpAnyH_take (i := 6) (v := .int .i64 j) rfl (by kernel_rfl) (by kernel_rfl) (by kernel_rfl) (fun _ _ _ h => h) (Or.inl ⟨by rfl, fun w hSw => by go_simp⟩) h0 ?_
         try simp only [zk1, zk2, zk3, zk4, zk5, zk6, zk7, zk8]
         refine wpAnyH_take (i := 7) (v := .pointer (some ⟨g3, o3 + j * 32, none⟩)) rfl (by kernel_rfl) (by kernel_rfl) (by kernel_rfl) (fun _ _ _ h => h) (Or.inl ⟨by rfl, fun w hSw => by go_simp⟩) h0 ?_
         try simp only [zk1, zk2, zk3, zk4, zk5, zk6, zk7, zk8]
         refine wpAnyH_take (i := 8) (v := .agg (bys q).toArray) rfl (by kernel_rfl) (by kernel_rfl) (by kernel_rfl) (fun _ _ _ h => h) (yieldsIf_load_mid (by rfl) _ _ rfl g3 (o3 + j * 32) rfl (bys q) _ (fun W h => fun jj u hu => Kept.cellOf h (hrq jj u hu) (by simp)) Tryz.underlying25 rfl hql) h0 ?_
         try simp only [zk1, zk2, zk3, zk4, zk5, zk6, zk7, zk8]
         refine wpAnyH_take (i := 9) (v := .bool false) rfl (by kernel_rfl) (by kernel_rfl) (by kernel_rfl) (fun _ _ _ h => h) (Or.inl ⟨by rfl, fun w hSw => by have c0 := heq w; go_simp⟩) h0 ?_
         try simp only [zk1, zk2, zk3, zk4, zk5, zk6, zk7, zk8]
         refine wpAnyH_done (by kernel_rfl) ?_ _
         have HFK : Hid (Kept [] wo v0 ∧ ∀ y, y < k + 1 → (L.getD y it0).id ≠ q) := hide ⟨HC.out.1.trans h0 (by simp), fun y hy => by
          by_cases e : y = k
          ·rw [e, HIT.out.1, HIT.out.2.1]; exact hxy
          ·exact HC.out.2 y (by omega)⟩
         clear heq hrx hrq h0
         go_wp2
         go_roundw
         case rel => exact ⟨k + 1, by omega, by go_num, HFK⟩
         case measure => simp [intOf]; omega
       ·exfalso
        obtain ⟨y, hy, e⟩ := List.mem_map.1 HQM.out
        obtain ⟨z, hz, e2⟩ := List.getElem_of_mem (List.mem_of_mem_take hy)
        refine HC.out.2 z (by have := HN.out; omega) ?_
        rw [← e, ← e2]
        simp [List.getElem?_eq_getElem hz]
     ·obtain rfl : j = m := by omega
      obtain ⟨vi, vd, vc, hps⟩ := HI.out
      rw [List.take_of_length_le (by have := HM.out; omega)] at hps
      have HP := hide hps
      have hltj1 : ¬ (j : Int) < (j : Int) := by omega
      have hrowS : wr.rangeAt BS 0 [vi, vd, vc] := row_rangeK (cs := [vi, vd, vc]) hps.row
      have hrowR : wr.heap[BR]? = some (.cells zeroS 39 (0, 0)) := by
       rw [hps.kp.block BR (Array.getElem?_eq_some_iff.1 HBR.out).1 (by have := HBN.out; simp; omega)]
       exact HBR.out
      have hial := Tryz.infoSr9
      clear hps HI
      go_wp2_with (first
       | refine wpList_load_mid rfl 39 (.tmp 3) rfl BS 0 rfl [vi, vd, vc] _ hrowS Tryz.underlying39 rfl hial ?_
       | refine wpList_store_rowTo rfl 39 (.tmp 2) (.tmp 76) rfl rfl BR #[vi, vd, vc] rfl rfl 39 zeroS hrowR hial rfl (one3 HP.out) ?_)
      refine ret_row rfl rfl BR 39 #[vi, vd, vc] (0, 0) _ rfl (setRow_heap _ _ _ _ _ _ hrowR) Tryz.underlying39 rfl hial ?_
      exact ⟨vi, vd, vc, rfl, src_done HP.out HKW.out HBN.out.1 HBN.out.2 HKE.out hrowR⟩
def thr (x : It9) : It9 := { x with code := 0, wrp := false }
def thrs (L : List It9) (K : List (List UInt8)) : List It9 := (K.filter (fun q => (fst9 L q).code == 0)).map (fun q => thr (fst9 L q))
theorem thrs_snoc (L : List It9) (K : List (List UInt8)) (q : List UInt8) : thrs L (K ++ [q]) = if (fst9 L q).code = 0 then thrs L K ++ [thr (fst9 L q)] else thrs L K := by
 unfold thrs
 rw [List.filter_append, List.map_append]
 by_cases h : (fst9 L q).code = 0
 ·simp [h]
 ·simp [h]
theorem thrs_le (L : List It9) (K : List (List UInt8)) : (thrs L K).length ≤ K.length := by
 unfold thrs
 rw [List.length_map]
 exact List.length_filter_le _ _
theorem thrs_len (L : List It9) (k : Nat) : ((thrs L ((ids9 L).take k)).length + 1) = ((thrs L ((ids9 L).take k)).length + 1) := rfl
def itrows (L : List It9) : List Value := L.flatMap It9.cells
theorem itrows_snoc (L : List It9) (z : It9) : itrows (L ++ [z]) = itrows L ++ z.cells := by simp [itrows]
theorem itrows_at {L : List It9} {k j : Nat} (hk : k < L.length) (hj : j < 35) : (itrows L)[k * 35 + j]? = (L.getD k it0).cells[j]? := by
 induction L generalizing k with
 | nil => simp at hk
 | cons a r ih =>
  have ha := a.len
  have e : itrows (a :: r) = a.cells ++ itrows r := rfl
  cases k with
  | zero =>
   rw [e, List.getElem?_append_left (by omega)]
   simp
  | succ q =>
   rw [e, List.getElem?_append_right (by omega), ha, show (q + 1) * 35 + j - 35 = q * 35 + j by omega, ih (by simpa using hk)]
   rfl
def OwnT (w : World) (base : Nat) (v : Value) (L : List It9) : Prop := w.ownsRow base 81 35 v L.length (itrows L)
theorem OwnT.nil (w : World) (base : Nat) : OwnT w base (.slice none 0 0) [] := ⟨rfl, .inl ⟨rfl, rfl⟩⟩
theorem OwnT.kept {w w' : World} {base : Nat} {l : List Nat} {v : Value} {L : List It9} (h : OwnT w base v L) (hk : Kept l w w') (hn : ∀ g, v.ownBlock = some g → g ∉ l) : OwnT w' base v L := own_kept9 h hk hn
theorem OwnT.at_ {w : World} {base : Nat} {ao : Option Addr} {n c : Nat} {L : List It9} (h : OwnT w base (.slice ao n c) L) : L.length = n ∧ ∀ i, i < L.length → ∃ b off, ao = some ⟨b, off, none⟩ ∧ w.rangeAt b (off + i * 35) (L.getD i it0).cells := by
 obtain ⟨hl, h0⟩ := h
 rcases h0 with ⟨e, e2⟩ | ⟨g, cap, cur, e, hb, hg, hn, hm, hs, ht⟩
 ·injection e with e1 e3 e4
  subst e1 e3 e4
  exact ⟨by omega, fun k hk => by omega⟩
 ·injection e with e1 e3 e4
  subst e1 e3 e4
  refine ⟨rfl, fun k hk => ⟨g, 0, rfl, fun j v hv => ?_⟩⟩
  have hj : j < 35 := by have := (List.getElem?_eq_some_iff.1 hv).1; rw [It9.len] at this; exact this
  rw [cell_of_row _ _ _ _ _ _ hg, Nat.zero_add]
  rw [← itrows_at hk hj, ← ht, List.getElem?_take, if_pos (by omega)] at hv
  simpa using hv
def zeroIt : Array Value := (bys (List.replicate 32 0) ++ [Value.slice none 0 0, Value.int .i64 0, Value.bool false]).toArray
theorem Tryz.infoIt9 : (Tryz.prog.info? 81).map (fun i => (i.size, i.bytes, i.zero)) = some (35, 72, some (.agg zeroIt)) := by kernel_rfl
theorem bys_one9 (x : List UInt8) : ∀ u ∈ bys x, u.oneCell' = true := fun u hu => by
 obtain ⟨b, _, rfl⟩ := List.mem_map.1 hu
 rfl
theorem it_one (z : It9) : ∀ u ∈ z.cells, u.oneCell' = true := fun u hu => by
 unfold It9.cells It9.dv at hu
 rcases List.mem_append.1 hu with h | h
 ·exact bys_one9 _ u h
 ·simp only [List.mem_cons, List.mem_nil_iff, or_false] at h
  rcases h with rfl | rfl | rfl <;> rfl
theorem run_appT {w : World} {base : Nat} {v : Value} {L : List It9} (h : OwnT w base v L) (hb : base ≤ w.heap.size) (z : It9) (g : Nat) (hg : w.heap[g]? = some (.cells z.cells.toArray 81 (0, 0))) (hl : ((L.length + 1) + (L.length + 1) / 4 + 192) * 72 ≤ 281474976710656) :
  ∃ v' w', (Builtin.append_ #[22, 22] 22 #[v, .slice (some ⟨g, 0, none⟩) 1 1]).run Tryz.prog w = .ok v' w' ∧ OwnT w' base v' (L ++ [z]) ∧ (∀ l, (∀ g, v.ownBlock = some g → g ∈ l) → Kept l w w') := by
 obtain ⟨i, hi, hx⟩ := Option.map_eq_some_iff.1 Tryz.infoIt9
 injection hx with e1 hx
 injection hx with e2 e3
 obtain ⟨v', w', hrun, h1', h2, _⟩ := run_append_own_wide (P := Tryz.prog) w base 22 22 81 i (.agg zeroIt) 35 72 Tryz.underlying22 hi e3 e1 e2 rfl (by omega) v L.length (itrows L) h ⟨g, 0, none⟩ 1 1 z.cells (by rw [It9.len])
  (fun j u hj => by rw [Addr.add_mid, Nat.zero_add, cell_of_row _ _ _ _ _ _ hg]; simpa using hj) (it_one z) (by unfold maxLen; omega) hl hb
 refine ⟨v', w', hrun, ?_, fun l hl2 => (Kept.refl l w).grown h2 (fun k hk _ => hl2 k hk)⟩
 unfold OwnT
 rw [List.length_append, itrows_snoc]
 exact h1'
set_option maxRecDepth 100000 in
theorem Tryz.buildIt9 (f : Nat → UInt8) (ao : Option Addr) (n c : Nat) (w : World) : (Instr.build 81 #[(0, .agg (bys ((List.range 32).map f)).toArray), (1, .slice ao n c)]).run Tryz.prog w = .ok (.agg (bys ((List.range 32).map f) ++ [Value.slice ao n c, Value.int .i64 0, Value.bool false]).toArray) w := by kernel_rfl
theorem build_it9 (x : It9) (w : World) : (Instr.build 81 #[(0, .agg (bys x.id).toArray), (1, .slice x.ao x.n x.cap)]).run Tryz.prog w = .ok (.agg (thr x).cells.toArray) w := by
 have h := Tryz.buildIt9 (fun k => x.id.getD k 0) x.ao x.n x.cap w
 rw [range32i x.hi] at h
 exact h
set_option maxRecDepth 100000 in
theorem fillT35 (f : Nat → UInt8) (ao : Option Addr) (n c : Nat) : Instr.fill (fun i => some (i * 35, 35)) ((Array.range (1 * 35)).map ((Value.agg zeroIt).cells[· % (Value.agg zeroIt).cells.size]!)) [(0, .agg (bys ((List.range 32).map f) ++ [Value.slice ao n c, Value.int .i64 0, Value.bool false]).toArray)] = some (bys ((List.range 32).map f) ++ [Value.slice ao n c, Value.int .i64 0, Value.bool false]).toArray := by kernel_rfl
theorem fillT (x : It9) : Instr.fill (fun i => some (i * 35, 35)) ((Array.range (1 * 35)).map ((Value.agg zeroIt).cells[· % (Value.agg zeroIt).cells.size]!)) [(0, .agg (thr x).cells.toArray)] = some (thr x).cells.toArray := by
 have := fillT35 (fun k => x.id.getD k 0) x.ao x.n x.cap
 rw [range32i x.hi] at this
 exact this
theorem wp_buildT {o : Oper} {a : Act} {w : World} {K : Act → World → Prop} {Q : Exit → Act → World → Prop} (x : Operand) (ho : o.op = .buildSlice 22 1 #[(0, x)]) (y : It9) (hy : a.eval x = .agg (thr y).cells.toArray)
  (h : K (a.put o.dst (.slice (some ⟨w.heap.size, 0, none⟩) 1 1)) (w.alloc (.cells (thr y).cells.toArray 81))) : o.wp Tryz.prog a w K Q := by
 obtain ⟨i0, hi0, hx0⟩ := Option.map_eq_some_iff.1 Tryz.infoIt9
 injection hx0 with hz1 hx0
 injection hx0 with hz2 hz0
 refine wp_buildSlice 22 81 1 #[(0, x)] ho (thr y).cells.toArray i0 (.agg zeroIt) Tryz.underlying22 hi0 hz0 (by rw [hz1]; decide) (by rw [hz1]; decide) ?_ h
 rw [hz1]
 have : (#[(0, x)].map fun (i, x) => (i, a.eval x)).toList = [(0, .agg (thr y).cells.toArray)] := by simp [hy]
 rw [this]
 exact fillT y
theorem yieldsIf_buildT {ops : Array Oper} {S : World → Prop} {op : Oper} {a : Act} (hw : Region.wanted op (yielded ops a.tmps) = true) (t : TypeId) (parts : Array (Nat × Operand)) (ho : op.op = .build t parts) (vals : Array (Nat × Value)) (hv : (parts.map fun (i, x) => (i, a.eval x)) = vals) (v : Value) (hrun : ∀ W, (Instr.build t vals).run Tryz.prog W = .ok v W) : YieldsIf Tryz.prog ops S op v a :=
 .inl ⟨hw, fun w hw' => by
  unfold execOp
  simp only [ho, hv, Sem.run_bind, hrun, Result.andThen_ok]
  rfl⟩
theorem own_two9 {w : World} {b1 b2 s1 s2 : Nat} {e1 e2 : TypeId} {v1 v2 : Value} {n1 n2 : Nat} {x1 x2 : List Value} (h1 : w.ownsRow b1 e1 s1 v1 n1 x1) (h2 : w.ownsRow b2 e2 s2 v2 n2 x2) (hne : e1 ≠ e2) : ∀ g, v1.ownBlock = some g → v2.ownBlock ≠ some g := fun g hg hg2 => by
 rcases h2.2 with ⟨rfl, _⟩ | ⟨g2, c2, cur, rfl, _, hb, _⟩
 ·simp [Value.ownBlock] at hg2
 ·simp only [Value.ownBlock, Option.some.injEq] at hg2
  subst hg2
  exact own_cell9 h1 hb hne hg
set_option maxHeartbeats 6400000 in
set_option maxRecDepth 100000 in
theorem there9_ok (ao : Option Addr) (n cap : Nat) (L : List It9) (w : World) (h : InI w ao n cap L) :
  Calls Tryz.prog 15 #[.slice ao n cap] w fun e w' => ∃ v, e = .returned v ∧ OwnT w' w.heap.size v (thrs L (ids9 L)) ∧ Kept [] w w' := by
 have hz := Tryz.zeroSr9
 have hia := Tryz.infoSr9
 have hpl := plain9_ok ao n cap L w h
 clear h
 go_enter Tryz.func15, Tryz.ntmps15
 go_upto_region 3 with (first
  | (go_at_call 14; refine hpl.mono ?_; rintro e w2 ⟨vi, vd, vc, rfl, hs⟩; have HS := hide hs; obtain ⟨aI, cI, hvi, _⟩ := own_shape hs.ids.1; obtain ⟨aD, cD, hvd, _⟩ := own_shape hs.dat; obtain ⟨aC, cC, hvc, _⟩ := own_shape hs.cod; subst hvi; subst hvd; subst hvc; have hnz := new_atK w2 (.cells zeroS 39); clear hpl hs)
  | refine wpList_store_rowTo rfl 39 (.tmp 4) (.tmp 7) rfl rfl w2.heap.size #[.slice aI (ids9 L).length cI, .slice aD (dat9 L (ids9 L)).length cD, .slice aC (cod9 L (ids9 L)).length cC] rfl rfl 39 zeroS hnz hia rfl (sl3 _ _ _ _ _ _ _ _ _) ?_)
 have HT4 : Hid (((w2.alloc (.cells zeroS 39)).setRow w2.heap.size #[.slice aI (ids9 L).length cI, .slice aD (dat9 L (ids9 L)).length cD, .slice aC (cod9 L (ids9 L)).length cC]).heap[w2.heap.size]? = some (.cells #[.slice aI (ids9 L).length cI, .slice aD (dat9 L (ids9 L)).length cD, .slice aC (cod9 L (ids9 L)).length cC] 39 (0, 0))) := hide (setRow_heap _ _ _ _ _ _ hnz)
 have HK3 : Hid (Kept [] w2 ((w2.alloc (.cells zeroS 39)).setRow w2.heap.size #[.slice aI (ids9 L).length cI, .slice aD (dat9 L (ids9 L)).length cD, .slice aC (cod9 L (ids9 L)).length cC])) := hide (kept_rowK ((Kept.refl [] w2).alloc _) (fun h => absurd h (Nat.lt_irrefl _)) _)
 have hDl : (dat9 L (ids9 L)).length = (ids9 L).length := by unfold dat9; rw [List.length_map]
 have hCl : (cod9 L (ids9 L)).length = (ids9 L).length := by unfold cod9; rw [List.length_map]
 have hm60 := ids9_len L
 have HSI := hide HS.out.ids
 have HSD := hide HS.out.dat
 have HSC := hide HS.out.cod
 have HSK := hide HS.out.kp
 clear HS hnz hia hz
 rw [hDl] at HT4 HK3 HSD ⊢
 rw [hCl] at HT4 HK3 HSC ⊢
 obtain ⟨m, hm⟩ : ∃ m, (ids9 L).length = m := ⟨_, rfl⟩
 have HM := hide hm
 rw [hm] at HT4 HK3 HSD HSC HSI hm60 ⊢
 generalize (w2.alloc (.cells zeroS 39)).setRow w2.heap.size #[.slice aI m cI, .slice aD m cD, .slice aC m cC] = w3 at HT4 HK3 ⊢
 obtain ⟨T4, hT4⟩ : ∃ r, w2.heap.size = r := ⟨_, rfl⟩
 rw [hT4] at HT4 ⊢
 clear hm hDl hCl hT4
 go_wp2
 go_loopw [3, 5] (fun x y wr => ∃ (va : Option Addr) (vn vc k : Nat), k ≤ m ∧ x = .slice va vn vc ∧ y = .int .i64 k ∧ Hid (OwnT wr w3.heap.size (.slice va vn vc) (thrs L ((ids9 L).take k)) ∧ Kept [] w3 wr)) (fun x y wr => m - (intOf y).toNat)
 case atStart => exact ⟨none, 0, 0, 0, by omega, rfl, rfl, hide ⟨OwnT.nil _ _, Kept.refl _ _⟩⟩
 case round =>
  obtain ⟨va, vn, vc, k, hk, rfl, rfl, HI⟩ := hrel
  have HOv := hide HI.out.1
  have HKw := hide HI.out.2
  have hT4r : wr.heap[T4]? = some (.cells #[.slice aI m cI, .slice aD m cD, .slice aC m cC] 39 (0, 0)) := by
   rw [HI.out.2.block T4 (Array.getElem?_eq_some_iff.1 HT4.out).1 (by simp)]
   exact HT4.out
  have c0 : wr.cell? ⟨T4, 0, none⟩ = some (.slice aI m cI) := by rw [cell_of_row _ _ _ _ _ _ hT4r]; rfl
  have c1 : wr.cell? ⟨T4, 1, none⟩ = some (.slice aD m cD) := by rw [cell_of_row _ _ _ _ _ _ hT4r]; rfl
  have c2 : wr.cell? ⟨T4, 2, none⟩ = some (.slice aC m cC) := by rw [cell_of_row _ _ _ _ _ _ hT4r]; rfl
  have nT : T4 ∉ (Value.slice va vn vc).ownBlock.toList := fun hm => own_cell9 HI.out.1 hT4r (by decide) (by simpa using hm)
  clear HI hT4r
  by_cases hlt : k < m
  ·as_aux_lemma =>
   have hkl : k < (ids9 L).length := by rw [HM.out]; exact hlt
   have HTK0 : Hid ((ids9 L).take (k + 1) = (ids9 L).take k ++ [(ids9 L).getD k []]) := hide (by rw [List.take_succ_eq_append_getElem hkl, List.getD_eq_getElem?_getD, List.getElem?_eq_getElem hkl]; rfl)
   have HQI : Hid ((ids9 L).getD k [] ∈ ids9 L) := hide (gmem9 hkl)
   obtain ⟨g1, o1, hao1, hrq2⟩ := HSI.out.ids.1.1 k hkl
   obtain ⟨q, hqe⟩ : ∃ q, (ids9 L).getD k [] = q := ⟨_, rfl⟩
   rw [hqe] at hrq2 HTK0 HQI
   have hq : q.length = 32 := HSI.out.2 _ HQI.out
   have hql := idl q hq
   obtain ⟨z, hz, hfz, hzq⟩ := fst9_in HQI.out
   have hidq : (fst9 L q).id = q := by rw [hfz]; exact hzq
   obtain ⟨g2, o2, hao2, hcd2, hB2⟩ := own_at9 HSD.out k (by omega)
   obtain ⟨g3, o3, hao3, hcc2, hB3⟩ := own_at9 HSC.out k (by omega)
   have e1 : (dat9 L (ids9 L)).getD k unitv = (fst9 L q).dv := by
    unfold dat9
    rw [List.getD_eq_getElem?_getD, List.getElem?_map, List.getElem?_eq_getElem hkl, ← hqe, List.getD_eq_getElem?_getD, List.getElem?_eq_getElem hkl]
    rfl
   have e2 : (cod9 L (ids9 L)).getD k unitv = .int .i64 (fst9 L q).code := by
    unfold cod9
    rw [List.getD_eq_getElem?_getD, List.getElem?_map, List.getElem?_eq_getElem hkl, ← hqe, List.getD_eq_getElem?_getD, List.getElem?_eq_getElem hkl]
    rfl
   rw [e1] at hcd2
   rw [e2] at hcc2
   subst hao1
   subst hao2
   subst hao3
   have hrq : wr.rangeAt g1 (o1 + k * 32) (bys q) := fun jj u hu => HKw.out.cellOf (HK3.out.cellOf (hrq2 jj u hu) (by simp)) (by simp)
   have cd : wr.cell? ⟨g2, o2 + k, none⟩ = some (fst9 L q).dv := HKw.out.cellOf (HK3.out.cellOf hcd2 (by simp)) (by simp)
   have cc : wr.cell? ⟨g3, o3 + k, none⟩ = some (.int .i64 (fst9 L q).code) := HKw.out.cellOf (HK3.out.cellOf hcc2 (by simp)) (by simp)
   have hiO := (HSI.out.kept HK3.out (fun _ _ => by simp)).kept HKw.out (fun _ _ => by simp)
   have hdO := own_kept9 (own_kept9 HSD.out HK3.out (fun _ _ => by simp)) HKw.out (fun _ _ => by simp)
   have n1 : g1 ∉ (Value.slice va vn vc).ownBlock.toList := fun hm => own_two9 hiO.1 HOv.out (by decide) g1 rfl (by simpa using hm)
   have n2 : g2 ∉ (Value.slice va vn vc).ownBlock.toList := fun hm => own_two9 hdO HOv.out (by decide) g2 rfl (by simpa using hm)
   obtain ⟨x, hx⟩ : ∃ x, fst9 L q = x := ⟨_, rfl⟩
   rw [hx] at cd cc hidq
   have HX := hide hx
   have HTH : Hid (thrs L ((ids9 L).take (k + 1)) = if x.code = 0 then thrs L ((ids9 L).take k) ++ [thr x] else thrs L ((ids9 L).take k)) := hide (by rw [HTK0.out, thrs_snoc, hx])
   have hbt := fun W => build_it9 x W
   rw [hidq] at hbt
   clear hkl hqe hfz hz hzq e1 e2 hcd2 hcc2 hrq2 hiO hdO hx hB2 hB3
   have cd : wr.cell? ⟨g2, o2 + k, none⟩ = some (.slice x.ao x.n x.cap) := cd
   obtain ⟨xc, hxc⟩ : ∃ c, x.code = c := ⟨_, rfl⟩
   rw [hxc] at cc HTH
   have hlt1 : (k : Int) < (m : Int) := by omega
   by_cases hz : xc = 0
   ·have hz1 : (xc == 0) = true := by simpa using hz
    clear hxc
    go_upto_region 7 with (fail)
    have h0m : Kept [] wr wr.drew := (Kept.refl [] wr).drew
    refine wp_region_held_drew (S := fun w' => Kept (Value.slice va vn vc).ownBlock.toList wr w') (by kernel_rfl) ((Kept.refl _ wr).drew) (fun h0 => ?_)
    generalize World.drew wr = v0 at h0 h0m ⊢
    refine wpAnyH_take (i := 0) (v := .slice va vn vc) rfl (by kernel_rfl) (by kernel_rfl) (by kernel_rfl) (fun _ _ _ h => h) (Or.inl ⟨by rfl, fun w hSw => by go_simp⟩) h0 ?_
    try simp only [zk1, zk2, zk3, zk4, zk5, zk6, zk7, zk8]
    refine wpAnyH_take (i := 1) (v := .pointer (some ⟨T4, 0, none⟩)) rfl (by kernel_rfl) (by kernel_rfl) (by kernel_rfl) (fun _ _ _ h => h) (Or.inl ⟨by rfl, fun w hSw => by go_simp⟩) h0 ?_
    try simp only [zk1, zk2, zk3, zk4, zk5, zk6, zk7, zk8]
    refine wpAnyH_take (i := 2) (v := .slice (some ⟨g1, o1, none⟩) m cI) rfl (by kernel_rfl) (by kernel_rfl) (by kernel_rfl) (fun _ _ _ h => h) (Or.inl ⟨by rfl, fun w hSw => by have c0 := Kept.cellOf hSw c0 nT; go_simp⟩) h0 ?_
    try simp only [zk1, zk2, zk3, zk4, zk5, zk6, zk7, zk8]
    refine wpAnyH_take (i := 3) (v := .int .i64 k) rfl (by kernel_rfl) (by kernel_rfl) (by kernel_rfl) (fun _ _ _ h => h) (Or.inl ⟨by rfl, fun w hSw => by go_simp⟩) h0 ?_
    try simp only [zk1, zk2, zk3, zk4, zk5, zk6, zk7, zk8]
    refine wpAnyH_take (i := 4) (v := .pointer (some ⟨g1, o1 + k * 32, none⟩)) rfl (by kernel_rfl) (by kernel_rfl) (by kernel_rfl) (fun _ _ _ h => h) (Or.inl ⟨by rfl, fun w hSw => by go_simp⟩) h0 ?_
    try simp only [zk1, zk2, zk3, zk4, zk5, zk6, zk7, zk8]
    refine wpAnyH_take (i := 5) (v := .agg (bys q).toArray) rfl (by kernel_rfl) (by kernel_rfl) (by kernel_rfl) (fun _ _ _ h => h) (yieldsIf_load_mid (by rfl) _ _ rfl g1 (o1 + k * 32) rfl (bys q) _ (fun W h => fun jj u hu => Kept.cellOf h (hrq jj u hu) n1) Tryz.underlying25 rfl hql) h0 ?_
    try simp only [zk1, zk2, zk3, zk4, zk5, zk6, zk7, zk8]
    refine wpAnyH_take (i := 6) (v := .pointer (some ⟨T4, 1, none⟩)) rfl (by kernel_rfl) (by kernel_rfl) (by kernel_rfl) (fun _ _ _ h => h) (Or.inl ⟨by rfl, fun w hSw => by go_simp⟩) h0 ?_
    try simp only [zk1, zk2, zk3, zk4, zk5, zk6, zk7, zk8]
    refine wpAnyH_take (i := 7) (v := .slice (some ⟨g2, o2, none⟩) m cD) rfl (by kernel_rfl) (by kernel_rfl) (by kernel_rfl) (fun _ _ _ h => h) (Or.inl ⟨by rfl, fun w hSw => by have c0 := Kept.cellOf hSw c1 nT; go_simp⟩) h0 ?_
    try simp only [zk1, zk2, zk3, zk4, zk5, zk6, zk7, zk8]
    refine wpAnyH_take (i := 8) (v := .int .i64 k) rfl (by kernel_rfl) (by kernel_rfl) (by kernel_rfl) (fun _ _ _ h => h) (Or.inl ⟨by rfl, fun w hSw => by go_simp⟩) h0 ?_
    try simp only [zk1, zk2, zk3, zk4, zk5, zk6, zk7, zk8]
    refine wpAnyH_take (i := 9) (v := .pointer (some ⟨g2, o2 + k, none⟩)) rfl (by kernel_rfl) (by kernel_rfl) (by kernel_rfl) (fun _ _ _ h => h) (Or.inl ⟨by rfl, fun w hSw => by go_simp⟩) h0 ?_
    try simp only [zk1, zk2, zk3, zk4, zk5, zk6, zk7, zk8]
    refine wpAnyH_take (i := 10) (v := .slice x.ao x.n x.cap) rfl (by kernel_rfl) (by kernel_rfl) (by kernel_rfl) (fun _ _ _ h => h) (Or.inl ⟨by rfl, fun w hSw => by have c0 := Kept.cellOf hSw cd n2; go_simp⟩) h0 ?_
    try simp only [zk1, zk2, zk3, zk4, zk5, zk6, zk7, zk8]
    refine wpAnyH_take (i := 11) (v := .agg (thr x).cells.toArray) rfl (by kernel_rfl) (by kernel_rfl) (by kernel_rfl) (fun _ _ _ h => h) (yieldsIf_buildT (by rfl) 81 #[(0, .tmp 26), (1, .tmp 31)] rfl #[(0, .agg (bys q).toArray), (1, .slice x.ao x.n x.cap)] (by simp [Act.eval, Act.put]) _ hbt) h0 ?_
    try simp only [zk1, zk2, zk3, zk4, zk5, zk6, zk7, zk8]
    have hk0 : Kept [] v0 (v0.alloc (.cells (thr x).cells.toArray 81)) := (Kept.refl [] v0).alloc _
    obtain ⟨vo, w9, hrun, hown, hkeep⟩ := run_appT (HOv.out.kept (h0m.trans hk0 (by simp)) (fun _ _ => by simp)) (by have h1 := HKw.out.size; have h2 := h0m.size; have h3 := hk0.size; omega) (thr x) v0.heap.size (new_atK _ _) (by have h9 := thrs_le L ((ids9 L).take k); rw [List.length_take] at h9; have h8 : ((thrs L ((ids9 L).take k)).length) ≤ 60 := (by omega); omega)
    refine wpAnyH_ready (rs := [12]) (by kernel_rfl) (by simp) (AllReadyH.cons (i := 12) rfl (fun K' hK => ?_) AllReadyH.nil)
    rw [if_pos (by rfl)]
    refine wp_buildT (.tmp 32) rfl (thr x) rfl ?_
    refine hK.out _ _ (h0.alloc _) (fun h1 => ?_)
    clear hK K'
    try simp only [zk1, zk2, zk3, zk4, zk5, zk6, zk7, zk8]
    refine wpAnyH_ready (rs := [13]) (by kernel_rfl) (by simp) (AllReadyH.cons (i := 13) rfl (fun K' hK => ?_) AllReadyH.nil)
    rw [if_pos (by rfl)]
    refine wp_append_run (.tmp 21) (.tmp 33) 22 22 rfl (.slice va vn vc) (.slice (some ⟨v0.heap.size, 0, none⟩) 1 1) rfl rfl _ _ hrun ?_
    refine hK.out _ _ (h1.trans (hkeep (Value.slice va vn vc).ownBlock.toList (fun k hk => by simp [hk])) (fun j hj _ => hj)) (fun h2 => ?_)
    clear hK K' hrun
    try simp only [zk1, zk2, zk3, zk4, zk5, zk6, zk7, zk8]
    refine wpAnyH_take (i := 14) (v := vo) rfl (by kernel_rfl) (by kernel_rfl) (by kernel_rfl) (fun _ _ _ h => h) (Or.inl ⟨by rfl, fun w hSw => by go_simp⟩) h2 ?_
    try simp only [zk1, zk2, zk3, zk4, zk5, zk6, zk7, zk8]
    refine wpAnyH_done (by kernel_rfl) ?_ _
    have HKn : Hid (OwnT w9 w3.heap.size vo (thrs L ((ids9 L).take k) ++ [thr x]) ∧ Kept [] w3 w9) := hide ⟨hown, (HKw.out.trans (h0m.trans hk0 (by simp)) (by simp)).trans (hkeep (Value.slice va vn vc).ownBlock.toList (fun k hk => by simp [hk])) (fun j hj hlt => by have := own_far9 HOv.out j (by simpa using hj); omega)⟩
    obtain ⟨a', c', e', _⟩ := own_shape hown
    clear h0 h0m h1 h2 hk0 hkeep hown hbt hrq cd cc c0 c1 c2 n1 n2 nT hql
    go_wp2
    go_roundw
    case rel => exact ⟨a', _, c', k + 1, by omega, e', by go_num, hide (by rw [HTH.out, if_pos hz, ← e']; exact HKn.out)⟩
    case measure => simp [intOf]; omega
   ·have hz1 : (xc == 0) = false := by simpa using hz
    clear hxc
    have HKn : Hid (OwnT wr w3.heap.size (.slice va vn vc) (thrs L ((ids9 L).take (k + 1))) ∧ Kept [] w3 wr) := hide (by rw [HTH.out, if_neg hz]; exact ⟨HOv.out, HKw.out⟩)
    clear hbt hrq cd n1 n2 nT hql
    go_wp2
    go_roundw
    case rel => exact ⟨va, vn, vc, k + 1, by omega, rfl, by go_num, HKn⟩
    case measure => simp [intOf]; omega
  ·obtain rfl : k = m := by omega
   have hlt1 : ¬ (k : Int) < (k : Int) := by omega
   have HE : Hid (OwnT wr w.heap.size (.slice va vn vc) (thrs L (ids9 L)) ∧ Kept [] w wr) := hide ⟨own_base9 (by have h := HOv.out; rw [List.take_of_length_le (by rw [HM.out]; exact Nat.le_refl _)] at h; exact h) (Nat.le_trans HSK.out.size HK3.out.size), (HSK.out.trans HK3.out (by simp)).trans HKw.out (by simp)⟩
   clear HOv HKw
   go_wp2
   go_ret
   exact ⟨_, rfl, HE.out⟩
end

end Go.Proofs.YtngaimahhgmciaaGreatDoor
