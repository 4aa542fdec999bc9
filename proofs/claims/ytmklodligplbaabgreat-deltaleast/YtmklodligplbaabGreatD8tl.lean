import Derived.Test.YtmklodligplbaabGreatD8sl
import Derived.Laws.StructEq
import Derived.ChangeKeysEq
namespace Go.Proofs.YtmklodligplbaabGreat
open Go.RowKit
open Dlt
set_option linter.unusedVariables false
set_option linter.unusedSimpArgs false
theorem Tryz.aggByte (W : World) : (isAgg 5).run Tryz.prog W = .ok false W := by kernel_rfl
theorem Tryz.aggInt (W : World) : (isAgg 3).run Tryz.prog W = .ok false W := by kernel_rfl
theorem Tryz.aggID (W : World) : (isAgg 23).run Tryz.prog W = .ok true W := by kernel_rfl
theorem Tryz.sizeID (W : World) : (sizeOf 23).run Tryz.prog W = .ok 32 W := by kernel_rfl
theorem Tryz.cellsByte : Tryz.prog.cellsOf 5 = 1 := by kernel_rfl
theorem Tryz.partByte (L : List UInt8) (i : Nat) (hi : i < L.length) (W : World) : (part 5 (bys L).toArray i).run Tryz.prog W = .ok (.int .u8 (L.getD i 0).toNat) W := by
 simp only [part, Sem.run_bind, Tryz.aggByte, Result.andThen_ok, Bool.false_eq_true, if_false, List.getElem?_toArray, bys_at hi, Sem.run_pure]
theorem eqItems_bytes (d : Nat) (A B : List UInt8) (hA : A.length = 32) (hB : B.length = 32) (W : World) : ∀ (is : List Nat), (∀ i ∈ is, i < 32) →
  (Op.eqItems (d + 1) 5 1 (bys A).toArray (bys B).toArray is).run Tryz.prog W = .ok (is.all fun i => A.getD i 0 == B.getD i 0) W
 | [], _ => by simp [Op.eqItems]
 | i :: is, h => by
  have hi := h i (by simp)
  have ih := eqItems_bytes d A B hA hB W is (fun j hj => h j (by simp [hj]))
  have e : (((A.getD i 0).toNat : Int) == ((B.getD i 0).toNat : Int)) = (A.getD i 0 == B.getD i 0) := by
   rw [Bool.eq_iff_iff]
   simp only [beq_iff_eq]
   constructor
   ·intro h
    exact UInt8.toNat_inj.1 (by omega)
   ·intro h
    rw [h]
  simp only [Op.eqItems, Sem.run_bind, Nat.mul_one, Tryz.partByte A i (by omega), Tryz.partByte B i (by omega), Result.andThen_ok, run_equalIn_int _ d 5 .u8 .u8 _ _ Tryz.underlying5, e]
  cases hab : (A.getD i 0 == B.getD i 0)
  ·simp only [Bool.not_false, if_true, Sem.run_pure, List.all_cons, hab, Bool.false_and]
  ·simp only [Bool.not_true, Bool.false_eq_true, if_false, List.all_cons, hab, Bool.true_and]
   exact ih
theorem all_eq {A B : List UInt8} (hA : A.length = 32) (hB : B.length = 32) : ((List.range 32).all fun i => A.getD i 0 == B.getD i 0) = decide (A = B) := by
 rw [Bool.eq_iff_iff]
 simp only [List.all_eq_true, List.mem_range, beq_iff_eq, decide_eq_true_eq]
 constructor
 ·intro h
  apply List.ext_getElem (by omega)
  intro i h1 h2
  have := h i (by omega)
  simpa [List.getElem?_eq_getElem h1, List.getElem?_eq_getElem h2] using this
 ·intro h i _
  rw [h]
theorem Tryz.equalID (d : Nat) (A B : List UInt8) (hA : A.length = 32) (hB : B.length = 32) (W : World) :
  (Op.equalIn (d + 2) 23 (.agg (bys A).toArray) (.agg (bys B).toArray)).run Tryz.prog W = .ok (decide (A = B)) W := by
 obtain ⟨i0, hi, _⟩ := info_parts Tryz.infoByte
 rw [run_equalIn_array (P := Tryz.prog) W (d + 1) (bys A).toArray (bys B).toArray Tryz.underlying23 hi, Tryz.cellsByte, eqItems_bytes d A B hA hB W _ (fun i hi => List.mem_range.1 hi), all_eq hA hB]
theorem Tryz.eqlID (A B : List UInt8) (hA : A.length = 32) (hB : B.length = 32) (W : World) : (Op.equalIn 10000 23 (.agg (bys A).toArray) (.agg (bys B).toArray)).run Tryz.prog W = .ok (decide (A = B)) W :=
 Tryz.equalID 9998 A B hA hB W
theorem wk_part (e : Wk) : e.cells.toArray.extract 1 (1 + 32) = (bys e.id).toArray := by
 apply Array.ext'
 simp only [Wk.cells, Array.toList_extract, List.extract_eq_drop_take']
 show List.take 32 (bys e.id) = bys e.id
 exact List.take_of_length_le (by rw [bys_length, e.hid]; exact Nat.le_refl _)
theorem Tryz.partSum (e : Wk) (W : World) : (part 3 e.cells.toArray 0).run Tryz.prog W = .ok (.int .i64 e.sum) W := by
 simp only [part, Sem.run_bind, Tryz.aggInt, Result.andThen_ok, Bool.false_eq_true, if_false, List.getElem?_toArray, e.su, Sem.run_pure]
theorem Tryz.partWid (e : Wk) (W : World) : (part 23 e.cells.toArray 1).run Tryz.prog W = .ok (.agg (bys e.id).toArray) W := by
 have hx := wk_part e
 simp only [part, Sem.run_bind, Tryz.aggID, Result.andThen_ok, if_true, Tryz.sizeID, Sem.run_pure]
 first | rw [hx] | (simp [e.len, hx])
def wkEq (a b : Wk) : Bool := decide (a.sum = b.sum) && decide (a.id = b.id)
theorem wkEq_iff {a b : Wk} : wkEq a b = true ↔ a = b := by
 simp only [wkEq, Bool.and_eq_true, decide_eq_true_eq]
 exact ⟨fun h => Wk.ext' h.1 h.2, fun h => by rw [h]; exact ⟨rfl, rfl⟩⟩
theorem Tryz.underWeak : Tryz.prog.underlying 62 = some (.struct (Tryz.prog.fieldsOf 62)) := by kernel_rfl
theorem Tryz.eqlWk (A B : Wk) (W : World) : (Op.equalIn 10000 62 (.agg A.cells.toArray) (.agg B.cells.toArray)).run Tryz.prog W = .ok (wkEq A B) W := by
 rw [run_equalIn_struct (P := Tryz.prog) W 9999 62 _ _ Tryz.underWeak (by kernel_rfl)]
 simp (config := { decide := true }) only [Program.fieldsOf, Tryz.underlying62, Op.eqFields, Sem.run_bind, Sem.run_ite, ne_eq, not_false_eq_true, if_true, Tryz.partSum, Tryz.partWid, Result.andThen_ok, run_equalIn_int W 9998 3 .i64 .i64 _ _ Tryz.underlying3, Tryz.equalID 9997 A.id B.id A.hid B.hid]
 have e2 : (A.sum == B.sum) = decide (A.sum = B.sum) := by rw [Bool.eq_iff_iff]; simp
 rw [e2]
 unfold wkEq
 cases decide (A.sum = B.sum) <;> cases decide (A.id = B.id) <;> simp
def leastV (o : Option Nat) : Value := .tuple #[.int .i64 (o.getD 0 : Nat), .bool o.isSome]
theorem find_no {l : List Nat} {p : Nat → Bool} {k : Nat} (hk : k < l.length) (h : (l.take k).find? p = none) (hz : p (l.getD k 0) = false) : (l.take (k + 1)).find? p = none := by
 rw [List.take_succ_eq_append_getElem hk, List.find?_append, h]
 have e : l[k] = l.getD k 0 := by simp [List.getElem?_eq_getElem hk]
 rw [e, List.find?_cons, hz]
 rfl
theorem find_yes {l : List Nat} {p : Nat → Bool} {k : Nat} (hk : k < l.length) (h : (l.take k).find? p = none) (hz : p (l.getD k 0) = true) : l.find? p = some (l.getD k 0) := by
 have e : l[k] = l.getD k 0 := by simp [List.getElem?_eq_getElem hk]
 conv => lhs; rw [← List.take_append_drop k l]
 rw [List.find?_append, h, List.drop_eq_getElem_cons hk, List.find?_cons, e, hz]
 rfl
set_option maxHeartbeats 6400000 in
set_option maxRecDepth 100000 in
theorem least_ok (wd : Int) (sz : Int) (ao : Option Addr) (n cap M : Nat) (L : List Wk) (x : Int) (wo : Option Addr) (wn wc : Nat) (ws : List UInt8) (w : World) (base : Nat) (K : List Int) (V : List Value) (hL : L.length = n) (hn : n ≤ 1000000) (hW : Wks w ao L) (hm : Fm w base M L n K V) (hwn : ws.length = wn) (hwc : wn ≤ wc) (hws : Sl w wo ws) (hwm : wn ≤ 4611686018427387904) (hcap : n ≤ cap) :
  Calls Tryz.prog 101 #[.agg (fdC wd sz ao n cap (some M)).toArray, .slice wo wn wc, .int .i64 x] w fun e w' => e = .returned (leastV (leastI L x (Sha.ident wd ws))) ∧ Kept [] w w' := by
 have hF := FdAt.new w wd sz ao n cap M
 have k1 : Kept [] w (w.alloc (.cells (fdC wd sz ao n cap (some M)).toArray 109)) := (Kept.refl [] w).alloc _
 have HLE : Hid (leastI L x (Sha.ident wd ws) = (idxs L x n).find? fun i => (L.getD i wk0).id == Sha.ident wd ws) := by show _ = _; rw [leastI_idxs, hL]
 obtain ⟨v, hlook, hown, _⟩ := hm.look x
 have hll := hlook _ k1
 obtain ⟨vo, vc, rfl, hvc⟩ := own_shape hown
 have hil := idxs_len L x n
 have HMEM : Hid (∀ i, i ∈ idxs L x n → i < n) := fun i hi => (idxs_mem hi).1
 have hcells : ∀ i, i < (idxs L x n).length → ∃ g off, vo = some ⟨g, off, none⟩ ∧ w.cell? ⟨g, off + i, none⟩ = some (.int .i64 ((idxs L x n).getD i 0 : Nat)) := fun i hi => by
  rcases hown.2 with ⟨e, h0⟩ | ⟨g, cp, cur, e, _, hg, _, _, _, ht⟩
  ·omega
  ·cases e
   refine ⟨g, 0, rfl, ?_⟩
   rw [Nat.zero_add, cell_of_row _ _ _ _ _ _ hg]
   have h1 : (ivs (idxs L x n))[i]? = some (.int .i64 ((idxs L x n).getD i 0 : Nat)) := by
    simp [ivs, List.getElem?_eq_getElem hi]
   rw [← ht, List.getElem?_take] at h1
   split at h1
   ·simpa using h1
   ·cases h1
 have HCL := hide hcells
 have c0 := hF.c (j := 0) (u := .int .i64 wd) rfl
 have c3 := hF.c (j := 3) (u := .map (some M)) rfl
 have HF := hide hF
 have HWK := hide (And.intro hL (And.intro (hW.kept k1 (by simp)) (And.intro hn hcap)))
 have HWS := hide (And.intro hwn (And.intro hwc (And.intro (hws.kept k1 (by simp)) hwm)))
 have HK1 := hide k1
 generalize idxs L x n = I at hll hil HMEM HCL HLE
 clear hlook hown hcells hm hF k1 hL hW hwn hwc hws hwm hcap
 obtain ⟨G, hG⟩ : ∃ G, w.heap.size = G := ⟨_, rfl⟩
 rw [hG] at c0 c3 HF
 obtain ⟨m, hmm⟩ : ∃ m, I.length = m := ⟨_, rfl⟩
 rw [hmm] at hll hil
 have HM := hide hmm
 clear hmm
 go_enter Tryz.func101, Tryz.ntmps101
 go_upto_region 1 with (fail)
 have HG := hide hG
 clear hG
 generalize w.alloc (.cells (fdC wd sz ao n cap (some M)).toArray 109) = w1 at *
 by_cases h0 : m = 0
 ·subst h0
  have HN : Hid (leastI L x (Sha.ident wd ws) = none) := by
   show _ = _
   rw [HLE.out, List.eq_nil_of_length_eq_zero HM.out]; rfl
  go_wp2
  go_ret2
  exact ⟨by rw [HN.out]; rfl, HK1.out⟩
 ·have hm0 : ((m : Int) == 0) = false := by simp; omega
  have hof := of_one wd wo wn wc ws w1 HWS.out.1 HWS.out.2.1 HWS.out.2.2.1 HWS.out.2.2.2
  have hidl := Sha.ident_len wd ws
  obtain ⟨id, hid⟩ : ∃ id, Sha.ident wd ws = id := ⟨_, rfl⟩
  rw [hid] at hof hidl
  have HID := hide hid
  clear hid
  have hiA : (Tryz.prog.info? 23).map (·.size) = some (bys id).toArray.size := by rw [List.size_toArray]; exact idlen hidl
  have hzs : zero32.size = (bys id).toArray.size := by show 32 = _; rw [List.size_toArray, bys_length, hidl]
  have hal := bys_all id
  have hz := Tryz.zeroID
  go_upto_region 5 with (first
   | (go_at_call 45; refine hof.mono ?_; rintro r w2 ⟨rfl, hk2⟩; have H2 := hide hk2; have hnw := heap_new w2 (.cells zero32 23); clear hof hk2)
   | refine wpList_store_rowTo rfl 23 (.tmp 9) (.tmp 23) rfl rfl w2.heap.size (bys id).toArray rfl rfl 23 zero32 hnw hiA hzs hal ?_)
  have hr3 := setRow_heap _ _ _ (bys id).toArray _ _ hnw
  have k3 : Kept [] w2 ((w2.alloc (.cells zero32 23)).setRow w2.heap.size (bys id).toArray) := ((Kept.refl [] w2).alloc _).trans (kept_row _ _ _) (by simp)
  obtain ⟨Ib, hIb⟩ : ∃ Ib, w2.heap.size = Ib := ⟨_, rfl⟩
  rw [hIb] at hr3 k3 ⊢
  clear hIb hnw
  generalize (w2.alloc (.cells zero32 23)).setRow Ib (bys id).toArray = w3 at hr3 k3 ⊢
  have HK13 := hide (H2.out.trans k3 (by simp))
  have HI3 := hide hr3
  clear hr3 k3 H2 c0 c3 hll hm0 hz hiA hzs hal
  go_wp2
  go_loopw [26] (fun y wr => ∃ k : Nat, k ≤ m ∧ y = .int .i64 k ∧ Hid ((I.take k).find? (fun i => (L.getD i wk0).id == id) = none) ∧ Hid (Kept [] w3 wr)) (fun y wr => m - (intOf y).toNat)
  case atStart => exact ⟨0, Nat.zero_le _, rfl, rfl, Kept.refl _ _⟩
  case round =>
   obtain ⟨k, hk, rfl, HFN, HKR⟩ := hrel
   by_cases hlt : k < m
   ·obtain ⟨g, off, rfl, hcg⟩ := HCL.out k (by rw [HM.out]; exact hlt)
    have kw : Kept [] w wr := (HK1.out.trans HK13.out (by simp)).trans HKR.out (by simp)
    have hcg' := kw.cellOf hcg (by simp)
    have hin : I.getD k 0 ∈ I := by
     have hkl : k < I.length := by rw [HM.out]; exact hlt
     simp only [List.getD_eq_getElem?_getD, List.getElem?_eq_getElem hkl, Option.getD_some]
     exact List.getElem_mem _
    have hq := HMEM.out _ hin
    have HY : Hid (((L.getD (I.getD k 0) wk0).id == id) = true → leastI L x (Sha.ident wd ws) = some (I.getD k 0)) := fun h => by rw [HLE.out, HID.out]; exact find_yes (by rw [HM.out]; exact hlt) HFN.out h
    have HZ : Hid (((L.getD (I.getD k 0) wk0).id == id) = false → (I.take (k + 1)).find? (fun i => (L.getD i wk0).id == id) = none) := fun h => find_no (by rw [HM.out]; exact hlt) HFN.out h
    generalize I.getD k 0 = q at hcg' hq HY HZ
    obtain ⟨b, of2, hab, hrg⟩ := (HWK.out.2.1.kept (HK13.out.trans HKR.out (by simp)) (by simp)) q (by rw [HWK.out.1]; exact hq)
    subst hab
    generalize L.getD q wk0 = e at hrg HY HZ
    have hri := wk_range hrg
    have hile := idlen e.hid
    have hili := idlen hidl
    have hrI : wr.rangeAt Ib 0 (bys id) := fun j u hu => HKR.out.cellOf (row_rangeK HI3.out j u hu) (by simp)
    have hF := (HF.out.kept (HK13.out.trans HKR.out (by simp)) (by simp))
    have c2 := hF.c (j := 2) (u := .slice (some ⟨b, of2, none⟩) n cap) rfl
    have hqn : q < 1000000 := by have := HWK.out.2.2.1; omega
    have heq : ∀ W, (Op.equalIn 10000 23 (.agg (bys e.id).toArray) (.agg (bys id).toArray)).run Tryz.prog W = .ok (e.id == id) W := fun W => by
     rw [Tryz.eqlID e.id id e.hid hidl W]
     congr 1
     rw [Bool.eq_iff_iff]; simp
    generalize (e.id == id) = ok at heq HY HZ
    clear hcg hin hF hrg
    go_upto_region 8 with (fail)
    refine wp_region_held_drew (S := fun w' => Kept [] wr w') (by kernel_rfl) ((Kept.refl [] wr).drew) (fun h0 => ?_)
    generalize World.drew wr = v0 at h0  ⊢
    refine wpAnyH_take (i := 0) (v := .pointer (some ⟨G, 2, none⟩)) rfl (by kernel_rfl) (by kernel_rfl) (by kernel_rfl) (fun _ _ _ h => h) (Or.inl ⟨by rfl, fun w hSw => by go_simp⟩) h0 ?_
    try simp only [z1, z2, z3, z4, z5, z6, z7, z8]
    refine wpAnyH_take (i := 1) (v := .slice (some ⟨b, of2, none⟩) n cap) rfl (by kernel_rfl) (by kernel_rfl) (by kernel_rfl) (fun _ _ _ h => h) (Or.inl ⟨by rfl, fun w hSw => by have c0 := Kept.cellOf hSw c2 (by simp); go_simp⟩) h0 ?_
    try simp only [z1, z2, z3, z4, z5, z6, z7, z8]
    refine wpAnyH_take (i := 2) (v := .int .i64 q) rfl (by kernel_rfl) (by kernel_rfl) (by kernel_rfl) (fun _ _ _ h => h) (Or.inl ⟨by rfl, fun w hSw => by go_simp⟩) h0 ?_
    try simp only [z1, z2, z3, z4, z5, z6, z7, z8]
    refine wpAnyH_take (i := 3) (v := .pointer (some ⟨b, of2 + q * 33, none⟩)) rfl (by kernel_rfl) (by kernel_rfl) (by kernel_rfl) (fun _ _ _ h => h) (Or.inl ⟨by rfl, fun w hSw => by go_simp⟩) h0 ?_
    try simp only [z1, z2, z3, z4, z5, z6, z7, z8]
    refine wpAnyH_take (i := 4) (v := .pointer (some ⟨b, of2 + q * 33 + 1, none⟩)) rfl (by kernel_rfl) (by kernel_rfl) (by kernel_rfl) (fun _ _ _ h => h) (Or.inl ⟨by rfl, fun w hSw => by go_simp⟩) h0 ?_
    try simp only [z1, z2, z3, z4, z5, z6, z7, z8]
    refine wpAnyH_take (i := 5) (v := .agg (bys e.id).toArray) rfl (by kernel_rfl) (by kernel_rfl) (by kernel_rfl) (fun _ _ _ h => h) (yieldsIf_load_mid (by rfl) _ _ rfl b (of2 + q * 33 + 1) rfl (bys e.id) _ (fun W h j u hu => Kept.cellOf h (hri j u hu) (by simp)) Tryz.underlying23 rfl hile) h0 ?_
    try simp only [z1, z2, z3, z4, z5, z6, z7, z8]
    refine wpAnyH_take (i := 6) (v := .agg (bys id).toArray) rfl (by kernel_rfl) (by kernel_rfl) (by kernel_rfl) (fun _ _ _ h => h) (yieldsIf_load_mid (by rfl) _ _ rfl Ib 0 rfl (bys id) _ (fun W h j u hu => Kept.cellOf h (hrI j u hu) (by simp)) Tryz.underlying23 rfl hili) h0 ?_
    try simp only [z1, z2, z3, z4, z5, z6, z7, z8]
    refine wpAnyH_take (i := 7) (v := .bool ok) rfl (by kernel_rfl) (by kernel_rfl) (by kernel_rfl) (fun _ _ _ h => h) (Or.inl ⟨by rfl, fun w hSw => by go_simp⟩) h0 ?_
    try simp only [z1, z2, z3, z4, z5, z6, z7, z8]
    refine wpAnyH_done (by kernel_rfl) ?_ _
    have h0' := h0
    clear h0
    have HKF := hide (HKR.out.trans h0' (by simp))
    clear h0' hcg' c2 hri hrI
    cases ok with
    | true =>
     have HYY : Hid (leastI L x (Sha.ident wd ws) = some q) := HY.out rfl
     clear HY HZ
     go_wp2
     go_ret2
     exact ⟨by rw [HYY.out]; rfl, (HK1.out.trans HK13.out (by simp)).trans HKF.out (by simp)⟩
    | false =>
     have HZZ := hide (HZ.out rfl)
     clear HY HZ
     go_wp2
     go_roundw
     case rel => exact ⟨k + 1, by omega, by go_num, HZZ, HKF⟩
     case measure => simp [intOf]; omega
   ·obtain rfl : k = m := by omega
    have HN : Hid (leastI L x (Sha.ident wd ws) = none) := by
     have h := HFN.out
     rw [List.take_of_length_le (by rw [HM.out]; exact Nat.le_refl _)] at h
     show _ = _
     rw [HLE.out, HID.out, h]
    clear HFN
    go_wp2
    go_ret2
    exact ⟨by rw [HN.out]; rfl, (HK1.out.trans HK13.out (by simp)).trans HKR.out (by simp)⟩
end Go.Proofs.YtmklodligplbaabGreat
