import Derived.Test.YtngaimahhgmciabGreatDoorNmv
import Derived.Lib.AppendStr
import Derived.Test.YtngaimahhgmciabGreatDoorK9needv
namespace Go.Proofs.YtngaimahhgmciabGreatDoor
section
open Go.RowKit
set_option linter.unusedVariables false
set_option linter.unusedSimpArgs false

/-- Bytes in memory of a call's own. -/
def OwnB (w : World) (base : Nat) (v : Value) (xs : List UInt8) : Prop := w.ownsRow base 5 1 v xs.length (bys xs)

theorem OwnB.shape {w : World} {base : Nat} {v : Value} {xs : List UInt8} (h : OwnB w base v xs) : ∃ ao cap, v = .slice ao xs.length cap ∧ xs.length ≤ cap ∧ Sl w ao xs ∧ (∀ a, ao = some a → ∃ g, a = ⟨g, 0, none⟩ ∧ base ≤ g ∧ g < w.heap.size ∧ v.ownBlock = some g) ∧ cap ≤ 9223372036854775807 ∧ (ao = none → xs = [] ∧ cap = 0) := by
  rcases h.2 with ⟨rfl, h0⟩ | ⟨g, cap, cur, rfl, hb, hg, hn, hc, hs, ht⟩
  · have : xs = [] := List.eq_nil_of_length_eq_zero h0
    subst this
    exact ⟨none, 0, rfl, Nat.le_refl _, Sl.nil _ _, by simp, by omega, fun _ => ⟨rfl, rfl⟩⟩
  · refine ⟨_, cap, rfl, hn, fun i hi => ⟨g, 0, rfl, ?_⟩, fun a ha => ?_, by unfold maxLen at hc; omega, by simp⟩
    · rw [Nat.zero_add, cell_of_row _ _ _ _ _ _ hg]
      have h1 := bys_at hi
      rw [← ht, List.getElem?_take] at h1
      split at h1
      · simpa using h1
      · cases h1
    · cases ha
      exact ⟨g, rfl, hb, (Array.getElem?_eq_some_iff.1 hg).1, rfl⟩

theorem OwnB.kept {l : List Nat} {w w' : World} {base : Nat} {v : Value} {xs : List UInt8} (h : OwnB w base v xs) (hk : Kept l w w') (hn : ∀ g, v.ownBlock = some g → g ∉ l) : OwnB w' base v xs := by
  refine ⟨h.1, ?_⟩
  rcases h.2 with h0 | ⟨g, cap, cur, hv, hb, hg, rest⟩
  · exact .inl h0
  · refine .inr ⟨g, cap, cur, hv, hb, ?_, rest⟩
    rw [hk.block g (Array.getElem?_eq_some_iff.1 hg).1 (hn g (by rw [hv]; rfl))]
    exact hg

theorem OwnB.far {w : World} {base : Nat} {v : Value} {xs : List UInt8} (h : OwnB w base v xs) (g : Nat) (hg : v.ownBlock = some g) : base ≤ g ∧ g < w.heap.size := by
  obtain ⟨ao, cap, rfl, _, _, hb, _⟩ := h.shape
  cases ao with
  | none => simp [Value.ownBlock] at hg
  | some a =>
    obtain ⟨g', rfl, h1, h2, h3⟩ := hb a rfl
    rw [hg] at h3; cases h3; exact ⟨h1, h2⟩

theorem OwnB.ne {w : World} {base V : Nat} {v : Value} {xs : List UInt8} {cs : Array Value} {fr : Nat × Nat} (h : OwnB w base v xs) (hV : w.heap[V]? = some (.cells cs 45 fr)) : V ∉ v.ownBlock.toList := by
  rcases h.2 with ⟨rfl, h0⟩ | ⟨g, cap, cur, rfl, hb, hg, _⟩
  · simp [Value.ownBlock]
  · simp only [Value.ownBlock, Option.toList, List.mem_singleton]
    rintro rfl
    rw [hg] at hV
    simp at hV

theorem Kept.heap {l : List Nat} {w w' : World} (h : Kept l w w') {g : Nat} {o : Obj} (hg : w.heap[g]? = some o) (hn : g ∉ l) : w'.heap[g]? = some o := by
  rw [h.block g (Array.getElem?_eq_some_iff.1 hg).1 hn]; exact hg

theorem Tryz.infoByte3 : (Tryz.prog.info? 5).map (fun i => (i.zero, i.size, i.bytes)) = some (some (.int .u8 0), 1, 1) := by kernel_rfl

/-- append(row, bytes...). -/
theorem run_appB (w : World) (base : Nat) (v : Value) (xs ys : List UInt8) (h : OwnB w base v xs) (yb yo c : Nat) (hy : ∀ i, i < ys.length → w.cell? ⟨yb, yo + i, none⟩ = some (.int .u8 (ys.getD i 0).toNat)) (hl : xs.length + ys.length ≤ 140737488355328) (hb : base ≤ w.heap.size) :
    ∃ v' w', (Builtin.append_ #[33, 33] 33 #[v, .slice (some ⟨yb, yo, none⟩) ys.length c]).run Tryz.prog w = .ok v' w' ∧ OwnB w' base v' (xs ++ ys) ∧ Kept v.ownBlock.toList w w' := by
  obtain ⟨i0, hi, hz0, hz1, hz2⟩ := info_parts Tryz.infoByte3
  obtain ⟨v', w', hrun, h1', h2, h3, h4⟩ := run_append_own_at (P := Tryz.prog) w base 33 33 5 i0 (.int .u8 0) 1 1 Tryz.underlying33 hi hz0 hz1 hz2 rfl (by omega) v xs.length (bys xs) h ⟨yb, yo, none⟩ ys.length c (bys ys) (by rw [bys_length]; omega)
    (fun j u hj => by obtain ⟨hj', rfl⟩ := bys_get hj; rw [Addr.add_mid]; exact hy j hj') (bys_oneCell ys) (by unfold maxLen; omega) (by omega) hb
  refine ⟨v', w', hrun, ?_, (Kept.refl _ w).grown h2 (fun k hk _ => by simp [hk])⟩
  unfold OwnB
  rw [List.length_append, bys_append]
  exact h1'

/-- append(row, text...). -/
theorem run_appS (w : World) (base : Nat) (v : Value) (xs ys : List UInt8) (h : OwnB w base v xs) (hl : xs.length + ys.length ≤ 140737488355328) (hb : base ≤ w.heap.size) :
    ∃ v' w', (Builtin.append_ #[33, 9] 33 #[v, .string ⟨ys.toArray⟩]).run Tryz.prog w = .ok v' w' ∧ OwnB w' base v' (xs ++ ys) ∧ Kept v.ownBlock.toList w w' := by
  obtain ⟨i0, hi, hz0, hz1, hz2⟩ := info_parts Tryz.infoByte3
  obtain ⟨v', w', hrun, h1', h2, h3⟩ := Lib.run_append_own_string (P := Tryz.prog) (w := w) base 33 9 33 5 i0 Tryz.underlying33 Tryz.underlying9 hi hz0 hz1 hz2 v xs.length (bys xs) h ⟨ys.toArray⟩ (by rw [str_size]; unfold maxLen; omega) (by rw [str_size]; omega) hb
  refine ⟨v', w', hrun, ?_, (Kept.refl _ w).grown h2 (fun k hk _ => by simp [hk])⟩
  unfold OwnB
  rw [str_size] at h1'
  have e1 : Lib.strCells ⟨ys.toArray⟩ = bys ys := by simp [Lib.strCells, bys]
  rw [e1] at h1'
  rw [List.length_append, bys_append]
  exact h1'

theorem own_new (w : World) (xs : List UInt8) (hl : xs.length ≤ 4294967296) (hne : xs ≠ []) : OwnB (w.alloc (.cells (bys xs).toArray 5)) w.heap.size (.slice (some ⟨w.heap.size, 0, none⟩) xs.length xs.length) xs := by
  refine ⟨by rw [bys_length]; omega, .inr ⟨w.heap.size, xs.length, (bys xs).toArray, rfl, Nat.le_refl _, heap_new w _, Nat.le_refl _, by unfold maxLen; omega, ?_, ?_⟩⟩
  · simp [bys_length]
  · rw [List.take_of_length_le]
    simp [bys_length]

set_option maxHeartbeats 3200000 in
set_option maxRecDepth 100000 in
theorem refencode_no (ao : Option Addr) (n cap : Nat) (L : List Ent) (w : World) (hn : L.length = n) (hm : n ≤ 9223372036854775807) (hL : Ents w ao L) (ht : Tn.isTree L = false) :
    Calls Tryz.prog 15 #[.slice ao n cap] w fun r w' => Told w w' r false [] := by
  have ha := is_ok ao n cap L w hn hm hL
  rw [ht] at ha
  clear hL ht
  go_enter Tryz.func15, Tryz.ntmps15
  go_wp2_with (go_at_call 28; refine ha.mono ?_; rintro r w1 ⟨rfl, hb⟩)
  go_ret2
  exact ⟨⟨_, rfl, World.ownsRow_nil _ _ _ _⟩, hb⟩

set_option maxHeartbeats 6400000 in
set_option maxRecDepth 100000 in
theorem refencode_yes (b off n cap : Nat) (L : List Ent) (w : World) (hn : L.length = n) (hL : Ents w (some ⟨b, off, none⟩) L) (ht : Tn.isTree L = true) (ao : Option Addr) (hao : n = 0 ∨ ao = some ⟨b, off, none⟩) (hLa : Ents w ao L) :
    Calls Tryz.prog 15 #[.slice ao n cap] w fun r w' => Told w w' r true (Tn.encT L) := by
  have h32 := Tn.isTree_len ht
  rw [hn] at h32
  have ha := is_ok ao n cap L w hn (by omega) hLa
  rw [ht] at ha
  have hok : ∀ i, i < L.length → EntOk (L.getD i ent0) := fun i hi => by obtain ⟨_, _, _, _, h⟩ := hL i hi; exact h
  have HFL : Hid (∀ k, k ≤ L.length → ((L.take k).flatMap Tn.encE).length ≤ 66 * k) := fun k hk => Tn.flat_len hok ht k hk
  have HTA : Hid (∀ k, k < L.length → 1 ≤ (L.getD k ent0).kind ∧ (L.getD k ent0).kind ≤ 3 ∧ (L.getD k ent0).name.length ≤ 32) := fun k hk => Tn.isTree_at ht hk
  have HN : Hid (L.length = n) := hn
  have HL : Hid (Ents w (some ⟨b, off, none⟩) L) := hL
  clear hn hL ht hLa hok
  have hz := Tryz.zeroEntry
  have hwn : IntKind.u8.wrap (n : Int) = n := by rw [IntKind.wrap_u8]; omega
  go_enter Tryz.func15, Tryz.ntmps15
  go_upto_region 3 with (go_at_call 28; refine ha.mono ?_; rintro r w1 ⟨rfl, hb1⟩)
  clear ha
  go_wp2_with (fail)
  have o2 : OwnB (w1.alloc (.cells #[.int .u8 84, .int .u8 n] 5)) w.heap.size (.slice (some ⟨w1.heap.size, 0, none⟩) 2 2) [84, UInt8.ofNat n] := by
    have := own_new w1 [84, UInt8.ofNat n] (by simp) (by simp)
    have e1 : (bys [84, UInt8.ofNat n]).toArray = #[.int .u8 84, .int .u8 n] := by
      simp [bys, UInt8.toNat_ofNat', Nat.mod_eq_of_lt (show n < 256 by omega)]
    rw [e1] at this
    exact own_base this hb1.size
  have H2 : Hid (OwnB (w1.alloc (.cells #[.int .u8 84, .int .u8 n] 5)) w.heap.size (.slice (some ⟨w1.heap.size, 0, none⟩) 2 2) [84, UInt8.ofNat n] ∧ Below w.heap.size w (w1.alloc (.cells #[.int .u8 84, .int .u8 n] 5))) := ⟨o2, hb1.alloc hb1.size _⟩
  clear o2 hb1
  go_loopw [4, 5] (fun x y wr => ∃ k : Nat, k ≤ n ∧ y = .int .i64 k ∧ Hid (OwnB wr w.heap.size x ([84, UInt8.ofNat n] ++ (L.take k).flatMap Tn.encE)) ∧ Hid (Below w.heap.size w wr)) (fun x y wr => n - (intOf y).toNat)
  case atStart => exact ⟨0, Nat.zero_le _, rfl, by show OwnB _ _ _ _; simpa using H2.out.1, H2.out.2⟩
  case round =>
    obtain ⟨k, hk, rfl, HO, HB⟩ := hrel
    have hlen : ([84, UInt8.ofNat n] ++ (L.take k).flatMap Tn.encE).length ≤ 2 + 66 * 32 := by
      have := HFL.out k (by rw [HN.out]; exact hk)
      simp only [List.length_append, List.length_cons, List.length_nil]; omega
    by_cases hlt : k < n
    · obtain rfl : ao = some ⟨b, off, none⟩ := by
        rcases hao with h | h
        · omega
        · exact h
      have hkl : k < L.length := by rw [HN.out]; exact hlt
      obtain ⟨_, _, hx, hrg, hok⟩ := (HL.out.below HB.out) k hkl
      cases hx
      obtain ⟨t1, t3, tn⟩ := HTA.out k hkl
      have HF : Hid ((L.take (k + 1)).flatMap Tn.encE = (L.take k).flatMap Tn.encE ++ Tn.encE (L.getD k ent0)) := Tn.flat_snoc L k hkl
      generalize L.getD k ent0 = e at *
      have hnz := new_zero wr
      have hil : (Tryz.prog.info? 45).map (·.size) = some e.cells.length := by rw [hok.len]; exact Tryz.infoEntry
      have hia : (Tryz.prog.info? 45).map (·.size) = some e.cells.toArray.size := by rw [ent_size hok]; exact Tryz.infoEntry
      have hzs := zero_size hok
      have hal := ent_all e
      have hWb := withEnt_below wr e
      have hWr := ent_range (withEnt_row wr e)
      have HRow := hide (withEnt_row wr e)
      have hWl := withEnt_size wr e
      obtain ⟨kd, hkd⟩ : ∃ kd : Nat, e.kind = kd := ⟨e.kind.toNat, by omega⟩
      obtain ⟨nl, hnl⟩ : ∃ nl : Nat, e.name.length = nl := ⟨_, rfl⟩
      have hwk : IntKind.u8.wrap (kd : Int) = kd := by rw [IntKind.wrap_u8]; omega
      have hwl : IntKind.u8.wrap (nl : Int) = nl := by rw [IntKind.wrap_u8]; omega
      have oW : OwnB (withEnt wr e) w.heap.size _ _ := HO.out.kept (Kept.of_below hWb) (by simp)
      have bW : Below w.heap.size w (withEnt wr e) := HB.out.trans (hWb.mono HB.out.size)
      have c0 := hWr 0 _ rfl
      have c1 := hWr 1 _ rfl
      rw [hkd, Nat.zero_add] at c1
      rw [Nat.zero_add] at c0
      have hss : (ByteArray.mk e.name.toArray).size = nl := by rw [str_size]; exact hnl
      have HOK : Hid (EntOk e ∧ e.kind = kd ∧ e.name.length = nl ∧ nl ≤ 32 ∧ kd ≤ 3) := ⟨hok, hkd, hnl, by omega, by omega⟩
      have HLen := hide hlen
      have HVW : Hid (wr.heap.size < (withEnt wr e).heap.size ∧ w.heap.size ≤ wr.heap.size) := ⟨by omega, HB.out.size⟩
      have HWr := hide hWr
      have HW01 := hide (And.intro c0 c1)
      clear c0 c1
      clear hok hkd hnl t1 t3 tn hWr hlen
      go_upto_region 8 with (first | refine wpList_load_mid rfl 45 (.tmp 22) rfl b (off + k * 34) rfl e.cells _ hrg Tryz.underlying45 rfl hil ?_ | refine wpList_store_rowTo rfl 45 (.tmp 6) (.tmp 23) rfl rfl wr.heap.size e.cells.toArray rfl rfl 45 zeroE hnz hia hzs hal ?_)
      have hW : (wr.alloc (.cells zeroE 45)).setRow wr.heap.size e.cells.toArray = withEnt wr e := rfl
      rw [hW]
      obtain ⟨V, hV⟩ : ∃ V, wr.heap.size = V := ⟨_, rfl⟩
      rw [hV] at HVW HWr HW01 HRow ⊢
      obtain ⟨c0, c1⟩ := HW01.out
      clear hrg hil hia hzs hal hnz hW hWb hWl hV
      generalize withEnt wr e = W at *
      -- append(out, byte(kind), byte(len))
      have kN : Kept [] W (W.alloc (.cells #[.int .u8 kd, .int .u8 nl] 5)) := (Kept.refl [] W).alloc _
      obtain ⟨v1, W1, hr1, o1, k1⟩ := run_appB (W.alloc (.cells #[.int .u8 kd, .int .u8 nl] 5)) w.heap.size _ _ [UInt8.ofNat kd, UInt8.ofNat nl] (oW.kept kN (by simp)) W.heap.size 0 2 (fun i hi => by
        have hnew := heap_new W (.cells #[.int .u8 kd, .int .u8 nl] 5)
        rw [Nat.zero_add, cell_of_row _ _ _ _ _ _ hnew]
        have h3 := HOK.out
        have : i = 0 ∨ i = 1 := by simp at hi; omega
        rcases this with rfl | rfl
        · simp [UInt8.toNat_ofNat', Nat.mod_eq_of_lt (show kd < 256 by omega)]
        · simp [UInt8.toNat_ofNat', Nat.mod_eq_of_lt (show nl < 256 by omega)]) (by have := HLen.out; simp only [List.length_cons, List.length_nil] at *; omega) (Nat.le_trans bW.size kN.size)
      have b1 : Below w.heap.size w W1 := (bW.trans (kN.below bW.size (by simp))).trans (k1.below (Nat.le_trans bW.size kN.size) (fun g hg => (oW.far g (by simpa using hg)).1))
      have n0 : V ∉ (Value.ownBlock u4).toList := oW.ne HRow.out
      have rV1 : W1.heap[V]? = some (.cells e.cells.toArray 45 (0, 0)) := k1.heap (kN.heap HRow.out (by simp)) n0
      have c01 : W1.cell? ⟨V, 0, none⟩ = some (.string ⟨e.name.toArray⟩) := by rw [cell_of_row _ _ _ _ _ _ rV1]; rfl
      -- append(out, name...)
      obtain ⟨v2, W2, hr2, o2, k2⟩ := run_appS W1 w.heap.size v1 _ e.name o1 (by have := HLen.out; have := HOK.out; simp only [List.length_append, List.length_cons, List.length_nil] at *; omega) b1.size
      have b2 : Below w.heap.size w W2 := b1.trans (k2.below b1.size (fun g hg => (o1.far g (by simpa using hg)).1))
      have rV2 : W2.heap[V]? = some (.cells e.cells.toArray 45 (0, 0)) := k2.heap rV1 (o1.ne rV1)
      -- append(out, id...)
      obtain ⟨v3, W3, hr3, o3, k3⟩ := run_appB W2 w.heap.size v2 _ e.id o2 V 2 32 (fun i hi => by
        rw [cell_of_row _ _ _ _ _ _ rV2]
        simp only [Ent.cells, List.getElem?_toArray, show 2 + i = (i + 1) + 1 by omega, List.getElem?_cons_succ]
        exact bys_at hi) (by have := HLen.out; have := HOK.out; have := HOK.out.1.idl; simp only [List.length_append, List.length_cons, List.length_nil] at *; omega) b2.size
      have b3 : Below w.heap.size w W3 := b2.trans (k3.below b2.size (fun g hg => (o2.far g (by simpa using hg)).1))
      rw [show [UInt8.ofNat kd, UInt8.ofNat nl].length = 2 from rfl] at hr1
      rw [HOK.out.1.idl] at hr3
      have s32 := fun W => Tryz.slice32 W V 2
      have H3 : Hid (OwnB W3 w.heap.size v3 ([84, UInt8.ofNat n] ++ (L.take (k + 1)).flatMap Tn.encE) ∧ Below w.heap.size w W3) := by
        refine ⟨?_, b3⟩
        have e1 : [84, UInt8.ofNat n] ++ (L.take (k + 1)).flatMap Tn.encE = [84, UInt8.ofNat n] ++ (L.take k).flatMap Tn.encE ++ [UInt8.ofNat kd, UInt8.ofNat nl] ++ e.name ++ e.id := by
          rw [HF.out]
          simp [Tn.encE, HOK.out.2.1, HOK.out.2.2.1]
        rw [e1]; exact o3
      have c02 : W2.cell? ⟨V, 0, none⟩ = some (.string ⟨e.name.toArray⟩) := by rw [cell_of_row _ _ _ _ _ _ rV2]; rfl
      clear oW bW o1 k1 b1 n0 rV1 o2 k2 b2 rV2 o3 k3 b3 kN
      go_upto_region 9 with (refine wpList_app_run rfl (.tmp 24) (.tmp 32) 33 33 rfl u4 (.slice (some ⟨W.heap.size, 0, none⟩) 2 2) rfl rfl v1 W1 hr1 ?_)
      clear hr1 c0 c1 hwk hwl hss
      go_upto_region 10 with (refine wpList_app_run rfl (.tmp 34) (.tmp 36) 33 9 rfl v1 (.string ⟨e.name.toArray⟩) rfl rfl v2 W2 hr2 ?_)
      clear hr2 c01 c02
      go_wp2_with (refine wpList_app_run rfl (.tmp 38) (.tmp 40) 33 33 rfl v2 (.slice (some ⟨V, 2, none⟩) 32 32) rfl rfl v3 W3 hr3 ?_)
      go_roundw
      case rel => exact ⟨k + 1, by omega, by go_num, H3.out.1, H3.out.2⟩
      case measure => simp [intOf]; omega
    · obtain rfl : k = n := by omega
      have he : [84, UInt8.ofNat k] ++ (L.take k).flatMap Tn.encE = Tn.encT L := by
        rw [List.take_of_length_le (by rw [HN.out]; exact Nat.le_refl _)]
        simp [Tn.encT, HN.out]
      have ho := HO.out
      rw [he] at ho
      have HO2 := hide ho
      clear ho he HO hlen
      go_wp2
      go_ret2
      exact ⟨⟨_, rfl, HO2.out⟩, HB.out⟩

/-- freightref7.Encode. -/
theorem refencode_ok (ao : Option Addr) (n cap : Nat) (L : List Ent) (w : World) (hn : L.length = n) (hm : n ≤ 9223372036854775807) (hL : Ents w ao L) :
    Calls Tryz.prog 15 #[.slice ao n cap] w fun r w' => Told w w' r (Tn.isTree L) (Tn.encd L) := by
  by_cases ht : Tn.isTree L = true
  · have he : Tn.encd L = Tn.encT L := by simp [Tn.encd, ht]
    rw [he, ht]
    by_cases h0 : L = []
    · subst h0
      obtain rfl : n = 0 := by simpa using hn.symm
      exact refencode_yes 0 0 0 cap [] w rfl (Ents.nil _ _) ht ao (.inl rfl) hL
    · obtain ⟨b, off, rfl, hb, _⟩ := hL.open h0
      exact refencode_yes b off n cap L w hn hL ht _ (.inr rfl) hL
  · have ht' : Tn.isTree L = false := by simpa using ht
    have he : Tn.encd L = [] := by simp [Tn.encd, ht']
    rw [he, ht']
    exact refencode_no ao n cap L w hn hm hL ht'
end

section
open Go.RowKit Go.Lib Go.Sort
set_option linter.unusedVariables false
set_option linter.unusedSimpArgs false

/-- A value that is these bytes. -/
def Vl9 (w : World) (v : Value) (xs : List UInt8) : Prop := ∃ ao n c, v = .slice ao n c ∧ xs.length = n ∧ n ≤ c ∧ n ≤ 140737488355328 ∧ Sl w ao xs ∧ (ao = none → xs = [] ∧ c = 0)
/-- A map of ids, with bytes for each. -/
structure Mb9 (w : World) (b : Nat) (M : List (List UInt8 × List UInt8)) (V : List Value) : Prop where
  im : Im w b (M.map (·.1)) V
  dat : ∀ j, j < M.length → Vl9 w (V.getD j unitv) (M.getD j ([], [])).2
/-- What it says of an id. -/
def mpf (M : List (List UInt8 × List UInt8)) (q : List UInt8) : An := match M.find? (fun p => p.1 == q) with
  | some p => .data p.2
  | none => .lack
theorem mpf_nofail (M : List (List UInt8 × List UInt8)) (i : List UInt8) : mpf M i ≠ .fail := by
  unfold mpf
  cases M.find? (fun p => p.1 == i) with
  | none => simp
  | some p => simp
theorem mpf_none {M : List (List UInt8 × List UInt8)} {q : List UInt8} (h : q ∉ M.map (·.1)) : mpf M q = .lack := by
  have : M.find? (fun p => p.1 == q) = none := by
    rw [List.find?_eq_none]
    intro p hp e
    exact h (List.mem_map.2 ⟨p, hp, by simpa using e⟩)
  unfold mpf
  rw [this]
theorem mpf_at {M : List (List UInt8 × List UInt8)} (hn : (M.map (·.1)).Nodup) {j : Nat} {q xs : List UInt8} (h : M[j]? = some (q, xs)) : mpf M q = .data xs := by
  induction M generalizing j with
  | nil => simp at h
  | cons p r ih =>
    simp only [List.map_cons, List.nodup_cons] at hn
    cases j with
    | zero =>
      simp only [List.getElem?_cons_zero, Option.some.injEq] at h
      subst h
      unfold mpf
      simp
    | succ k =>
      simp only [List.getElem?_cons_succ] at h
      have hne : (p.1 == q) = false := by simpa using fun e : p.1 = q => hn.1 (by rw [e]; exact List.mem_map.2 ⟨(q, xs), List.mem_of_getElem? h, rfl⟩)
      have := ih hn.2 h
      unfold mpf at this ⊢
      rw [List.find?_cons, hne]
      exact this
theorem mpf_data {M : List (List UInt8 × List UInt8)} {q xs : List UInt8} (h : mpf M q = .data xs) : (q, xs) ∈ M := by
  unfold mpf at h
  cases hf : M.find? (fun p => p.1 == q) with
  | none => rw [hf] at h; cases h
  | some p =>
    rw [hf] at h
    injection h with h
    have h1 := List.mem_of_find?_eq_some hf
    have h2 := List.find?_some hf
    simp only [beq_iff_eq] at h2
    rw [← h, ← h2]
    exact h1
theorem mpf_lack {M : List (List UInt8 × List UInt8)} {q : List UInt8} : mpf M q = .lack ↔ q ∉ M.map (·.1) := by
  constructor
  · intro h hm
    unfold mpf at h
    cases hf : M.find? (fun p => p.1 == q) with
    | none =>
      rw [List.find?_eq_none] at hf
      obtain ⟨p, hp, e⟩ := List.mem_map.1 hm
      exact hf p hp (by simpa using e)
    | some p => rw [hf] at h; cases h
  · exact mpf_none
theorem Vl9.kept {l : List Nat} {w w' : World} {v : Value} {xs : List UInt8} (h : Vl9 w v xs) (hk : Kept l w w') (hn : ∀ ao n c, v = .slice ao n c → xs ≠ [] → ∀ a, ao = some a → a.block ∉ l) : Vl9 w' v xs := by
  obtain ⟨ao, n, c, e, h1, h2, h3, h4, h5⟩ := h
  exact ⟨ao, n, c, e, h1, h2, h3, h4.kept hk (fun hx a ha => hn ao n c e hx a ha), h5⟩
/-- A Map, nil or not. -/
def MapAt (w : World) (mv : Value) (M : List (List UInt8 × List UInt8)) : Prop := (mv = .map none ∧ M = []) ∨ ∃ b V, mv = .map (some b) ∧ Mb9 w b M V
theorem MapAt.nodup {w : World} {mv : Value} {M : List (List UInt8 × List UInt8)} (h : MapAt w mv M) : (M.map (·.1)).Nodup := by
  rcases h with ⟨_, rfl⟩ | ⟨b, V, _, h⟩
  · simp
  · exact Im.nodup h.im
theorem Mb9.kept {w w' : World} {b : Nat} {M : List (List UInt8 × List UInt8)} {V : List Value} (h : Mb9 w b M V) (hk : Kept [] w w') : Mb9 w' b M V := ⟨h.im.kept hk (by simp), fun j hj => (h.dat j hj).kept hk (fun _ _ _ _ _ _ _ => by simp)⟩
theorem MapAt.kept {w w' : World} {mv : Value} {M : List (List UInt8 × List UInt8)} (h : MapAt w mv M) (hk : Kept [] w w') : MapAt w' mv M := by
  rcases h with h | ⟨b, V, e, h⟩
  · exact .inl h
  · exact .inr ⟨b, V, e, h.kept hk⟩
theorem Tryz.nilB (W : World) : (zeroValue 33).run Tryz.prog W = .ok (.slice none 0 0) W := by kernel_rfl
/-- v, ok := m[k]. -/
theorem MapAt.look {w : World} {mv : Value} {M : List (List UInt8 × List UInt8)} (h : MapAt w mv M) (i : List UInt8) (hi : i.length = 32) (ok : Bool) :
    (mpf M i = .lack ∧ ∀ W, Kept [] w W → (Instr.lookup 26 mv (.agg (bys i).toArray) ok).run Tryz.prog W = .ok (if ok = true then .tuple #[.slice none 0 0, .bool false] else .slice none 0 0) W) ∨
    ∃ v xs, mpf M i = .data xs ∧ Vl9 w v xs ∧ ∀ W, Kept [] w W → (Instr.lookup 26 mv (.agg (bys i).toArray) ok).run Tryz.prog W = .ok (if ok = true then .tuple #[v, .bool true] else v) W := by
  rcases h with ⟨rfl, rfl⟩ | ⟨b, V, rfl, h⟩
  · refine .inl ⟨rfl, fun W hW => ?_⟩
    obtain ⟨kl, hkey⟩ := idv_key i hi
    have L := Tryz.lawID
    rcases L.find W hkey [] (by simp) with ⟨f1, _⟩ | ⟨j, e0, _, f2, _⟩
    · have hz := Tryz.nilB
      cases ok <;> simp [Instr.lookup, run_underlying Tryz.underlying26, show (Value.agg (bys i).toArray) = idv i from rfl, L.check W _ hkey, f1, hz, Result.andThen]
    · simp at f2
  · by_cases hin : i ∈ M.map (·.1)
    · obtain ⟨j, hKj⟩ := List.getElem?_of_mem hin
      have hKj0 := hKj
      rw [List.getElem?_map] at hKj
      obtain ⟨⟨i', l⟩, hFj, e1⟩ := Option.map_eq_some_iff.1 hKj
      have e1 : i' = i := e1
      subst e1
      have hj : j < M.length := (List.getElem?_eq_some_iff.1 hFj).1
      have hd := h.dat j hj
      have hFd : M.getD j ([], []) = (i', l) := by rw [List.getD_eq_getElem?_getD, hFj]; rfl
      rw [hFd] at hd
      refine .inr ⟨V.getD j unitv, l, mpf_at h.im.nodup hFj, hd, fun W hW => ?_⟩
      rcases (h.im.kept hW (by simp)).look Tryz.underlying26 Tryz.nilB i' hi ok with ⟨g1, _⟩ | ⟨j2, v, g1, g2, g3⟩
      · exact absurd hin g1
      · have e2 := nodup_idx h.im.nodup g1 hKj0
        subst e2
        have : V.getD j2 unitv = v := by rw [List.getD_eq_getElem?_getD, g2]; rfl
        rw [this]
        exact g3
    · refine .inl ⟨mpf_none hin, fun W hW => ?_⟩
      rcases (h.im.kept hW (by simp)).look Tryz.underlying26 Tryz.nilB i hi ok with ⟨_, g2⟩ | ⟨j2, v, g1, g2, g3⟩
      · exact g2
      · exact absurd (List.mem_of_getElem? g1) hin

theorem vl9_own {w : World} {base : Nat} {v : Value} {xs : List UInt8} (h : OwnB w base v xs) (hl : xs.length ≤ 140737488355328) : Vl9 w v xs := by
  obtain ⟨ao, cap, rfl, hc, hsl, _, _⟩ := h.shape
  refine ⟨ao, _, cap, rfl, rfl, hc, hl, hsl, fun e => ?_⟩
  subst e
  rcases h.2 with ⟨e1, e2⟩ | ⟨g, cap', cur, e1, _⟩
  · injection e1 with _ _ e4
    exact ⟨List.eq_nil_of_length_eq_zero e2, e4⟩
  · injection e1 with e3
    cases e3
def opGet : List UInt8 := [114, 101, 97, 99, 104, 46, 103, 101, 116]
set_option maxHeartbeats 1600000 in
set_option maxRecDepth 100000 in
/-- Map.Get. -/
theorem get9_ok (mv : Value) (M : List (List UInt8 × List UInt8)) (i : List UInt8) (w : World) (h : MapAt w mv M) (hi : i.length = 32) :
    Calls Tryz.prog 16 #[mv, .agg (bys i).toArray] w fun e w' => Kept [] w w' ∧
      ((mpf M i = .lack ∧ ∃ eb, e = .returned (.tuple #[.slice none 0 0, faultV eb]) ∧ FltAt w' eb opGet i (.iface 38 (.int .i64 93)) ∧ w.heap.size ≤ eb) ∨
       ∃ xs v, mpf M i = .data xs ∧ e = .returned (.tuple #[v, .nilIface]) ∧ Vl9 w' v xs ∧ w'.ownsRow w.heap.size 5 1 v xs.length (bys xs)) := by
  obtain ⟨w1, hw1⟩ : ∃ w1, w1 = w.alloc (.cells (bys i).toArray 36) := ⟨_, rfl⟩
  have hk1 : Kept [] w w1 := by rw [hw1]; exact (Kept.refl [] w).alloc _
  have hrx : w1.rangeAt w.heap.size 0 (bys i) := by rw [hw1]; exact row_rangeK (new_atK _ _)
  have hil := idl i hi
  have HK1 := hide hk1
  rcases (h.kept hk1).look i hi true with ⟨hl, hlk⟩ | ⟨v, xs, hl, hv, hlk⟩
  · have HL := hide hl
    have hlk1 := hlk w1 (Kept.refl _ _)
    simp only [if_true] at hlk1
    have hfl := rfault_ok opGet i hi 38 (.int .i64 93) w1
    have eo : (⟨opGet.toArray⟩ : ByteArray) = ⟨#[114, 101, 97, 99, 104, 46, 103, 101, 116]⟩ := rfl
    rw [eo] at hfl
    clear h hk1 hlk hl eo
    go_enter Tryz.func16, Tryz.ntmps16
    go_upto_region 1 with (fail)
    rw [← hw1]
    clear hw1
    generalize w.heap.size = bx at hrx ⊢
    go_wp2_with (first
      | refine wpList_load_mid rfl 36 (.tmp 3) rfl bx 0 rfl (bys i) _ hrx Tryz.underlying36 rfl hil ?_
      | (go_at_call 23; refine hfl.mono ?_; rintro e w3 ⟨eb, rfl, hfa, hk3, hne⟩; have H3 := hide (And.intro hfa (And.intro hk3 hne)); clear hfl hfa hk3 hne; unfold faultV))
    go_ret2
    exact ⟨HK1.out.trans H3.out.2.1 (by simp), .inl ⟨HL.out, eb, rfl, H3.out.1, Nat.le_trans HK1.out.size H3.out.2.2⟩⟩
  · have HL := hide hl
    have hlk1 := hlk w1 (Kept.refl _ _)
    simp only [if_true] at hlk1
    obtain ⟨ao, n, c, rfl, h1, h2, h3, h4, h5⟩ := hv
    have hcl := clone_own ao n c xs w1 h1 (by omega) h4 h5
    have HX : Hid (xs.length = n ∧ n ≤ 140737488355328) := hide ⟨h1, h3⟩
    clear h hk1 hlk hl h1 h2 h3 h4 h5
    go_enter Tryz.func16, Tryz.ntmps16
    go_upto_region 1 with (fail)
    rw [← hw1]
    clear hw1
    have HBX : Hid (w.heap.size ≤ w1.heap.size) := hide HK1.out.size
    generalize w.heap.size = bx at hrx ⊢
    go_wp2_with (first
      | refine wpList_load_mid rfl 36 (.tmp 3) rfl bx 0 rfl (bys i) _ hrx Tryz.underlying36 rfl hil ?_
      | (go_at_call 29; refine hcl.mono ?_; rintro e w3 ⟨ao', cap', rfl, hown, hk3⟩; have H3 := hide (And.intro hown hk3); clear hcl hown hk3))
    go_ret2
    have e1 := HX.out.1
    have e2 := HX.out.2
    have hown : OwnB w3 w.heap.size (.slice ao' n cap') xs := by
      unfold OwnB
      rw [e1]
      rcases H3.out.1 with ⟨g1, g2⟩
      refine ⟨g1, ?_⟩
      rcases g2 with g2 | ⟨g, cap, cur, k1, k2, k3⟩
      · exact .inl g2
      · exact .inr ⟨g, cap, cur, k1, Nat.le_trans HBX.out k2, k3⟩
    exact ⟨HK1.out.trans H3.out.2 (by simp), .inr ⟨xs, _, HL.out, rfl, vl9_own hown (by omega), hown⟩⟩

/-- How a Map stands, with whatever else stands with it in its blocks. -/
def G9 (o1 : Nat → Prop) (St : World → Prop) (_ : List (List UInt8)) (o : Nat → Prop) (w : World) : Prop := o = o1 ∧ St w ∧ ∀ b, o1 b → b < w.heap.size
structure Std (mv : Value) (M : List (List UInt8 × List UInt8)) (o1 : Nat → Prop) (St : World → Prop) : Prop where
  isM : ∃ x, mv = .map x
  keep : ∀ {w w' : World}, St w → (∀ b, o1 b → w'.heap[b]? = w.heap[b]?) → St w'
  at_ : ∀ {w : World}, St w → MapAt w mv M
  off : ∀ b, b < 4 → ¬ o1 b
theorem src9 {mv : Value} {M : List (List UInt8 × List UInt8)} {o1 : Nat → Prop} {St : World → Prop} (h : Std mv M o1 St) :
    Src 26 mv 16 mv (mpf M) (fun _ _ _ => False) (G9 o1 St) where
  meth w := by obtain ⟨x, rfl⟩ := h.isM; kernel_rfl
  nila w := by obtain ⟨x, rfl⟩ := h.isM; kernel_rfl
  enter args w := Tryz.call16 args w
  lim := by
    rintro asked o w ⟨rfl, _, hl⟩ b hb
    exact hl b hb
  keep := by
    rintro asked o w w' ⟨rfl, hs, hl⟩ hk
    exact ⟨rfl, h.keep hs (fun b hb => hk.block b (hl b hb) (fun hn => hn.1 hb)), fun b hb => Nat.lt_of_lt_of_le (hl b hb) hk.size⟩
  erk h _ := h
  get := by
    rintro asked o w i hi _ hgl ⟨rfl, hs, hl⟩
    refine (get9_ok mv M i w (h.at_ hs) hi).mono ?_
    rintro e w' ⟨hk, h1⟩
    have hG : G9 o St (asked ++ [i]) o w' := ⟨rfl, h.keep hs (fun b hb => hk.block b (hl b hb) (by simp)), fun b hb => Nat.lt_of_lt_of_le (hl b hb) hk.size⟩
    rcases h1 with ⟨hf, eb, rfl, hfl, _⟩ | ⟨xs, v, hf, rfl, ⟨ao, n, c, rfl, h1, _, h3, h4, h5⟩, _⟩
    · refine ⟨_, _, o, rfl, hG, fun b hb => .inl hb, Kp.ofKept hk (by simp), ?_⟩
      rw [hf]
      refine ⟨⟨_, _, rfl⟩, ?_⟩
      have hch : Chn w' 1 (faultV eb) (errnoV 93) := ⟨eb, _, rfl, hfl.err hi, rfl⟩
      exact tellsErrno_ok 1 _ 93 w' (hk.cellOf hgl (by simp)) hch
    · refine ⟨_, _, o, rfl, hG, fun b hb => .inl hb, Kp.ofKept hk (by simp), ?_⟩
      rw [hf]
      exact ⟨rfl, ao, n, c, rfl, h1, h3, h4, h5⟩

/-- All ids that its trees name. -/
def idsP (xs : List UInt8) : List (List UInt8) := match Tn.parse xs with
  | some E => E.map (·.id)
  | none => []
def idsM (M : List (List UInt8 × List UInt8)) : List (List UInt8) := M.flatMap (fun p => idsP p.2)
theorem idsM_in {M : List (List UInt8 × List UInt8)} : ∀ i xs E, mpf M i = .data xs → Tn.parse xs = some E → ∀ e ∈ E, e.id ∈ idsM M := by
  intro i xs E h hp e he
  refine List.mem_flatMap.2 ⟨(i, xs), mpf_data h, ?_⟩
  show e.id ∈ idsP xs
  unfold idsP
  simp only [hp]
  exact List.mem_map_of_mem he
theorem idsM_len {M : List (List UInt8 × List UInt8)} : (idsM M).length ≤ M.length * 32 := by
  induction M with
  | nil => simp [idsM]
  | cons p r ih =>
    have h1 : (idsP p.2).length ≤ 32 := by
      unfold idsP
      cases hp : Tn.parse p.2 with
      | none => simp
      | some E => simpa using parse_lenK hp
    simp only [idsM, List.flatMap_cons, List.length_append, List.length_cons] at ih ⊢
    omega

section
variable {mv : Value} {M : List (List UInt8 × List UInt8)} {o1 : Nat → Prop} {St : World → Prop} {w : World}
/-- What Need of a Map answers. -/
structure NdM (o1 : Nat → Prop) (St : World → Prop) (M : List (List UInt8 × List UInt8)) (roots : List (List UInt8)) (w : World) (e : Ending) (w' : World) : Prop where
  kp : Kp o1 w w'
  st : St w'
  gl : GlE w'
  tabs : Tabs w'
  ans : (∃ v, picks (walkW (mpf M) [] roots).2.1.B (walkW (mpf M) [] roots).2.2 (walkW (mpf M) [] roots).2.1.L = none ∧ e = .returned (.tuple #[v, .nilIface]) ∧ OwnI w' w.heap.size v (canon (walkW (mpf M) [] roots).2.1.N)) ∨
    ∃ cd i eb, picks (walkW (mpf M) [] roots).2.1.B (walkW (mpf M) [] roots).2.2 (walkW (mpf M) [] roots).2.1.L = some (cd, i) ∧ e = .returned (.tuple #[.slice none 0 0, faultV eb]) ∧ FltAt w' eb opNeed i (.iface 38 (.int .i64 cd)) ∧ w.heap.size ≤ eb ∧ i.length = 32
structure LkM (o1 : Nat → Prop) (St : World → Prop) (M : List (List UInt8 × List UInt8)) (roots : List (List UInt8)) (w : World) (e : Ending) (w' : World) : Prop where
  kp : Kp o1 w w'
  st : St w'
  gl : GlE w'
  tabs : Tabs w'
  ans : ∃ v, e = .returned (.tuple #[v, .nilIface]) ∧ OwnI w' w.heap.size v (canon (walkW (mpf M) [] roots).2.1.L)
theorem OwnI.base9 {w : World} {b1 b2 : Nat} {v : Value} {C : List (List UInt8)} (h : OwnI w b1 v C) (hb : b2 ≤ b1) : OwnI w b2 v C := by
  refine ⟨⟨h.1.1, ?_⟩, h.2⟩
  rcases h.1.2 with h1 | ⟨g, cap, cur, h1, h2, h3⟩
  · exact .inl h1
  · exact .inr ⟨g, cap, cur, h1, Nat.le_trans hb h2, h3⟩
theorem wz_parts {w0 : World} {wb : World} {ub : Nat → Prop} {T : TypeId} {sv : Value} {P : Nat} {x : Wfd} {s : Ws} {w1 w' : World} (H : Std mv M o1 St) (h : Wz w0 o1 wb ub T sv (G9 o1 St) P x s w1) (hk : Kept [] w1 w') : Kp o1 w0 w' ∧ St w' ∧ GlE w' ∧ Tabs w' := by
  obtain ⟨F, V, o, h1, _⟩ := h
  obtain ⟨rfl, hs, hl⟩ := h1.src
  exact ⟨h1.kp.trans (Kp.ofKept (o := fun _ => False) hk (by simp)) (fun _ h => h.elim), H.keep hs (fun b hb => hk.block b (hl b hb) (by simp)), hk.cellOf h1.gl (by simp), h1.tabs.kept hk (by simp)⟩
theorem need9_ok (H : Std mv M o1 St) (hs : St w) (hl1 : ∀ b, o1 b → b < w.heap.size) (gl : GlE w) (tabs : Tabs w) (ao : Option Addr) (n c : Nat) (L : List Rz) (hl : L.length = n) (hL : Rss w ao L) (hn : n + M.length * 32 ≤ 4398046511104) (hfar : L ≠ [] → ∀ a, ao = some a → a.block < w.heap.size) :
    Calls Tryz.prog 9 #[.iface 26 mv, .slice ao n c] w fun e w' => NdM o1 St M (L.map (·.root)) w e w' := by
  have S := src9 H
  have hG : G9 o1 St [] o1 w := ⟨rfl, hs, hl1⟩
  have hU1 : ∀ q ∈ L.map (·.root), q ∈ L.map (·.root) ++ idsM M := fun q hq => List.mem_append_left _ hq
  have hU2 : ∀ i xs E, mpf M i = .data xs → Tn.parse xs = some E → ∀ e ∈ E, e.id ∈ L.map (·.root) ++ idsM M := fun i xs E h1 h2 e he => List.mem_append_right _ (idsM_in i xs E h1 h2 e he)
  have hUl : (L.map (·.root) ++ idsM M).length ≤ 4398046511104 := by
    have := idsM_len (M := M)
    rw [List.length_append, List.length_map]
    omega
  have hfo := follow_ok S opNeed hG gl tabs H.off ao n c L hl hL (by omega) hfar _ hU1 hU2 hUl rfl
  have hin := walkW_in hU2 [] hU1
  have hne := need_of (f := mpf M) (fn := 0) (rv := mv) hfo _ hin.1 hin.2.1 hin.2.2 hUl
  refine hne.mono ?_
  intro e w' h
  have ht := walk_sem (mpf_nofail M) [] (L.map (·.root))
  rcases h with ⟨i, eb, ev, P, x, wb, ub, h1, _⟩ | ⟨cd, i, eb, w1, P, x, wb, ub, h1, h2, rfl, h4, h5, h8, h6, h7⟩ | ⟨v, w1, P, x, wb, ub, h1, h2, rfl, h4, h5, h6, h7⟩
  · rw [ht.ok] at h1; cases h1
  · obtain ⟨k1, k2, k3, k4⟩ := wz_parts H h7 h6
    exact ⟨k1, k2, k3, k4, .inr ⟨cd, i, eb, h2, rfl, h4, h5, h8⟩⟩
  · obtain ⟨k1, k2, k3, k4⟩ := wz_parts H h7 h6
    exact ⟨k1, k2, k3, k4, .inl ⟨v, h2, rfl, h4.base9 h5⟩⟩
theorem lacks9_ok (H : Std mv M o1 St) (hs : St w) (hl1 : ∀ b, o1 b → b < w.heap.size) (gl : GlE w) (tabs : Tabs w) (ao : Option Addr) (n c : Nat) (L : List Rz) (hl : L.length = n) (hL : Rss w ao L) (hn : n + M.length * 32 ≤ 4398046511104) (hfar : L ≠ [] → ∀ a, ao = some a → a.block < w.heap.size) :
    Calls Tryz.prog 10 #[.iface 26 mv, .slice ao n c] w fun e w' => LkM o1 St M (L.map (·.root)) w e w' := by
  have S := src9 H
  have hG : G9 o1 St [] o1 w := ⟨rfl, hs, hl1⟩
  have hU1 : ∀ q ∈ L.map (·.root), q ∈ L.map (·.root) ++ idsM M := fun q hq => List.mem_append_left _ hq
  have hU2 : ∀ i xs E, mpf M i = .data xs → Tn.parse xs = some E → ∀ e ∈ E, e.id ∈ L.map (·.root) ++ idsM M := fun i xs E h1 h2 e he => List.mem_append_right _ (idsM_in i xs E h1 h2 e he)
  have hUl : (L.map (·.root) ++ idsM M).length ≤ 4398046511104 := by
    have := idsM_len (M := M)
    rw [List.length_append, List.length_map]
    omega
  have hfo := follow_ok S opLacks hG gl tabs H.off ao n c L hl hL (by omega) hfar _ hU1 hU2 hUl rfl
  have hin := walkW_in hU2 [] hU1
  have hne := lacks_of (f := mpf M) (fn := 0) (rv := mv) hfo _ hin.2.1.1 hUl
  refine hne.mono ?_
  intro e w' h
  have ht := walk_sem (mpf_nofail M) [] (L.map (·.root))
  rcases h with ⟨i, eb, ev, P, x, wb, ub, h1, _⟩ | ⟨v, w1, P, x, wb, ub, h1, rfl, h4, h5, h6, h7⟩
  · rw [ht.ok] at h1; cases h1
  · obtain ⟨k1, k2, k3, k4⟩ := wz_parts H h7 h6
    exact ⟨k1, k2, k3, k4, v, rfl, h4.base9 h5⟩
end
end

end Go.Proofs.YtngaimahhgmciabGreatDoor
