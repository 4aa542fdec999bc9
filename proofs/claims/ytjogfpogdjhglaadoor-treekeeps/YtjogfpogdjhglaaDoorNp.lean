/-
  append of bytes. Contract: freightref7.Encode.
-/
import Derived.Test.YtjogfpogdjhglaaDoorNm
import Derived.Lib.AppendStr
namespace Go.Proofs.YtjogfpogdjhglaaDoor
open Go.RowKit
set_option linter.unusedVariables false
set_option linter.unusedSimpArgs false

/-- Bytes in memory of a call's own. -/
def OwnB (w : World) (base : Nat) (v : Value) (xs : List UInt8) : Prop := w.ownsRow base 5 1 v xs.length (bys xs)
theorem OwnB.shape {w : World} {base : Nat} {v : Value} {xs : List UInt8} (h : OwnB w base v xs) : ∃ ao cap, v = .slice ao xs.length cap ∧ xs.length ≤ cap ∧ Sl w ao xs ∧ (∀ a, ao = some a → ∃ g, a = ⟨g, 0, none⟩ ∧ base ≤ g ∧ g < w.heap.size ∧ v.ownBlock = some g) ∧ cap ≤ 9223372036854775807 ∧ (ao = none → xs = [] ∧ cap = 0) := by
  rcases h.2 with ⟨rfl, h0⟩ | ⟨g, cap, cur, rfl, hb, hg, hn, hc, hs, ht⟩
  · have : xs = [] := List.eq_nil_of_length_eq_zero h0
    subst this
    exact ⟨none, 0, rfl, Nat.le_refl _, Sl.nil _ _, by simp, by omega, fun _ => ⟨rfl, rfl⟩⟩
  · refine ⟨_, cap, rfl, hn, fun i hi => ⟨g, 0, rfl, ?_⟩, fun a ha => ?_, by unfold maxLen at hc; omega, by simp⟩
    · rw [Nat.zero_add, cell_of_row _ _ _ _ _ _ hg]
      have h1 := bys_at hi
      rw [← ht, List.getElem?_take] at h1
      split at h1
      · simpa using h1
      · cases h1
    · cases ha
      exact ⟨g, rfl, hb, (Array.getElem?_eq_some_iff.1 hg).1, rfl⟩
theorem OwnB.kept {l : List Nat} {w w' : World} {base : Nat} {v : Value} {xs : List UInt8} (h : OwnB w base v xs) (hk : Kept l w w') (hn : ∀ g, v.ownBlock = some g → g ∉ l) : OwnB w' base v xs := by
  refine ⟨h.1, ?_⟩
  rcases h.2 with h0 | ⟨g, cap, cur, hv, hb, hg, rest⟩
  · exact .inl h0
  · refine .inr ⟨g, cap, cur, hv, hb, ?_, rest⟩
    rw [hk.block g (Array.getElem?_eq_some_iff.1 hg).1 (hn g (by rw [hv]; rfl))]
    exact hg
theorem OwnB.far {w : World} {base : Nat} {v : Value} {xs : List UInt8} (h : OwnB w base v xs) (g : Nat) (hg : v.ownBlock = some g) : base ≤ g ∧ g < w.heap.size := by
  obtain ⟨ao, cap, rfl, _, _, hb, _⟩ := h.shape
  cases ao with
  | none => simp [Value.ownBlock] at hg
  | some a =>
    obtain ⟨g', rfl, h1, h2, h3⟩ := hb a rfl
    rw [hg] at h3; cases h3; exact ⟨h1, h2⟩
theorem OwnB.ne {w : World} {base V : Nat} {v : Value} {xs : List UInt8} {cs : Array Value} {fr : Nat × Nat} (h : OwnB w base v xs) (hV : w.heap[V]? = some (.cells cs 42 fr)) : V ∉ v.ownBlock.toList := by
  rcases h.2 with ⟨rfl, h0⟩ | ⟨g, cap, cur, rfl, hb, hg, _⟩
  · simp [Value.ownBlock]
  · simp only [Value.ownBlock, Option.toList, List.mem_singleton]
    rintro rfl
    rw [hg] at hV
    simp at hV
theorem Kept.heap {l : List Nat} {w w' : World} (h : Kept l w w') {g : Nat} {o : Obj} (hg : w.heap[g]? = some o) (hn : g ∉ l) : w'.heap[g]? = some o := by
  rw [h.block g (Array.getElem?_eq_some_iff.1 hg).1 hn]; exact hg
theorem Tryd.infoByte3 : (Tryd.prog.info? 5).map (fun i => (i.zero, i.size, i.bytes)) = some (some (.int .u8 0), 1, 1) := by kernel_rfl
/-- append(row, bytes...). -/
theorem run_appB (w : World) (base : Nat) (v : Value) (xs ys : List UInt8) (h : OwnB w base v xs) (yb yo c : Nat) (hy : ∀ i, i < ys.length → w.cell? ⟨yb, yo + i, none⟩ = some (.int .u8 (ys.getD i 0).toNat)) (hl : xs.length + ys.length ≤ 140737488355328) (hb : base ≤ w.heap.size) :
    ∃ v' w', (Builtin.append_ #[23, 23] 23 #[v, .slice (some ⟨yb, yo, none⟩) ys.length c]).run Tryd.prog w = .ok v' w' ∧ OwnB w' base v' (xs ++ ys) ∧ Kept v.ownBlock.toList w w' := by
  obtain ⟨i0, hi, hz0, hz1, hz2⟩ := info_parts Tryd.infoByte3
  obtain ⟨v', w', hrun, h1', h2, h3, h4⟩ := run_append_own_at (P := Tryd.prog) w base 23 23 5 i0 (.int .u8 0) 1 1 Tryd.underlying23 hi hz0 hz1 hz2 rfl (by omega) v xs.length (bys xs) h ⟨yb, yo, none⟩ ys.length c (bys ys) (by rw [bys_length]; omega)
    (fun j u hj => by obtain ⟨hj', rfl⟩ := bys_get hj; rw [Addr.add_mid]; exact hy j hj') (bys_oneCell ys) (by unfold maxLen; omega) (by omega) hb
  refine ⟨v', w', hrun, ?_, (Kept.refl _ w).grown h2 (fun k hk _ => by simp [hk])⟩
  unfold OwnB
  rw [List.length_append, bys_append]
  exact h1'
/-- append(row, text...). -/
theorem run_appS (w : World) (base : Nat) (v : Value) (xs ys : List UInt8) (h : OwnB w base v xs) (hl : xs.length + ys.length ≤ 140737488355328) (hb : base ≤ w.heap.size) :
    ∃ v' w', (Builtin.append_ #[23, 9] 23 #[v, .string ⟨ys.toArray⟩]).run Tryd.prog w = .ok v' w' ∧ OwnB w' base v' (xs ++ ys) ∧ Kept v.ownBlock.toList w w' := by
  obtain ⟨i0, hi, hz0, hz1, hz2⟩ := info_parts Tryd.infoByte3
  obtain ⟨v', w', hrun, h1', h2, h3⟩ := Lib.run_append_own_string (P := Tryd.prog) (w := w) base 23 9 23 5 i0 Tryd.underlying23 Tryd.underlying9 hi hz0 hz1 hz2 v xs.length (bys xs) h ⟨ys.toArray⟩ (by rw [str_size]; unfold maxLen; omega) (by rw [str_size]; omega) hb
  refine ⟨v', w', hrun, ?_, (Kept.refl _ w).grown h2 (fun k hk _ => by simp [hk])⟩
  unfold OwnB
  rw [str_size] at h1'
  have e1 : Lib.strCells ⟨ys.toArray⟩ = bys ys := by simp [Lib.strCells, bys]
  rw [e1] at h1'
  rw [List.length_append, bys_append]
  exact h1'
theorem own_new (w : World) (xs : List UInt8) (hl : xs.length ≤ 4294967296) (hne : xs ≠ []) : OwnB (w.alloc (.cells (bys xs).toArray 5)) w.heap.size (.slice (some ⟨w.heap.size, 0, none⟩) xs.length xs.length) xs := by
  refine ⟨by rw [bys_length]; omega, .inr ⟨w.heap.size, xs.length, (bys xs).toArray, rfl, Nat.le_refl _, heap_new w _, Nat.le_refl _, by unfold maxLen; omega, ?_, ?_⟩⟩
  · simp [bys_length]
  · rw [List.take_of_length_le]
    simp [bys_length]

set_option maxHeartbeats 3200000 in
set_option maxRecDepth 100000 in
theorem refencode_no (ao : Option Addr) (n cap : Nat) (L : List Ent) (w : World) (hn : L.length = n) (hm : n ≤ 9223372036854775807) (hL : Ents w ao L) (ht : Tn.isTree L = false) :
    Calls Tryd.prog 7 #[.slice ao n cap] w fun r w' => Told w w' r false [] := by
  have ha := is_ok ao n cap L w hn hm hL
  rw [ht] at ha
  clear hL ht
  go_enter Tryd.func7, Tryd.ntmps7
  go_wp2_with (go_at_call 24; refine ha.mono ?_; rintro r w1 ⟨rfl, hb⟩)
  go_ret2
  exact ⟨⟨_, rfl, World.ownsRow_nil _ _ _ _⟩, hb⟩

set_option maxHeartbeats 6400000 in
set_option maxRecDepth 100000 in
theorem refencode_yes (b off n cap : Nat) (L : List Ent) (w : World) (hn : L.length = n) (hL : Ents w (some ⟨b, off, none⟩) L) (ht : Tn.isTree L = true) (ao : Option Addr) (hao : n = 0 ∨ ao = some ⟨b, off, none⟩) (hLa : Ents w ao L) :
    Calls Tryd.prog 7 #[.slice ao n cap] w fun r w' => Told w w' r true (Tn.encT L) := by
  have h32 := Tn.isTree_len ht
  rw [hn] at h32
  have ha := is_ok ao n cap L w hn (by omega) hLa
  rw [ht] at ha
  have hok : ∀ i, i < L.length → EntOk (L.getD i ent0) := fun i hi => by obtain ⟨_, _, _, _, h⟩ := hL i hi; exact h
  have HFL : Hid (∀ k, k ≤ L.length → ((L.take k).flatMap Tn.encE).length ≤ 66 * k) := fun k hk => Tn.flat_len hok ht k hk
  have HTA : Hid (∀ k, k < L.length → 1 ≤ (L.getD k ent0).kind ∧ (L.getD k ent0).kind ≤ 3 ∧ (L.getD k ent0).name.length ≤ 32) := fun k hk => Tn.isTree_at ht hk
  have HN : Hid (L.length = n) := hn
  have HL : Hid (Ents w (some ⟨b, off, none⟩) L) := hL
  clear hn hL ht hLa hok
  have hz := Tryd.zeroEntry
  have hwn : IntKind.u8.wrap (n : Int) = n := by rw [IntKind.wrap_u8]; omega
  go_enter Tryd.func7, Tryd.ntmps7
  go_upto_region 3 with (go_at_call 24; refine ha.mono ?_; rintro r w1 ⟨rfl, hb1⟩)
  clear ha
  go_wp2_with (fail)
  have o2 : OwnB (w1.alloc (.cells #[.int .u8 84, .int .u8 n] 5)) w.heap.size (.slice (some ⟨w1.heap.size, 0, none⟩) 2 2) [84, UInt8.ofNat n] := by
    have := own_new w1 [84, UInt8.ofNat n] (by simp) (by simp)
    have e1 : (bys [84, UInt8.ofNat n]).toArray = #[.int .u8 84, .int .u8 n] := by
      simp [bys, UInt8.toNat_ofNat', Nat.mod_eq_of_lt (show n < 256 by omega)]
    rw [e1] at this
    exact own_base this hb1.size
  have H2 : Hid (OwnB (w1.alloc (.cells #[.int .u8 84, .int .u8 n] 5)) w.heap.size (.slice (some ⟨w1.heap.size, 0, none⟩) 2 2) [84, UInt8.ofNat n] ∧ Below w.heap.size w (w1.alloc (.cells #[.int .u8 84, .int .u8 n] 5))) := ⟨o2, hb1.alloc hb1.size _⟩
  clear o2 hb1
  go_loopw [4, 5] (fun x y wr => ∃ k : Nat, k ≤ n ∧ y = .int .i64 k ∧ Hid (OwnB wr w.heap.size x ([84, UInt8.ofNat n] ++ (L.take k).flatMap Tn.encE)) ∧ Hid (Below w.heap.size w wr)) (fun x y wr => n - (intOf y).toNat)
  case atStart => exact ⟨0, Nat.zero_le _, rfl, by show OwnB _ _ _ _; simpa using H2.out.1, H2.out.2⟩
  case round =>
    obtain ⟨k, hk, rfl, HO, HB⟩ := hrel
    have hlen : ([84, UInt8.ofNat n] ++ (L.take k).flatMap Tn.encE).length ≤ 2 + 66 * 32 := by
      have := HFL.out k (by rw [HN.out]; exact hk)
      simp only [List.length_append, List.length_cons, List.length_nil]; omega
    by_cases hlt : k < n
    · obtain rfl : ao = some ⟨b, off, none⟩ := by rcases hao with h | h; · omega
                                                  · exact h
      have hkl : k < L.length := by rw [HN.out]; exact hlt
      obtain ⟨_, _, hx, hrg, hok⟩ := (HL.out.below HB.out) k hkl
      cases hx
      obtain ⟨t1, t3, tn⟩ := HTA.out k hkl
      have HF : Hid ((L.take (k + 1)).flatMap Tn.encE = (L.take k).flatMap Tn.encE ++ Tn.encE (L.getD k ent0)) := Tn.flat_snoc L k hkl
      generalize L.getD k ent0 = e at *
      have hnz := new_zero wr
      have hil : (Tryd.prog.info? 42).map (·.size) = some e.cells.length := by rw [hok.len]; exact Tryd.infoEntry
      have hia : (Tryd.prog.info? 42).map (·.size) = some e.cells.toArray.size := by rw [ent_size hok]; exact Tryd.infoEntry
      have hzs := zero_size hok
      have hal := ent_all e
      have hWb := withEnt_below wr e
      have hWr := ent_range (withEnt_row wr e)
      have HRow := hide (withEnt_row wr e)
      have hWl := withEnt_size wr e
      obtain ⟨kd, hkd⟩ : ∃ kd : Nat, e.kind = kd := ⟨e.kind.toNat, by omega⟩
      obtain ⟨nl, hnl⟩ : ∃ nl : Nat, e.name.length = nl := ⟨_, rfl⟩
      have hwk : IntKind.u8.wrap (kd : Int) = kd := by rw [IntKind.wrap_u8]; omega
      have hwl : IntKind.u8.wrap (nl : Int) = nl := by rw [IntKind.wrap_u8]; omega
      have oW : OwnB (withEnt wr e) w.heap.size _ _ := HO.out.kept (Kept.of_below hWb) (by simp)
      have bW : Below w.heap.size w (withEnt wr e) := HB.out.trans (hWb.mono HB.out.size)
      have c0 := hWr 0 _ rfl
      have c1 := hWr 1 _ rfl
      rw [hkd, Nat.zero_add] at c1
      rw [Nat.zero_add] at c0
      have hss : (ByteArray.mk e.name.toArray).size = nl := by rw [str_size]; exact hnl
      have HOK : Hid (EntOk e ∧ e.kind = kd ∧ e.name.length = nl ∧ nl ≤ 32 ∧ kd ≤ 3) := ⟨hok, hkd, hnl, by omega, by omega⟩
      have HLen := hide hlen
      have HVW : Hid (wr.heap.size < (withEnt wr e).heap.size ∧ w.heap.size ≤ wr.heap.size) := ⟨by omega, HB.out.size⟩
      have HWr := hide hWr
      have HW01 := hide (And.intro c0 c1)
      clear c0 c1
      clear hok hkd hnl t1 t3 tn hWr hlen
      go_upto_region 8 with (first | refine wpList_load_mid rfl 42 (.tmp 22) rfl b (off + k * 34) rfl e.cells _ hrg Tryd.underlying42 rfl hil ?_ | refine wpList_store_rowTo rfl 42 (.tmp 6) (.tmp 23) rfl rfl wr.heap.size e.cells.toArray rfl rfl 42 zeroE hnz hia hzs hal ?_)
      have hW : (wr.alloc (.cells zeroE 42)).setRow wr.heap.size e.cells.toArray = withEnt wr e := rfl
      rw [hW]
      obtain ⟨V, hV⟩ : ∃ V, wr.heap.size = V := ⟨_, rfl⟩
      rw [hV] at HVW HWr HW01 HRow ⊢
      obtain ⟨c0, c1⟩ := HW01.out
      clear hrg hil hia hzs hal hnz hW hWb hWl hV
      generalize withEnt wr e = W at *
      -- append(out, byte(kind), byte(len))
      have kN : Kept [] W (W.alloc (.cells #[.int .u8 kd, .int .u8 nl] 5)) := (Kept.refl [] W).alloc _
      obtain ⟨v1, W1, hr1, o1, k1⟩ := run_appB (W.alloc (.cells #[.int .u8 kd, .int .u8 nl] 5)) w.heap.size _ _ [UInt8.ofNat kd, UInt8.ofNat nl] (oW.kept kN (by simp)) W.heap.size 0 2 (fun i hi => by
        have hnew := heap_new W (.cells #[.int .u8 kd, .int .u8 nl] 5)
        rw [Nat.zero_add, cell_of_row _ _ _ _ _ _ hnew]
        have h3 := HOK.out
        have : i = 0 ∨ i = 1 := by simp at hi; omega
        rcases this with rfl | rfl
        · simp [UInt8.toNat_ofNat', Nat.mod_eq_of_lt (show kd < 256 by omega)]
        · simp [UInt8.toNat_ofNat', Nat.mod_eq_of_lt (show nl < 256 by omega)]) (by have := HLen.out; simp only [List.length_cons, List.length_nil] at *; omega) (Nat.le_trans bW.size kN.size)
      have b1 : Below w.heap.size w W1 := (bW.trans (kN.below bW.size (by simp))).trans (k1.below (Nat.le_trans bW.size kN.size) (fun g hg => (oW.far g (by simpa using hg)).1))
      have n0 : V ∉ (Value.ownBlock u4).toList := oW.ne HRow.out
      have rV1 : W1.heap[V]? = some (.cells e.cells.toArray 42 (0, 0)) := k1.heap (kN.heap HRow.out (by simp)) n0
      have c01 : W1.cell? ⟨V, 0, none⟩ = some (.string ⟨e.name.toArray⟩) := by rw [cell_of_row _ _ _ _ _ _ rV1]; rfl
      -- append(out, name...)
      obtain ⟨v2, W2, hr2, o2, k2⟩ := run_appS W1 w.heap.size v1 _ e.name o1 (by have := HLen.out; have := HOK.out; simp only [List.length_append, List.length_cons, List.length_nil] at *; omega) b1.size
      have b2 : Below w.heap.size w W2 := b1.trans (k2.below b1.size (fun g hg => (o1.far g (by simpa using hg)).1))
      have rV2 : W2.heap[V]? = some (.cells e.cells.toArray 42 (0, 0)) := k2.heap rV1 (o1.ne rV1)
      -- append(out, id...)
      obtain ⟨v3, W3, hr3, o3, k3⟩ := run_appB W2 w.heap.size v2 _ e.id o2 V 2 32 (fun i hi => by
        rw [cell_of_row _ _ _ _ _ _ rV2]
        simp only [Ent.cells, List.getElem?_toArray, show 2 + i = (i + 1) + 1 by omega, List.getElem?_cons_succ]
        exact bys_at hi) (by have := HLen.out; have := HOK.out; have := HOK.out.1.idl; simp only [List.length_append, List.length_cons, List.length_nil] at *; omega) b2.size
      have b3 : Below w.heap.size w W3 := b2.trans (k3.below b2.size (fun g hg => (o2.far g (by simpa using hg)).1))
      rw [show [UInt8.ofNat kd, UInt8.ofNat nl].length = 2 from rfl] at hr1
      rw [HOK.out.1.idl] at hr3
      have s32 := fun W => Tryd.slice32 W V 2
      have H3 : Hid (OwnB W3 w.heap.size v3 ([84, UInt8.ofNat n] ++ (L.take (k + 1)).flatMap Tn.encE) ∧ Below w.heap.size w W3) := by
        refine ⟨?_, b3⟩
        have e1 : [84, UInt8.ofNat n] ++ (L.take (k + 1)).flatMap Tn.encE = [84, UInt8.ofNat n] ++ (L.take k).flatMap Tn.encE ++ [UInt8.ofNat kd, UInt8.ofNat nl] ++ e.name ++ e.id := by
          rw [HF.out]
          simp [Tn.encE, HOK.out.2.1, HOK.out.2.2.1]
        rw [e1]; exact o3
      have c02 : W2.cell? ⟨V, 0, none⟩ = some (.string ⟨e.name.toArray⟩) := by rw [cell_of_row _ _ _ _ _ _ rV2]; rfl
      clear oW bW o1 k1 b1 n0 rV1 o2 k2 b2 rV2 o3 k3 b3 kN
      go_upto_region 9 with (refine wpList_app_run rfl (.tmp 24) (.tmp 32) 23 23 rfl u4 (.slice (some ⟨W.heap.size, 0, none⟩) 2 2) rfl rfl v1 W1 hr1 ?_)
      clear hr1 c0 c1 hwk hwl hss
      go_upto_region 10 with (refine wpList_app_run rfl (.tmp 34) (.tmp 36) 23 9 rfl v1 (.string ⟨e.name.toArray⟩) rfl rfl v2 W2 hr2 ?_)
      clear hr2 c01 c02
      go_wp2_with (refine wpList_app_run rfl (.tmp 38) (.tmp 40) 23 23 rfl v2 (.slice (some ⟨V, 2, none⟩) 32 32) rfl rfl v3 W3 hr3 ?_)
      go_roundw
      case rel => exact ⟨k + 1, by omega, by go_num, H3.out.1, H3.out.2⟩
      case measure => simp [intOf]; omega
    · obtain rfl : k = n := by omega
      have he : [84, UInt8.ofNat k] ++ (L.take k).flatMap Tn.encE = Tn.encT L := by
        rw [List.take_of_length_le (by rw [HN.out]; exact Nat.le_refl _)]
        simp [Tn.encT, HN.out]
      have ho := HO.out
      rw [he] at ho
      have HO2 := hide ho
      clear ho he HO hlen
      go_wp2
      go_ret2
      exact ⟨⟨_, rfl, HO2.out⟩, HB.out⟩
/-- freightref7.Encode. -/
theorem refencode_ok (ao : Option Addr) (n cap : Nat) (L : List Ent) (w : World) (hn : L.length = n) (hm : n ≤ 9223372036854775807) (hL : Ents w ao L) :
    Calls Tryd.prog 7 #[.slice ao n cap] w fun r w' => Told w w' r (Tn.isTree L) (Tn.encd L) := by
  by_cases ht : Tn.isTree L = true
  · have he : Tn.encd L = Tn.encT L := by simp [Tn.encd, ht]
    rw [he, ht]
    by_cases h0 : L = []
    · subst h0
      obtain rfl : n = 0 := by simpa using hn.symm
      exact refencode_yes 0 0 0 cap [] w rfl (Ents.nil _ _) ht ao (.inl rfl) hL
    · obtain ⟨b, off, rfl, hb, _⟩ := hL.open h0
      exact refencode_yes b off n cap L w hn hL ht _ (.inr rfl) hL
  · have ht' : Tn.isTree L = false := by simpa using ht
    have he : Tn.encd L = [] := by simp [Tn.encd, ht']
    rw [he, ht']
    exact refencode_no ao n cap L w hn hm hL ht'
end Go.Proofs.YtjogfpogdjhglaaDoor
