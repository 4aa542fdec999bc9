/-
  Contracts: tree.isSound, tree.readEntry.
-/
import Derived.Test.YtjogfpogdjhglaaDoorNj
import Derived.Lib.SlBuf
import Derived.Lib.BufferRead
import Derived.Laws.IdiomStrings
import Derived.Laws.CopyRow
import Derived.Laws.IdiomCopy
namespace Go.Proofs.YtjogfpogdjhglaaDoor
open Go.RowKit
set_option linter.unusedVariables false
set_option linter.unusedSimpArgs false

theorem ret_row {P : Program} {fn : Func} {p : Tmp} {ty : TypeId} {R : Ending → World → Prop} {a : Act} {w : World} (h : fn.results = #[.cell p ty]) (hd : a.defers = []) (g : Nat) (t : TypeId) (cs : Array Value) (fr : Nat × Nat) (d : TypeDesc)
    (hp : a.tmps.getD p undef = .pointer (some ⟨g, 0, none⟩)) (hg : w.heap[g]? = some (.cells cs t fr)) (hu : P.underlying ty = some d) (hx : (match d with | .struct _ | .array _ _ => true | _ => false) = true) (hi : (P.info? ty).map (·.size) = some cs.size)
    (hR : R (.returned (.agg cs)) w) : bodyPost P fn R .ret a w :=
  bodyPost_ret (results_cell_row h a.tmps w g t cs fr d hp hg hu hx hi) hd hR

set_option maxRecDepth 100000 in
theorem isSound_ok {w : World} {b : Nat} {ao : Option Addr} {cap : Nat} {xs : List UInt8} {s : Rs} (h : RdS w b ao cap xs s) :
    Calls Tryd.prog 33 #[.pointer (some ⟨b, 0, none⟩)] w fun r w' => r = .returned (.bool (decide (s.e = 0))) ∧ ∃ n, w' = w.drewN n := by
  have he := err_st h
  obtain ⟨at_, e, p⟩ := s
  simp only at he ⊢
  clear h
  by_cases h0 : e = 0
  · subst h0
    go_enter Tryd.func33, Tryd.ntmps33
    go_wp2_with (go_at_call 45; refine he.mono ?_; rintro r w1 ⟨rfl, hn⟩)
    go_ret
    exact ⟨rfl, hn⟩
  · have h1 : (e == 0) = false := by simpa using h0
    go_enter Tryd.func33, Tryd.ntmps33
    go_wp2_with (go_at_call 45; refine he.mono ?_; rintro r w1 ⟨rfl, hn⟩)
    go_ret
    exact ⟨by simp [Act.eval, h0], hn⟩
/-- string(b). -/
theorem conv_sl (W : World) (ao : Option Addr) (n c : Nat) (xs : List UInt8) (hn : xs.length = n) (h : Sl W ao xs) (h0 : ao = none → n = 0) : (convert 23 9 (.slice ao n c)).run Tryd.prog W = .ok (.string ⟨xs.toArray⟩) W := by
  cases ao with
  | none =>
    obtain rfl := h0 rfl
    have : xs = [] := List.eq_nil_of_length_eq_zero hn
    subst this
    exact Lib.run_convert_nil_bytes W 23 9 5 c Tryd.underlying23 Tryd.underlying5 Tryd.underlying9
  | some ad =>
    subst hn
    refine run_convert_bytes_back W 23 9 5 ad c xs Tryd.underlying23 Tryd.underlying5 Tryd.underlying9 (fun j hj => ?_)
    obtain ⟨b', off', e', hcell⟩ := h j hj
    injection e' with e'
    subst e'
    rw [show ((⟨b', off', none⟩ : Addr).add j) = ⟨b', off' + j, none⟩ from by unfold Addr.add; by_cases h : j = 0 <;> simp [h], hcell]
    simp [List.getElem?_eq_getElem hj]

theorem RdS.blk {w : World} {b : Nat} {ao : Option Addr} {cap : Nat} {xs : List UInt8} {s : Rs} (h : RdS w b ao cap xs s) (hx : xs ≠ []) (a : Addr) (ha : ao = some a) : a.block < w.heap.size := by
  obtain ⟨_, _, hr⟩ := h
  obtain ⟨b', off, e, hl, _⟩ := hr.sl.open hx
  rw [e] at ha; cases ha
  exact hl
/-- In readEntry: the reader, the variable, the result's place. -/
structure Rx (w W : World) (b : Nat) (ao : Option Addr) (cap : Nat) (xs : List UInt8) (s : Rs) (e : Ent) : Prop where
  rd : RdS W b ao cap xs s
  kp : Kept [b] w W
  lt : b < w.heap.size
  bl : xs ≠ [] → ∀ a, ao = some a → a.block < w.heap.size
  er : W.heap[w.heap.size + 1]? = some (.cells e.cells.toArray 42 (0, 0))
  rr : W.heap[w.heap.size]? = some (.cells zeroE 42 (0, 0))
section
variable {w W W' : World} {b : Nat} {ao : Option Addr} {cap : Nat} {xs : List UInt8} {s s' : Rs} {e : Ent}
theorem Rx.start (h : RdS w b ao cap xs s) : Rx w ((w.alloc (.cells zeroE 42)).alloc (.cells zeroE 42)) b ao cap xs s ent0 := by
  have hk : Kept [] w ((w.alloc (.cells zeroE 42)).alloc (.cells zeroE 42)) := ((Kept.refl [] w).alloc _).alloc _
  refine ⟨h.kept hk (by simp) (by simp), hk.mono (by simp), h.lt, fun hx a ha => h.blk hx a ha, ?_, ?_⟩
  · have := heap_new (w.alloc (.cells zeroE 42)) (.cells zeroE 42)
    have hsz : (w.alloc (.cells zeroE 42)).heap.size = w.heap.size + 1 := by simp
    rw [hsz] at this
    exact this
  · have h1 : Kept [] (w.alloc (.cells zeroE 42)) ((w.alloc (.cells zeroE 42)).alloc (.cells zeroE 42)) := (Kept.refl [] _).alloc _
    rw [h1.block w.heap.size (by simp) (by simp)]
    exact heap_new w _
theorem Rx.call (h : Rx w W b ao cap xs s e) (hk : Kept [b] W W') (hr : RdS W' b ao cap xs s') : Rx w W' b ao cap xs s' e := by
  have h1 := (Array.getElem?_eq_some_iff.1 h.er).1
  have := h.lt
  exact ⟨hr, h.kp.trans hk (by simp), h.lt, h.bl, by rw [hk.block _ h1 (by simp; omega)]; exact h.er, by rw [hk.block _ (by omega) (by simp; omega)]; exact h.rr⟩
theorem Rx.turn (h : Rx w W b ao cap xs s e) (hk : Kept [w.heap.size + 1] W W') {e' : Ent} (hr : W'.heap[w.heap.size + 1]? = some (.cells e'.cells.toArray 42 (0, 0))) : Rx w W' b ao cap xs s e' := by
  have h1 := (Array.getElem?_eq_some_iff.1 h.er).1
  have := h.lt
  refine ⟨h.rd.kept hk (by simp; omega) (fun hx a ha => by have := h.bl hx a ha; simp; omega), ?_, h.lt, h.bl, hr, by rw [hk.block _ (by omega) (by simp)]; exact h.rr⟩
  refine ⟨hk.os.trans h.kp.os, hk.tape.trans h.kp.tape, hk.output.trans h.kp.output, Nat.le_trans h.kp.size hk.size, fun k hk1 hk2 => ?_⟩
  rw [hk.block k (Nat.lt_of_lt_of_le hk1 h.kp.size) (by simp; omega)]
  exact h.kp.block k hk1 hk2
theorem Rx.cell (h : Rx w W b ao cap xs s e) (j : Nat) : W.cell? ⟨w.heap.size + 1, j, none⟩ = e.cells[j]? := by
  rw [cell_of_row _ _ _ _ _ _ h.er]; simp
theorem Rx.free (h : Rx w W b ao cap xs s e) (j : Nat) : W.frozen? ⟨w.heap.size + 1, j, none⟩ = false := frozen_of_row _ _ _ _ _ h.er
theorem Rx.kind (h : Rx w W b ao cap xs s e) (k : Int) : Rx w (W.setCell ⟨w.heap.size + 1, 1, none⟩ (.int .i64 k)) b ao cap xs s ⟨e.name, k, e.id⟩ := by
  refine h.turn ((Kept.refl _ W).setCell (by simp) _) ?_
  rw [heap_setCell_same W _ 1 _ _ _ h.er]
  simp [Ent.cells]
theorem Rx.name (h : Rx w W b ao cap xs s e) (nm : List UInt8) : Rx w (W.setCell ⟨w.heap.size + 1, 0, none⟩ (.string ⟨nm.toArray⟩)) b ao cap xs s ⟨nm, e.kind, e.id⟩ := by
  refine h.turn ((Kept.refl _ W).setCell (by simp) _) ?_
  rw [heap_setCell_same W _ 0 _ _ _ h.er]
  simp [Ent.cells]
theorem Rx.drewN (h : Rx w W b ao cap xs s e) (n : Nat) : Rx w (W.drewN n) b ao cap xs s e := ⟨h.rd.drewN n, h.kp.drewN n, h.lt, h.bl, h.er, h.rr⟩
end

theorem kept_row (w : World) (g : Nat) (cs : Array Value) : Kept [g] w (w.setRow g cs) := ⟨rfl, rfl, rfl, by rw [size_setRow]; exact Nat.le_refl _, fun k hk hn => setRow_other _ _ _ _ (by simpa using hn)⟩
theorem Tn.raw_len (xs : List UInt8) (s : Rs) : (stRaw xs s 32).1 = [] ∨ (stRaw xs s 32).1.length = 32 := by
  unfold stRaw
  repeat' split
  all_goals first | (left; rfl) | (right; simp; omega)
set_option maxHeartbeats 3200000 in
set_option maxRecDepth 100000 in
theorem readEntry_ok {w : World} {b : Nat} {ao : Option Addr} {cap : Nat} {xs : List UInt8} {a : Nat} {p : Int} (h : RdS w b ao cap xs ⟨a, 0, p⟩) :
    Calls Tryd.prog 34 #[.pointer (some ⟨b, 0, none⟩)] w fun r w' => ((∃ e a', Tn.entAt xs a = some (e, a') ∧ r = .returned (.agg e.cells.toArray) ∧ RdS w' b ao cap xs ⟨a', 0, p⟩) ∨ (Tn.entAt xs a = none ∧ r = gaveUp)) ∧ Kept [b] w w' := by
  have hz := Tryd.zeroEntry
  have hs := Rx.start h
  have hf := rfixed_st hs.rd 1
  have HS := hide hs
  have e1 : stFixed xs ⟨a, 0, p⟩ 1 = Tn.rd1 xs a p := rfl
  rw [e1] at hf
  have E2 : Hid (stText xs (Tn.rd1 xs a p).2 32 = Tn.rd2 xs a p) := rfl
  have E3 : Hid (stRaw xs (Tn.rd2 xs a p).2 32 = Tn.rd3 xs a p) := rfl
  have E4 : Hid ((Tn.rd3 xs a p).1 = [] ∨ (Tn.rd3 xs a p).1.length = 32) := Tn.raw_len xs _
  have EN : Hid (Tn.entAt xs a = none → (Tn.rd3 xs a p).2.e ≠ 0) := Tn.rd_none
  have ES : Hid (∀ e a', Tn.entAt xs a = some (e, a') → (Tn.rd1 xs a p).1 = e.kind ∧ (Tn.rd2 xs a p).1 = e.name ∧ Tn.rd3 xs a p = (e.id, ⟨a', 0, p⟩) ∧ EntOk e) := fun e a' h => Tn.rd_some h
  clear e1 hs h
  generalize Tn.rd1 xs a p = r1 at *
  generalize Tn.rd2 xs a p = r2 at *
  generalize Tn.rd3 xs a p = r3 at *
  obtain ⟨K1, s1⟩ := r1
  obtain ⟨N2, s2⟩ := r2
  obtain ⟨I3, s3⟩ := r3
  simp only at hf E2 E3 E4 EN ES
  go_enter Tryd.func34, Tryd.ntmps34
  go_upto_region 3 with (go_at_call 31; refine hf.mono ?_; rintro r w1 ⟨rfl, hk1, hr1⟩; have hx1 := HS.out.call hk1 hr1; have c1 : w1.cell? ⟨w.heap.size + 1, 1, none⟩ = some (.int .i64 0) := hx1.cell 1; have f1 := hx1.free 1; have H2 := hide (hx1.kind K1); clear hf hk1 hr1 hx1 HS)
  clear c1 f1 hz
  generalize World.setCell w1 _ _ = w2 at H2 ⊢
  have ht := text_st H2.out.rd 32
  rw [E2.out] at ht
  go_upto_region 4 with (go_at_call 46; refine ht.mono ?_; rintro r w3 ⟨⟨ao3, cap3, rfl, hfr⟩, hk3, hr3⟩; have hx3 := H2.out.call hk3 hr3; have cv := conv_sl w3 ao3 N2.length cap3 N2 rfl hfr.1 (fun h => by rw [(hfr.2.2.1 h).1]; rfl); have c3 : w3.cell? ⟨w.heap.size + 1, 0, none⟩ = some (.string ⟨#[]⟩) := hx3.cell 0; have f3 := hx3.free 0; have H4 := hide (hx3.name N2); clear ht hk3 hr3 hx3 hfr H2)
  clear c3 f3 cv
  generalize World.setCell w3 _ _ = w4 at H4 ⊢
  refine wp_region_held_drew (S := fun w' => True) (by kernel_rfl) trivial (fun h0 => ?_)
  have H0 : Hid (Rx w w4.drew b ao cap xs s2 ⟨N2, K1, List.replicate 32 0⟩) := H4.out.drewN 1
  clear H4
  generalize World.drew w4 = v0 at H0 h0 ⊢
  refine wpAnyH_take (i := 0) (v := .pointer (some ⟨w.heap.size + 1, 2, none⟩)) rfl (by kernel_rfl) (by kernel_rfl) (by kernel_rfl) (fun _ _ _ h => h) (Or.inl ⟨by rfl, fun w hSw => by go_simp⟩) h0 ?_
  try simp only [List.getElem_toArray, List.getElem_cons_zero, List.getElem_cons_succ, Act.put, List.setIfInBounds_toArray, List.set_cons_zero, List.set_cons_succ]
  refine wpAnyH_take (i := 1) (v := .slice (some ⟨w.heap.size + 1, 2, none⟩) 32 32) rfl (by kernel_rfl) (by kernel_rfl) (by kernel_rfl) (fun _ _ _ h => h) (Or.inl ⟨by rfl, fun W hSw => by have c := Tryd.slice32 W (w.heap.size + 1) 2; go_simp⟩) h0 ?_
  try simp only [List.getElem_toArray, List.getElem_cons_zero, List.getElem_cons_succ, Act.put, List.setIfInBounds_toArray, List.set_cons_zero, List.set_cons_succ]
  refine wpAnyH_take (i := 2) (v := .pointer (some ⟨b, 0, none⟩)) rfl (by kernel_rfl) (by kernel_rfl) (by kernel_rfl) (fun _ _ _ h => h) (Or.inl ⟨by rfl, fun w hSw => by go_simp⟩) h0 ?_
  try simp only [List.getElem_toArray, List.getElem_cons_zero, List.getElem_cons_succ, Act.put, List.setIfInBounds_toArray, List.set_cons_zero, List.set_cons_succ]
  refine wpAnyH_ready (rs := [3]) (by kernel_rfl) (by simp) (AllReadyH.cons (i := 3) rfl (fun K hK => ?_) AllReadyH.nil)
  rw [if_pos (by rfl)]
  go_simp
  have hrw := raw_st H0.out.rd 32
  rw [E3.out] at hrw
  refine hrw.mono ?_
  rintro r v1 ⟨⟨ao5, cap5, rfl, hfr5⟩, hk5, hr5⟩
  have hx5 := H0.out.call hk5 hr5
  refine hK.out _ _ trivial (fun h1 => ?_)
  clear hK K hrw hk5 hr5 H0
  try simp only [List.getElem_toArray, List.getElem_cons_zero, List.getElem_cons_succ, Act.put, List.setIfInBounds_toArray, List.set_cons_zero, List.set_cons_succ]
  refine wpAnyH_ready (rs := [4]) (by kernel_rfl) (by simp) (AllReadyH.cons (i := 4) rfl (fun K hK => ?_) AllReadyH.nil)
  have hcp : ∃ v2, (Builtin.copy_ #[23, 23] 3 #[.slice (some ⟨w.heap.size + 1, 2, none⟩) 32 32, .slice ao5 I3.length cap5]).run Tryd.prog v1 = .ok (.int .i64 I3.length) v2 ∧ Rx w v2 b ao cap xs s3 ⟨N2, K1, if I3 = [] then List.replicate 32 0 else I3⟩ := by
    rcases E4.out with h3 | h3
    · subst h3
      refine ⟨v1, ?_, by simpa using hx5⟩
      exact run_copy_none v1 23 23 3 5 _ ao5 32 32 0 cap5 Tryd.underlying23 Tryd.sizeByte (by simp)
    · have hne : I3 ≠ [] := by rintro rfl; simp at h3
      obtain ⟨g5, o5, rfl, hg5, hc5⟩ := hfr5.1.open hne
      have hcr := run_copy_row (P := Tryd.prog) v1 23 23 3 5 (w.heap.size + 1) 2 32 32 ⟨g5, o5, none⟩ I3.length cap5 _ _ (bys I3) Tryd.underlying23 Tryd.sizeByte hx5.er (by rw [bys_length, h3]; rfl) (fun j v hv => by
        obtain ⟨hj, rfl⟩ := bys_get hv
        rw [Addr.add_mid]; exact hc5 j hj) (by simp [bys_length, h3, Ent.cells]) (bys_oneCell I3)
      rw [bys_length] at hcr
      refine ⟨_, hcr, ?_⟩
      refine hx5.turn (kept_row v1 _ _) ?_
      rw [setRow_heap _ _ _ _ _ _ hx5.er]
      simp [Ent.cells, hne, bys_length, h3, bys]
  obtain ⟨v2, hrun, hx6⟩ := hcp
  rw [if_pos (by rfl)]
  refine Lib.wp_copy_run _ _ _ 23 23 rfl _ _ rfl rfl hrun ?_
  refine hK.out _ _ trivial (fun h2 => ?_)
  clear hK K hrun hx5 hfr5
  try simp only [List.getElem_toArray, List.getElem_cons_zero, List.getElem_cons_succ, Act.put, List.setIfInBounds_toArray, List.set_cons_zero, List.set_cons_succ]
  refine wpAnyH_done (by kernel_rfl) ?_ _
  have H6 := hide hx6
  clear hx6 h0 h1 h2
  have hso := isSound_ok H6.out.rd
  by_cases he : s3.e = 0
  · rw [decide_eq_true he] at hso
    obtain ⟨⟨e, a'⟩, hea⟩ : ∃ q, Tn.entAt xs a = some q := by
      rcases hq : Tn.entAt xs a with _ | q
      · exact absurd he (EN.out hq)
      · exact ⟨q, rfl⟩
    obtain ⟨q1, q2, q3, q4⟩ := ES.out e a' hea
    simp only [Prod.mk.injEq] at q3
    obtain ⟨rfl, rfl⟩ := q3
    have hne : e.id ≠ [] := by intro h; have := q4.idl; rw [h] at this; simp at this
    have HE : Hid (Tn.entAt xs a = some (e, a')) := hea
    have H7 : Hid (Rx w v2 b ao cap xs ⟨a', 0, p⟩ e) := by
      have := H6.out
      rw [q1, q2, if_neg hne] at this
      exact this
    have HOK := hide q4
    clear H6 q1 q2 q4 hea hne E2 E3 E4 EN ES he
    have hia : (Tryd.prog.info? 42).map (·.size) = some e.cells.toArray.size := by rw [ent_size HOK.out]; exact Tryd.infoEntry
    have hzs := zero_size HOK.out
    have hal := ent_all e
    go_wp2_with (first
      | (go_at_call 33; refine hso.mono ?_; rintro r v3 ⟨rfl, m, rfl⟩; have H8 := hide (H7.out.drewN m); clear hso H7; generalize World.drewN v2 m = v3 at H8 ⊢; have hmt := must_true v3)
      | (go_at_call 30; refine hmt.mono ?_; rintro r v4 ⟨rfl, rfl⟩; clear hmt; have er := H8.out.er; have rr := H8.out.rr)
      | refine wpList_load_row rfl 42 (.tmp 3) rfl (w.heap.size + 1) rfl 42 _ (0, 0) _ er Tryd.underlying42 rfl hia ?_
      | refine wpList_store_rowTo rfl 42 (.tmp 2) (.tmp 19) rfl rfl w.heap.size e.cells.toArray rfl rfl 42 zeroE rr hia hzs hal ?_)
    have hko : ∀ k, k ≠ w.heap.size → (v4.setRow w.heap.size e.cells.toArray).heap[k]? = v4.heap[k]? := fun k hk => setRow_other _ _ _ _ hk
    have hkk : Kept [w.heap.size] v4 (v4.setRow w.heap.size e.cells.toArray) := ⟨rfl, rfl, rfl, by rw [size_setRow]; exact Nat.le_refl _, fun k hk hn => hko k (by simpa using hn)⟩
    have hlt := H8.out.lt
    refine ret_row rfl rfl w.heap.size 42 _ (0, 0) _ rfl (setRow_heap _ _ _ _ _ _ H8.out.rr) Tryd.underlying42 rfl hia ⟨.inl ⟨e, a', HE.out, rfl, H8.out.rd.kept hkk (by simp; omega) (fun hx a ha => by have := H8.out.bl hx a ha; simp; omega)⟩, ?_⟩
    refine ⟨H8.out.kp.os, H8.out.kp.tape, H8.out.kp.output, Nat.le_trans H8.out.kp.size hkk.size, fun k hk hn => ?_⟩
    rw [hko k (by omega)]
    exact H8.out.kp.block k hk hn
  · have he' : decide (s3.e = 0) = false := by simpa using he
    rw [he'] at hso
    have hno : Tn.entAt xs a = none := by
      rcases hq : Tn.entAt xs a with _ | ⟨e, a'⟩
      · rfl
      · obtain ⟨_, _, q3, _⟩ := ES.out e a' hq
        simp only [Prod.mk.injEq] at q3
        rw [q3.2] at he
        exact absurd rfl he
    have HE := hide hno
    clear E2 E3 E4 EN ES he he' hno
    go_wp2_with (first
      | (go_at_call 33; refine hso.mono ?_; rintro r v3 ⟨rfl, m, rfl⟩; have H8 := hide (H6.out.drewN m); clear hso H6; generalize World.drewN v2 m = v3 at H8 ⊢; have hmf := must_false v3)
      | (go_at_call 30; refine hmf.mono ?_; rintro r v4 ⟨rfl, rfl⟩; clear hmf))
    exact ⟨rfl, .inr ⟨HE.out, rfl⟩, H8.out.kp⟩
end Go.Proofs.YtjogfpogdjhglaaDoor
