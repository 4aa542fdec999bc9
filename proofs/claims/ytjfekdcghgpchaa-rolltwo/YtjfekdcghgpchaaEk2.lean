/-
  Contracts: freightlaw3.known.
-/
import Derived.Test.YtjfekdcghgpchaaEk
import Derived.Deep.Cut
import Derived.Deep.RegionHeld3
namespace Go.Proofs.Ytjfekdcghgpchaa
open Go.RowKit
set_option linter.unusedVariables false
set_option linter.unusedSimpArgs false

theorem new_sl (W : World) (xs : List UInt8) (fr : Nat × Nat) : Sl (W.alloc (.cells (bys xs).toArray 5 fr)) (some ⟨W.heap.size, 0, none⟩) xs := by
  refine Sl.of fun i hi => ?_
  rw [Nat.zero_add]
  unfold World.cell?
  rw [heap_alloc_new]
  simpa using bys_at hi

/-- A row of bytes of its own, not marked. -/
def RowAt (w : World) (b : Nat) (xs : List UInt8) : Prop := w.heap[b]? = some (.cells (bys xs).toArray 5 (0, 0))
theorem RowAt.lt {w : World} {b : Nat} {xs : List UInt8} (h : RowAt w b xs) : b < w.heap.size := (Array.getElem?_eq_some_iff.1 h).1
theorem RowAt.kept {l : List Nat} {w w' : World} {b : Nat} {xs : List UInt8} (h : RowAt w b xs) (hk : Kept l w w') (hn : b ∉ l) : RowAt w' b xs := by
  unfold RowAt; rw [hk.block b h.lt hn]; exact h
theorem RowAt.sl {w : World} {b : Nat} {xs : List UInt8} (h : RowAt w b xs) : Sl w (some ⟨b, 0, none⟩) xs := by
  refine Sl.of fun i hi => ?_
  rw [Nat.zero_add, cell_of_row _ _ _ _ _ _ h, List.getElem?_toArray]
  exact bys_at hi
theorem RowAt.new (w : World) (xs : List UInt8) : RowAt (w.alloc (.cells (bys xs).toArray 5)) w.heap.size xs := heap_alloc_new _ _

/-- The mark of a constant's bytes, in any world. -/
theorem conv_any {w : World} {b : Nat} {xs : List UInt8} (h : RowAt w b xs) (n c : Nat) :
    ∃ w', (convert 23 23 (.slice (some ⟨b, 0, none⟩) n c)).run Try.prog w = .ok (.slice (some ⟨b, 0, none⟩) n c) w' ∧ Sl w' (some ⟨b, 0, none⟩) xs ∧ Kept [b] w w' := by
  have hsh : w.shape? b = some (5, (bys xs).length) := by
    unfold World.shape?
    rw [show w.heap[b]? = _ from h]
    simp
  refine ⟨w.freeze ⟨b, (bys xs).length, none⟩ 1, ?_, ?_, ?_⟩
  · simp [convert, run_underlying Try.underlying23, run_underlying Try.underlying5, markStringish, hsh]
  · refine Sl.of fun i hi => ?_
    rw [Nat.zero_add]
    have hb : (w.freeze ⟨b, (bys xs).length, none⟩ 1).heap[b]? = some (.cells (bys xs).toArray 5 ((bys xs).length, (bys xs).length + 1)) := by
      unfold World.freeze
      rw [if_neg (by decide)]
      show (w.heap.modify b _)[b]? = _
      rw [Array.getElem?_modify, if_pos rfl, show w.heap[b]? = _ from h]
      rfl
    unfold World.cell?
    rw [hb]
    simpa using bys_at hi
  · refine ⟨?_, ?_, ?_, ?_, fun k hk hn => ?_⟩
    · unfold World.freeze; rw [if_neg (by decide)]
    · unfold World.freeze; rw [if_neg (by decide)]
    · unfold World.freeze; rw [if_neg (by decide)]
    · unfold World.freeze; rw [if_neg (by decide)]; show _ ≤ (w.heap.modify b _).size; simp
    · unfold World.freeze
      rw [if_neg (by decide)]
      show (w.heap.modify b _)[k]? = _
      rw [Array.getElem?_modify, if_neg (by simp at hn; omega)]

theorem Try.notNil (f : Fn) (a c : Array Value) (W : World) : (binOp .eql 40 (.func f a c) .nilFunc).run Try.prog W = .ok (.bool false) W := by kernel_rfl

theorem ref_yzw : Rol.sum [121, 122, 119] = Rol.sum (wat [120, 121, 122, 119] 3 1) := by decide
theorem sum12 : Rol.sum [1, 2] = 262147 := by decide

set_option maxHeartbeats 4000000 in
set_option maxRecDepth 100000 in
theorem known_any (w : World) :
    Calls Try.prog 13 #[] w fun e w' => e = .returned (.bool true) ∧ Kept [] w w' := by
  have hnf := Try.notNil
  have kc := fun (w : World) (C : Array Value) (n c : Nat) => Lib.run_convert_bytes_const (P := Try.prog) w 23 5 C n c Try.underlying23 Try.underlying5
  have kc2 : ∀ (w : World) (o1 o2 : Obj) (C : Array Value) (n c : Nat), (convert 23 23 (.slice (some ⟨w.heap.size + 1 + 1, 0, none⟩) n c)).run Try.prog (((w.alloc o1).alloc o2).alloc (.cells C 5)) = .ok (.slice (some ⟨w.heap.size + 1 + 1, 0, none⟩) n c) (((w.alloc o1).alloc o2).alloc (.cells C 5 (C.size, C.size + 1))) := fun w o1 o2 C n c => by
    have := kc ((w.alloc o1).alloc o2) C n c
    rw [World.size_alloc, World.size_alloc] at this
    exact this
  have S1 : Hid (∀ W : World, Sl (W.alloc (.cells #[.int .u8 120, .int .u8 121, .int .u8 122] 5 (3, 4))) (some ⟨W.heap.size, 0, none⟩) [120, 121, 122]) := fun W => new_sl W [120, 121, 122] _
  have S2 : Hid (∀ W : World, Sl (W.alloc (.cells #[.int .u8 120, .int .u8 121, .int .u8 122, .int .u8 119] 5 (4, 5))) (some ⟨W.heap.size, 0, none⟩) [120, 121, 122, 119]) := fun W => new_sl W [120, 121, 122, 119] _
  go_enter Try.func13, Try.ntmps13
  go_wp2_with (fail)
  refine (new_ok _ 3 3 [120, 121, 122] _ rfl (by omega) (by omega) (S1.out w)).mono ?_
  rintro e w1 ⟨p, g, rfl, hro, hp, hg, hk1⟩
  have HRO : Hid (Ro w1 p g [120, 121, 122]) := hro
  have HK : Hid (Kept [] w w1) := ((Kept.refl [] w).alloc _).trans hk1 (by simp)
  have hpw : w.heap.size ≤ p := Nat.le_trans (by simp) hp
  have hgw : w.heap.size ≤ g := Nat.le_trans (by simp) hg
  clear hro hp hg hk1 S1
  go_wp2_with (first | (go_at_call 24; refine (num_any _ _).mono ?_; rintro e w' ⟨rfl, hw⟩; obtain rfl := hw.symm) | (go_at_call 16; refine (rollPush_ok HRO.out 119).mono ?_; rintro e w2 ⟨rfl, hro2, hk2⟩; have HRO2 : Hid (Ro w2 p g [121, 122, 119]) := hro2; have HK2 : Hid (Kept [] w w2) := HK.out.trans hk2 (by simp; omega); clear hro2 hk2 HRO HK))
  have hk2a : Kept [] w2 (((w2.alloc (.cells #[.int .i64 0] 3)).alloc (.cells #[.int .i64 0] 3)).alloc (.cells #[.int .u8 120, .int .u8 121, .int .u8 122, .int .u8 119] 5 (4, 5))) := (((Kept.refl [] w2).alloc _).alloc _).alloc _
  have hA0 : Var1 (((w2.alloc (.cells #[.int .i64 0] 3)).alloc (.cells #[.int .i64 0] 3)).alloc (.cells #[.int .u8 120, .int .u8 121, .int .u8 122, .int .u8 119] 5 (4, 5))) w2.heap.size (.int .i64 0) 3 := ((Var1.new w2 (.int .i64 0) 3).kept ((Kept.refl [] _).alloc _) (by simp)).kept ((Kept.refl [] _).alloc _) (by simp)
  have hB0 : Var1 (((w2.alloc (.cells #[.int .i64 0] 3)).alloc (.cells #[.int .i64 0] 3)).alloc (.cells #[.int .u8 120, .int .u8 121, .int .u8 122, .int .u8 119] 5 (4, 5))) (w2.heap.size + 1) (.int .i64 0) 3 := by
    have := (Var1.new (w2.alloc (.cells #[.int .i64 0] 3)) (.int .i64 0) 3).kept ((Kept.refl [] _).alloc (.cells #[.int .u8 120, .int .u8 121, .int .u8 122, .int .u8 119] 5 (4, 5))) (by simp)
    rw [World.size_alloc] at this
    exact this
  have S2' := S2.out ((w2.alloc (.cells #[.int .i64 0] 3)).alloc (.cells #[.int .i64 0] 3))
  rw [World.size_alloc, World.size_alloc] at S2'
  have hsz : (((w2.alloc (.cells #[.int .i64 0] 3)).alloc (.cells #[.int .i64 0] 3)).alloc (.cells #[.int .u8 120, .int .u8 121, .int .u8 122, .int .u8 119] 5 (4, 5))).heap.size = w2.heap.size + 1 + 1 + 1 := by simp
  refine (windows_ok _ 4 4 3 [120, 121, 122, 119] _ rfl (by omega) S2' (by omega) (by omega)).mono ?_
  rintro e w3 ⟨Kb, Sb, gd, cap, rfl, hwc, h1, h2, h3, hk3⟩
  rw [hsz] at h1 h2 h3
  have HA : Hid (Var1 w3 w2.heap.size (.int .i64 0) 3) := hA0.kept hk3 (by simp)
  have HB : Hid (Var1 w3 (w2.heap.size + 1) (.int .i64 0) 3) := hB0.kept hk3 (by simp)
  have HK3 : Hid (Kept [] w w3) := (HK2.out.trans hk2a (by simp)).trans hk3 (by simp)
  have HRO3 : Hid (Ro w3 p g [121, 122, 119]) := (HRO2.out.kept hk2a (by simp) (by simp)).kept hk3 (by simp) (by simp)
  have hpl := HRO2.out.ltp
  have hgl := HRO2.out.ltg
  have hwl := HK2.out.size
  have HWC : Hid (Wc w3 Kb Sb gd cap 3 [120, 121, 122, 119]) := hwc
  clear hA0 hB0 S2' S2 hk2a hk3 hwc HRO2 HK2 hsz kc kc2
  obtain ⟨A, hA⟩ : ∃ A, A = w2.heap.size := ⟨_, rfl⟩
  obtain ⟨B, hB⟩ : ∃ B, B = w2.heap.size + 1 := ⟨_, rfl⟩
  rw [← hB] at HB h1 h2 h3 ⊢
  rw [← hA] at HA hpl hgl hwl ⊢
  have hAB : A < B := by omega
  clear hA hB
  go_wp2_with (fail)
  refine (known_it A B Kb Sb gd cap _ w3 rfl HA.out HB.out (by omega) HWC.out (by omega) (by omega) (by omega)).mono ?_
  rintro e w4 ⟨rfl, hA4, hB4, hk4⟩
  have HA4 : Hid (w4.cell? ⟨A, 0, none⟩ = some (.int .i64 3)) := hA4.cell
  have HB4 : Hid (w4.cell? ⟨B, 0, none⟩ = some (.int .i64 (Rol.sum [121, 122, 119]))) := by rw [ref_yzw]; exact hB4.cell
  have HRO : Hid (Ro w4 p g [121, 122, 119]) := HRO3.out.kept hk4 (by simp; omega) (by simp; omega)
  have HK : Hid (Kept [] w w4) := HK3.out.trans hk4 (by simp; omega)
  clear hA4 hB4 hk4 HRO3 HK3 HA HB HWC h1 h2 h3 hAB
  have CS : Hid (∀ W, Kept [] w4 W → Calls Try.prog 15 #[.pointer (some ⟨p, 0, none⟩)] W fun e w' => e = .returned (.int .i64 (Rol.sum [121, 122, 119])) ∧ Kept [] W w') := fun W h => rollSum_ok (HRO.out.kept h (by simp) (by simp))
  have CR : Hid (∀ W b, Sl W (some ⟨b, 0, none⟩) [121, 122, 119] → Calls Try.prog 11 #[.slice (some ⟨b, 0, none⟩) 3 3] W fun e w' => e = .returned (.int .i64 (Rol.sum [121, 122, 119])) ∧ Kept [] W w') := fun W b h => (refsum_n _ 3 3 _ W rfl (by omega) h).mono fun e w' ⟨he, hw⟩ => ⟨he, by rw [hw]; exact Kept.refl _ _⟩
  have CN : Hid (∀ W b, Sl W (some ⟨b, 0, none⟩) [1, 2] → Calls Try.prog 9 #[.slice (some ⟨b, 0, none⟩) 2 2] W fun e w' => e = .returned (.int .i64 262147) ∧ Kept [] W w') := fun W b h => by
    have := rsum_n (some ⟨b, 0, none⟩) 2 2 [1, 2] W rfl (by omega) h
    rwa [sum12] at this
  generalize Rol.sum [121, 122, 119] = sm at HB4 CS CR
  go_upto_region 11 with (fail)
  refine wp_region_held_drew (S := fun w' => Kept [] w4 w') (by kernel_rfl) ((Kept.refl [] w4).drew) (fun h0 => ?_)
  generalize World.drew w4 = v0 at h0 ⊢
  refine wpAnyH_take (i := 0) (v := .int .u8 120) rfl (by kernel_rfl) (by kernel_rfl) (by kernel_rfl) (fun _ _ _ h => h) (Or.inl ⟨by rfl, fun w hSw => by go_simp⟩) h0 ?_
  try simp only [List.getElem_toArray, List.getElem_cons_zero, List.getElem_cons_succ, Act.put, List.setIfInBounds_toArray, List.set_cons_zero, List.set_cons_succ]
  refine wpAnyH_take (i := 1) (v := .bool true) rfl (by kernel_rfl) (by kernel_rfl) (by kernel_rfl) (fun _ _ _ h => h) (Or.inl ⟨by rfl, fun w hSw => by go_simp⟩) h0 ?_
  try simp only [List.getElem_toArray, List.getElem_cons_zero, List.getElem_cons_succ, Act.put, List.setIfInBounds_toArray, List.set_cons_zero, List.set_cons_succ]
  refine wpAnyH_take (i := 2) (v := .bool true) rfl (by kernel_rfl) (by kernel_rfl) (by kernel_rfl) (fun _ _ _ h => h) (Or.inl ⟨by rfl, fun w hSw => by go_simp⟩) h0 ?_
  try simp only [List.getElem_toArray, List.getElem_cons_zero, List.getElem_cons_succ, Act.put, List.setIfInBounds_toArray, List.set_cons_zero, List.set_cons_succ]
  refine wpAnyH_take (i := 3) (v := .pointer (some ⟨p, 0, none⟩)) rfl (by kernel_rfl) (by kernel_rfl) (by kernel_rfl) (fun _ _ _ h => h) (Or.inl ⟨by rfl, fun w hSw => by go_simp⟩) h0 ?_
  try simp only [List.getElem_toArray, List.getElem_cons_zero, List.getElem_cons_succ, Act.put, List.setIfInBounds_toArray, List.set_cons_zero, List.set_cons_succ]
  refine wpAnyH_ready (rs := [4, 5]) (by kernel_rfl) (by simp) (AllReadyH.cons (i := 4) rfl (fun K hK => ?_) (AllReadyH.cons (i := 5) rfl (fun K hK => ?_) AllReadyH.nil))
  next =>
    rw [if_pos (by rfl)]
    go_simp
    refine (CS.out _ h0).mono ?_
    rintro e v1 ⟨rfl, hq⟩
    refine hK.out _ _ (h0.trans hq (by simp)) (fun h1 => ?_)
    clear hK K hq h0
    try simp only [List.getElem_toArray, List.getElem_cons_zero, List.getElem_cons_succ, Act.put, List.setIfInBounds_toArray, List.set_cons_zero, List.set_cons_succ]
    refine wpAnyH_ready (rs := [5]) (by kernel_rfl) (by simp) (AllReadyH.cons (i := 5) rfl (fun K hK => ?_) AllReadyH.nil)
    rw [if_pos (by rfl)]
    go_simp
    have hr : RowAt (v1.alloc (Obj.cells #[.int .u8 121, .int .u8 122, .int .u8 119] 5)) v1.heap.size [121, 122, 119] := RowAt.new (v1) [121, 122, 119]
    have gb1 : w4.heap.size ≤ (v1).heap.size := h1.size
    refine hK.out _ _ (h1.alloc (Obj.cells #[.int .u8 121, .int .u8 122, .int .u8 119] 5)) (fun h2 => ?_)
    clear hK K h1
    try simp only [List.getElem_toArray, List.getElem_cons_zero, List.getElem_cons_succ, Act.put, List.setIfInBounds_toArray, List.set_cons_zero, List.set_cons_succ]
    generalize World.alloc (v1) _ = v2 at h2 hr ⊢
    generalize (v1).heap.size = b1 at gb1 hr ⊢
    refine wpAnyH_ready (rs := [6]) (by kernel_rfl) (by simp) (AllReadyH.cons (i := 6) rfl (fun K hK => ?_) AllReadyH.nil)
    rw [if_pos (by rfl)]
    go_simp
    obtain ⟨v3, hrun, hrs, hkk⟩ := conv_any hr 3 3
    rw [hrun]
    go_simp
    clear hr
    refine hK.out _ _ (h2.trans hkk (by simp; omega)) (fun h3 => ?_)
    clear hK K hrun hkk h2
    try simp only [List.getElem_toArray, List.getElem_cons_zero, List.getElem_cons_succ, Act.put, List.setIfInBounds_toArray, List.set_cons_zero, List.set_cons_succ]
    refine wpAnyH_ready (rs := [7]) (by kernel_rfl) (by simp) (AllReadyH.cons (i := 7) rfl (fun K hK => ?_) AllReadyH.nil)
    rw [if_pos (by rfl)]
    go_simp
    refine (CR.out _ _ hrs).mono ?_
    rintro e v4 ⟨rfl, hq⟩
    replace hrs := Sl.kept hrs (hq) (by simp)
    refine hK.out _ _ (h3.trans hq (by simp)) (fun h4 => ?_)
    clear hK K hq h3
    try simp only [List.getElem_toArray, List.getElem_cons_zero, List.getElem_cons_succ, Act.put, List.setIfInBounds_toArray, List.set_cons_zero, List.set_cons_succ]
    clear hrs
    refine wpAnyH_take (i := 8) (v := .bool true) rfl (by kernel_rfl) (by kernel_rfl) (by kernel_rfl) (fun _ _ _ h => h) (Or.inl ⟨by rfl, fun w hSw => by go_simp⟩) h4 ?_
    try simp only [List.getElem_toArray, List.getElem_cons_zero, List.getElem_cons_succ, Act.put, List.setIfInBounds_toArray, List.set_cons_zero, List.set_cons_succ]
    refine wpAnyH_take (i := 9) (v := .bool true) rfl (by kernel_rfl) (by kernel_rfl) (by kernel_rfl) (fun _ _ _ h => h) (Or.inl ⟨by rfl, fun w hSw => by go_simp⟩) h4 ?_
    try simp only [List.getElem_toArray, List.getElem_cons_zero, List.getElem_cons_succ, Act.put, List.setIfInBounds_toArray, List.set_cons_zero, List.set_cons_succ]
    refine wpAnyH_take (i := 10) (v := .bool true) rfl (by kernel_rfl) (by kernel_rfl) (by kernel_rfl) (fun _ _ _ h => h) (Or.inl ⟨by rfl, fun w hSw => by go_simp⟩) h4 ?_
    try simp only [List.getElem_toArray, List.getElem_cons_zero, List.getElem_cons_succ, Act.put, List.setIfInBounds_toArray, List.set_cons_zero, List.set_cons_succ]
    refine wpAnyH_take (i := 11) (v := .int .i64 3) rfl (by kernel_rfl) (by kernel_rfl) (by kernel_rfl) (fun _ _ _ h => h) (Or.inl ⟨by rfl, fun w hSw => by have c := Kept.cellOf hSw HA4.out (by simp); go_simp⟩) h4 ?_
    try simp only [List.getElem_toArray, List.getElem_cons_zero, List.getElem_cons_succ, Act.put, List.setIfInBounds_toArray, List.set_cons_zero, List.set_cons_succ]
    refine wpAnyH_take (i := 12) (v := .bool true) rfl (by kernel_rfl) (by kernel_rfl) (by kernel_rfl) (fun _ _ _ h => h) (Or.inl ⟨by rfl, fun w hSw => by go_simp⟩) h4 ?_
    try simp only [List.getElem_toArray, List.getElem_cons_zero, List.getElem_cons_succ, Act.put, List.setIfInBounds_toArray, List.set_cons_zero, List.set_cons_succ]
    refine wpAnyH_take (i := 13) (v := .bool true) rfl (by kernel_rfl) (by kernel_rfl) (by kernel_rfl) (fun _ _ _ h => h) (Or.inl ⟨by rfl, fun w hSw => by go_simp⟩) h4 ?_
    try simp only [List.getElem_toArray, List.getElem_cons_zero, List.getElem_cons_succ, Act.put, List.setIfInBounds_toArray, List.set_cons_zero, List.set_cons_succ]
    refine wpAnyH_take (i := 14) (v := .bool true) rfl (by kernel_rfl) (by kernel_rfl) (by kernel_rfl) (fun _ _ _ h => h) (Or.inl ⟨by rfl, fun w hSw => by go_simp⟩) h4 ?_
    try simp only [List.getElem_toArray, List.getElem_cons_zero, List.getElem_cons_succ, Act.put, List.setIfInBounds_toArray, List.set_cons_zero, List.set_cons_succ]
    refine wpAnyH_take (i := 15) (v := .int .i64 sm) rfl (by kernel_rfl) (by kernel_rfl) (by kernel_rfl) (fun _ _ _ h => h) (Or.inl ⟨by rfl, fun w hSw => by have c := Kept.cellOf hSw HB4.out (by simp); go_simp⟩) h4 ?_
    try simp only [List.getElem_toArray, List.getElem_cons_zero, List.getElem_cons_succ, Act.put, List.setIfInBounds_toArray, List.set_cons_zero, List.set_cons_succ]
    refine wpAnyH_take (i := 16) (v := .pointer (some ⟨p, 0, none⟩)) rfl (by kernel_rfl) (by kernel_rfl) (by kernel_rfl) (fun _ _ _ h => h) (Or.inl ⟨by rfl, fun w hSw => by go_simp⟩) h4 ?_
    try simp only [List.getElem_toArray, List.getElem_cons_zero, List.getElem_cons_succ, Act.put, List.setIfInBounds_toArray, List.set_cons_zero, List.set_cons_succ]
    refine wpAnyH_ready (rs := [17]) (by kernel_rfl) (by simp) (AllReadyH.cons (i := 17) rfl (fun K hK => ?_) AllReadyH.nil)
    rw [if_pos (by rfl)]
    go_simp
    refine (CS.out _ h4).mono ?_
    rintro e v5 ⟨rfl, hq⟩
    refine hK.out _ _ (h4.trans hq (by simp)) (fun h5 => ?_)
    clear hK K hq h4
    try simp only [List.getElem_toArray, List.getElem_cons_zero, List.getElem_cons_succ, Act.put, List.setIfInBounds_toArray, List.set_cons_zero, List.set_cons_succ]
    refine wpAnyH_take (i := 18) (v := .bool true) rfl (by kernel_rfl) (by kernel_rfl) (by kernel_rfl) (fun _ _ _ h => h) (Or.inl ⟨by rfl, fun w hSw => by go_simp⟩) h5 ?_
    try simp only [List.getElem_toArray, List.getElem_cons_zero, List.getElem_cons_succ, Act.put, List.setIfInBounds_toArray, List.set_cons_zero, List.set_cons_succ]
    refine wpAnyH_take (i := 19) (v := .bool true) rfl (by kernel_rfl) (by kernel_rfl) (by kernel_rfl) (fun _ _ _ h => h) (Or.inl ⟨by rfl, fun w hSw => by go_simp⟩) h5 ?_
    try simp only [List.getElem_toArray, List.getElem_cons_zero, List.getElem_cons_succ, Act.put, List.setIfInBounds_toArray, List.set_cons_zero, List.set_cons_succ]
    refine wpAnyH_take (i := 20) (v := .bool true) rfl (by kernel_rfl) (by kernel_rfl) (by kernel_rfl) (fun _ _ _ h => h) (Or.inl ⟨by rfl, fun w hSw => by go_simp⟩) h5 ?_
    try simp only [List.getElem_toArray, List.getElem_cons_zero, List.getElem_cons_succ, Act.put, List.setIfInBounds_toArray, List.set_cons_zero, List.set_cons_succ]
    refine wpAnyH_ready (rs := [21]) (by kernel_rfl) (by simp) (AllReadyH.cons (i := 21) rfl (fun K hK => ?_) AllReadyH.nil)
    rw [if_pos (by rfl)]
    go_simp
    have hr : RowAt (v5.alloc (Obj.cells #[.int .u8 1, .int .u8 2] 5)) v5.heap.size [1, 2] := RowAt.new (v5) [1, 2]
    have gb2 : w4.heap.size ≤ (v5).heap.size := h5.size
    refine hK.out _ _ (h5.alloc (Obj.cells #[.int .u8 1, .int .u8 2] 5)) (fun h6 => ?_)
    clear hK K h5
    try simp only [List.getElem_toArray, List.getElem_cons_zero, List.getElem_cons_succ, Act.put, List.setIfInBounds_toArray, List.set_cons_zero, List.set_cons_succ]
    generalize World.alloc (v5) _ = v6 at h6 hr ⊢
    generalize (v5).heap.size = b2 at gb2 hr ⊢
    refine wpAnyH_ready (rs := [22]) (by kernel_rfl) (by simp) (AllReadyH.cons (i := 22) rfl (fun K hK => ?_) AllReadyH.nil)
    rw [if_pos (by rfl)]
    go_simp
    refine (CN.out _ _ hr.sl).mono ?_
    rintro e v7 ⟨rfl, hq⟩
    replace hr := RowAt.kept hr (hq) (by simp)
    refine hK.out _ _ (h6.trans hq (by simp)) (fun h7 => ?_)
    clear hK K hq h6
    try simp only [List.getElem_toArray, List.getElem_cons_zero, List.getElem_cons_succ, Act.put, List.setIfInBounds_toArray, List.set_cons_zero, List.set_cons_succ]
    clear hr
    refine wpAnyH_take (i := 23) (v := .bool true) rfl (by kernel_rfl) (by kernel_rfl) (by kernel_rfl) (fun _ _ _ h => h) (Or.inl ⟨by rfl, fun w hSw => by go_simp⟩) h7 ?_
    try simp only [List.getElem_toArray, List.getElem_cons_zero, List.getElem_cons_succ, Act.put, List.setIfInBounds_toArray, List.set_cons_zero, List.set_cons_succ]
    refine wpAnyH_take (i := 24) (v := .bool true) rfl (by kernel_rfl) (by kernel_rfl) (by kernel_rfl) (fun _ _ _ h => h) (Or.inl ⟨by rfl, fun w hSw => by go_simp⟩) h7 ?_
    try simp only [List.getElem_toArray, List.getElem_cons_zero, List.getElem_cons_succ, Act.put, List.setIfInBounds_toArray, List.set_cons_zero, List.set_cons_succ]
    refine wpAnyH_take (i := 25) (v := .bool true) rfl (by kernel_rfl) (by kernel_rfl) (by kernel_rfl) (fun _ _ _ h => h) (Or.inl ⟨by rfl, fun w hSw => by go_simp⟩) h7 ?_
    try simp only [List.getElem_toArray, List.getElem_cons_zero, List.getElem_cons_succ, Act.put, List.setIfInBounds_toArray, List.set_cons_zero, List.set_cons_succ]
    refine wpAnyH_done (by kernel_rfl) ?_ _
    go_wp2_with (fail)
    go_ret
    exact ⟨rfl, HK.out.trans h7 (by simp)⟩
  next =>
    rw [if_pos (by rfl)]
    go_simp
    have hr : RowAt (v0.alloc (Obj.cells #[.int .u8 121, .int .u8 122, .int .u8 119] 5)) v0.heap.size [121, 122, 119] := RowAt.new (v0) [121, 122, 119]
    have gb1 : w4.heap.size ≤ (v0).heap.size := h0.size
    refine hK.out _ _ (h0.alloc (Obj.cells #[.int .u8 121, .int .u8 122, .int .u8 119] 5)) (fun h1 => ?_)
    clear hK K h0
    try simp only [List.getElem_toArray, List.getElem_cons_zero, List.getElem_cons_succ, Act.put, List.setIfInBounds_toArray, List.set_cons_zero, List.set_cons_succ]
    generalize World.alloc (v0) _ = v1 at h1 hr ⊢
    generalize (v0).heap.size = b1 at gb1 hr ⊢
    refine wpAnyH_ready (rs := [4, 6]) (by kernel_rfl) (by simp) (AllReadyH.cons (i := 4) rfl (fun K hK => ?_) (AllReadyH.cons (i := 6) rfl (fun K hK => ?_) AllReadyH.nil))
    next =>
      rw [if_pos (by rfl)]
      go_simp
      refine (CS.out _ h1).mono ?_
      rintro e v2 ⟨rfl, hq⟩
      replace hr := RowAt.kept hr (hq) (by simp)
      refine hK.out _ _ (h1.trans hq (by simp)) (fun h2 => ?_)
      clear hK K hq h1
      try simp only [List.getElem_toArray, List.getElem_cons_zero, List.getElem_cons_succ, Act.put, List.setIfInBounds_toArray, List.set_cons_zero, List.set_cons_succ]
      refine wpAnyH_ready (rs := [6]) (by kernel_rfl) (by simp) (AllReadyH.cons (i := 6) rfl (fun K hK => ?_) AllReadyH.nil)
      rw [if_pos (by rfl)]
      go_simp
      obtain ⟨v3, hrun, hrs, hkk⟩ := conv_any hr 3 3
      rw [hrun]
      go_simp
      clear hr
      refine hK.out _ _ (h2.trans hkk (by simp; omega)) (fun h3 => ?_)
      clear hK K hrun hkk h2
      try simp only [List.getElem_toArray, List.getElem_cons_zero, List.getElem_cons_succ, Act.put, List.setIfInBounds_toArray, List.set_cons_zero, List.set_cons_succ]
      refine wpAnyH_ready (rs := [7]) (by kernel_rfl) (by simp) (AllReadyH.cons (i := 7) rfl (fun K hK => ?_) AllReadyH.nil)
      rw [if_pos (by rfl)]
      go_simp
      refine (CR.out _ _ hrs).mono ?_
      rintro e v4 ⟨rfl, hq⟩
      replace hrs := Sl.kept hrs (hq) (by simp)
      refine hK.out _ _ (h3.trans hq (by simp)) (fun h4 => ?_)
      clear hK K hq h3
      try simp only [List.getElem_toArray, List.getElem_cons_zero, List.getElem_cons_succ, Act.put, List.setIfInBounds_toArray, List.set_cons_zero, List.set_cons_succ]
      clear hrs
      refine wpAnyH_take (i := 8) (v := .bool true) rfl (by kernel_rfl) (by kernel_rfl) (by kernel_rfl) (fun _ _ _ h => h) (Or.inl ⟨by rfl, fun w hSw => by go_simp⟩) h4 ?_
      try simp only [List.getElem_toArray, List.getElem_cons_zero, List.getElem_cons_succ, Act.put, List.setIfInBounds_toArray, List.set_cons_zero, List.set_cons_succ]
      refine wpAnyH_take (i := 9) (v := .bool true) rfl (by kernel_rfl) (by kernel_rfl) (by kernel_rfl) (fun _ _ _ h => h) (Or.inl ⟨by rfl, fun w hSw => by go_simp⟩) h4 ?_
      try simp only [List.getElem_toArray, List.getElem_cons_zero, List.getElem_cons_succ, Act.put, List.setIfInBounds_toArray, List.set_cons_zero, List.set_cons_succ]
      refine wpAnyH_take (i := 10) (v := .bool true) rfl (by kernel_rfl) (by kernel_rfl) (by kernel_rfl) (fun _ _ _ h => h) (Or.inl ⟨by rfl, fun w hSw => by go_simp⟩) h4 ?_
      try simp only [List.getElem_toArray, List.getElem_cons_zero, List.getElem_cons_succ, Act.put, List.setIfInBounds_toArray, List.set_cons_zero, List.set_cons_succ]
      refine wpAnyH_take (i := 11) (v := .int .i64 3) rfl (by kernel_rfl) (by kernel_rfl) (by kernel_rfl) (fun _ _ _ h => h) (Or.inl ⟨by rfl, fun w hSw => by have c := Kept.cellOf hSw HA4.out (by simp); go_simp⟩) h4 ?_
      try simp only [List.getElem_toArray, List.getElem_cons_zero, List.getElem_cons_succ, Act.put, List.setIfInBounds_toArray, List.set_cons_zero, List.set_cons_succ]
      refine wpAnyH_take (i := 12) (v := .bool true) rfl (by kernel_rfl) (by kernel_rfl) (by kernel_rfl) (fun _ _ _ h => h) (Or.inl ⟨by rfl, fun w hSw => by go_simp⟩) h4 ?_
      try simp only [List.getElem_toArray, List.getElem_cons_zero, List.getElem_cons_succ, Act.put, List.setIfInBounds_toArray, List.set_cons_zero, List.set_cons_succ]
      refine wpAnyH_take (i := 13) (v := .bool true) rfl (by kernel_rfl) (by kernel_rfl) (by kernel_rfl) (fun _ _ _ h => h) (Or.inl ⟨by rfl, fun w hSw => by go_simp⟩) h4 ?_
      try simp only [List.getElem_toArray, List.getElem_cons_zero, List.getElem_cons_succ, Act.put, List.setIfInBounds_toArray, List.set_cons_zero, List.set_cons_succ]
      refine wpAnyH_take (i := 14) (v := .bool true) rfl (by kernel_rfl) (by kernel_rfl) (by kernel_rfl) (fun _ _ _ h => h) (Or.inl ⟨by rfl, fun w hSw => by go_simp⟩) h4 ?_
      try simp only [List.getElem_toArray, List.getElem_cons_zero, List.getElem_cons_succ, Act.put, List.setIfInBounds_toArray, List.set_cons_zero, List.set_cons_succ]
      refine wpAnyH_take (i := 15) (v := .int .i64 sm) rfl (by kernel_rfl) (by kernel_rfl) (by kernel_rfl) (fun _ _ _ h => h) (Or.inl ⟨by rfl, fun w hSw => by have c := Kept.cellOf hSw HB4.out (by simp); go_simp⟩) h4 ?_
      try simp only [List.getElem_toArray, List.getElem_cons_zero, List.getElem_cons_succ, Act.put, List.setIfInBounds_toArray, List.set_cons_zero, List.set_cons_succ]
      refine wpAnyH_take (i := 16) (v := .pointer (some ⟨p, 0, none⟩)) rfl (by kernel_rfl) (by kernel_rfl) (by kernel_rfl) (fun _ _ _ h => h) (Or.inl ⟨by rfl, fun w hSw => by go_simp⟩) h4 ?_
      try simp only [List.getElem_toArray, List.getElem_cons_zero, List.getElem_cons_succ, Act.put, List.setIfInBounds_toArray, List.set_cons_zero, List.set_cons_succ]
      refine wpAnyH_ready (rs := [17]) (by kernel_rfl) (by simp) (AllReadyH.cons (i := 17) rfl (fun K hK => ?_) AllReadyH.nil)
      rw [if_pos (by rfl)]
      go_simp
      refine (CS.out _ h4).mono ?_
      rintro e v5 ⟨rfl, hq⟩
      refine hK.out _ _ (h4.trans hq (by simp)) (fun h5 => ?_)
      clear hK K hq h4
      try simp only [List.getElem_toArray, List.getElem_cons_zero, List.getElem_cons_succ, Act.put, List.setIfInBounds_toArray, List.set_cons_zero, List.set_cons_succ]
      refine wpAnyH_take (i := 18) (v := .bool true) rfl (by kernel_rfl) (by kernel_rfl) (by kernel_rfl) (fun _ _ _ h => h) (Or.inl ⟨by rfl, fun w hSw => by go_simp⟩) h5 ?_
      try simp only [List.getElem_toArray, List.getElem_cons_zero, List.getElem_cons_succ, Act.put, List.setIfInBounds_toArray, List.set_cons_zero, List.set_cons_succ]
      refine wpAnyH_take (i := 19) (v := .bool true) rfl (by kernel_rfl) (by kernel_rfl) (by kernel_rfl) (fun _ _ _ h => h) (Or.inl ⟨by rfl, fun w hSw => by go_simp⟩) h5 ?_
      try simp only [List.getElem_toArray, List.getElem_cons_zero, List.getElem_cons_succ, Act.put, List.setIfInBounds_toArray, List.set_cons_zero, List.set_cons_succ]
      refine wpAnyH_take (i := 20) (v := .bool true) rfl (by kernel_rfl) (by kernel_rfl) (by kernel_rfl) (fun _ _ _ h => h) (Or.inl ⟨by rfl, fun w hSw => by go_simp⟩) h5 ?_
      try simp only [List.getElem_toArray, List.getElem_cons_zero, List.getElem_cons_succ, Act.put, List.setIfInBounds_toArray, List.set_cons_zero, List.set_cons_succ]
      refine wpAnyH_ready (rs := [21]) (by kernel_rfl) (by simp) (AllReadyH.cons (i := 21) rfl (fun K hK => ?_) AllReadyH.nil)
      rw [if_pos (by rfl)]
      go_simp
      have hr : RowAt (v5.alloc (Obj.cells #[.int .u8 1, .int .u8 2] 5)) v5.heap.size [1, 2] := RowAt.new (v5) [1, 2]
      have gb2 : w4.heap.size ≤ (v5).heap.size := h5.size
      refine hK.out _ _ (h5.alloc (Obj.cells #[.int .u8 1, .int .u8 2] 5)) (fun h6 => ?_)
      clear hK K h5
      try simp only [List.getElem_toArray, List.getElem_cons_zero, List.getElem_cons_succ, Act.put, List.setIfInBounds_toArray, List.set_cons_zero, List.set_cons_succ]
      generalize World.alloc (v5) _ = v6 at h6 hr ⊢
      generalize (v5).heap.size = b2 at gb2 hr ⊢
      refine wpAnyH_ready (rs := [22]) (by kernel_rfl) (by simp) (AllReadyH.cons (i := 22) rfl (fun K hK => ?_) AllReadyH.nil)
      rw [if_pos (by rfl)]
      go_simp
      refine (CN.out _ _ hr.sl).mono ?_
      rintro e v7 ⟨rfl, hq⟩
      replace hr := RowAt.kept hr (hq) (by simp)
      refine hK.out _ _ (h6.trans hq (by simp)) (fun h7 => ?_)
      clear hK K hq h6
      try simp only [List.getElem_toArray, List.getElem_cons_zero, List.getElem_cons_succ, Act.put, List.setIfInBounds_toArray, List.set_cons_zero, List.set_cons_succ]
      clear hr
      refine wpAnyH_take (i := 23) (v := .bool true) rfl (by kernel_rfl) (by kernel_rfl) (by kernel_rfl) (fun _ _ _ h => h) (Or.inl ⟨by rfl, fun w hSw => by go_simp⟩) h7 ?_
      try simp only [List.getElem_toArray, List.getElem_cons_zero, List.getElem_cons_succ, Act.put, List.setIfInBounds_toArray, List.set_cons_zero, List.set_cons_succ]
      refine wpAnyH_take (i := 24) (v := .bool true) rfl (by kernel_rfl) (by kernel_rfl) (by kernel_rfl) (fun _ _ _ h => h) (Or.inl ⟨by rfl, fun w hSw => by go_simp⟩) h7 ?_
      try simp only [List.getElem_toArray, List.getElem_cons_zero, List.getElem_cons_succ, Act.put, List.setIfInBounds_toArray, List.set_cons_zero, List.set_cons_succ]
      refine wpAnyH_take (i := 25) (v := .bool true) rfl (by kernel_rfl) (by kernel_rfl) (by kernel_rfl) (fun _ _ _ h => h) (Or.inl ⟨by rfl, fun w hSw => by go_simp⟩) h7 ?_
      try simp only [List.getElem_toArray, List.getElem_cons_zero, List.getElem_cons_succ, Act.put, List.setIfInBounds_toArray, List.set_cons_zero, List.set_cons_succ]
      refine wpAnyH_done (by kernel_rfl) ?_ _
      go_wp2_with (fail)
      go_ret
      exact ⟨rfl, HK.out.trans h7 (by simp)⟩
    next =>
      rw [if_pos (by rfl)]
      go_simp
      obtain ⟨v2, hrun, hrs, hkk⟩ := conv_any hr 3 3
      rw [hrun]
      go_simp
      clear hr
      refine hK.out _ _ (h1.trans hkk (by simp; omega)) (fun h2 => ?_)
      clear hK K hrun hkk h1
      try simp only [List.getElem_toArray, List.getElem_cons_zero, List.getElem_cons_succ, Act.put, List.setIfInBounds_toArray, List.set_cons_zero, List.set_cons_succ]
      refine wpAnyH_ready (rs := [4]) (by kernel_rfl) (by simp) (AllReadyH.cons (i := 4) rfl (fun K hK => ?_) AllReadyH.nil)
      rw [if_pos (by rfl)]
      go_simp
      refine (CS.out _ h2).mono ?_
      rintro e v3 ⟨rfl, hq⟩
      replace hrs := Sl.kept hrs (hq) (by simp)
      refine hK.out _ _ (h2.trans hq (by simp)) (fun h3 => ?_)
      clear hK K hq h2
      try simp only [List.getElem_toArray, List.getElem_cons_zero, List.getElem_cons_succ, Act.put, List.setIfInBounds_toArray, List.set_cons_zero, List.set_cons_succ]
      refine wpAnyH_ready (rs := [7]) (by kernel_rfl) (by simp) (AllReadyH.cons (i := 7) rfl (fun K hK => ?_) AllReadyH.nil)
      rw [if_pos (by rfl)]
      go_simp
      refine (CR.out _ _ hrs).mono ?_
      rintro e v4 ⟨rfl, hq⟩
      replace hrs := Sl.kept hrs (hq) (by simp)
      refine hK.out _ _ (h3.trans hq (by simp)) (fun h4 => ?_)
      clear hK K hq h3
      try simp only [List.getElem_toArray, List.getElem_cons_zero, List.getElem_cons_succ, Act.put, List.setIfInBounds_toArray, List.set_cons_zero, List.set_cons_succ]
      clear hrs
      refine wpAnyH_take (i := 8) (v := .bool true) rfl (by kernel_rfl) (by kernel_rfl) (by kernel_rfl) (fun _ _ _ h => h) (Or.inl ⟨by rfl, fun w hSw => by go_simp⟩) h4 ?_
      try simp only [List.getElem_toArray, List.getElem_cons_zero, List.getElem_cons_succ, Act.put, List.setIfInBounds_toArray, List.set_cons_zero, List.set_cons_succ]
      refine wpAnyH_take (i := 9) (v := .bool true) rfl (by kernel_rfl) (by kernel_rfl) (by kernel_rfl) (fun _ _ _ h => h) (Or.inl ⟨by rfl, fun w hSw => by go_simp⟩) h4 ?_
      try simp only [List.getElem_toArray, List.getElem_cons_zero, List.getElem_cons_succ, Act.put, List.setIfInBounds_toArray, List.set_cons_zero, List.set_cons_succ]
      refine wpAnyH_take (i := 10) (v := .bool true) rfl (by kernel_rfl) (by kernel_rfl) (by kernel_rfl) (fun _ _ _ h => h) (Or.inl ⟨by rfl, fun w hSw => by go_simp⟩) h4 ?_
      try simp only [List.getElem_toArray, List.getElem_cons_zero, List.getElem_cons_succ, Act.put, List.setIfInBounds_toArray, List.set_cons_zero, List.set_cons_succ]
      refine wpAnyH_take (i := 11) (v := .int .i64 3) rfl (by kernel_rfl) (by kernel_rfl) (by kernel_rfl) (fun _ _ _ h => h) (Or.inl ⟨by rfl, fun w hSw => by have c := Kept.cellOf hSw HA4.out (by simp); go_simp⟩) h4 ?_
      try simp only [List.getElem_toArray, List.getElem_cons_zero, List.getElem_cons_succ, Act.put, List.setIfInBounds_toArray, List.set_cons_zero, List.set_cons_succ]
      refine wpAnyH_take (i := 12) (v := .bool true) rfl (by kernel_rfl) (by kernel_rfl) (by kernel_rfl) (fun _ _ _ h => h) (Or.inl ⟨by rfl, fun w hSw => by go_simp⟩) h4 ?_
      try simp only [List.getElem_toArray, List.getElem_cons_zero, List.getElem_cons_succ, Act.put, List.setIfInBounds_toArray, List.set_cons_zero, List.set_cons_succ]
      refine wpAnyH_take (i := 13) (v := .bool true) rfl (by kernel_rfl) (by kernel_rfl) (by kernel_rfl) (fun _ _ _ h => h) (Or.inl ⟨by rfl, fun w hSw => by go_simp⟩) h4 ?_
      try simp only [List.getElem_toArray, List.getElem_cons_zero, List.getElem_cons_succ, Act.put, List.setIfInBounds_toArray, List.set_cons_zero, List.set_cons_succ]
      refine wpAnyH_take (i := 14) (v := .bool true) rfl (by kernel_rfl) (by kernel_rfl) (by kernel_rfl) (fun _ _ _ h => h) (Or.inl ⟨by rfl, fun w hSw => by go_simp⟩) h4 ?_
      try simp only [List.getElem_toArray, List.getElem_cons_zero, List.getElem_cons_succ, Act.put, List.setIfInBounds_toArray, List.set_cons_zero, List.set_cons_succ]
      refine wpAnyH_take (i := 15) (v := .int .i64 sm) rfl (by kernel_rfl) (by kernel_rfl) (by kernel_rfl) (fun _ _ _ h => h) (Or.inl ⟨by rfl, fun w hSw => by have c := Kept.cellOf hSw HB4.out (by simp); go_simp⟩) h4 ?_
      try simp only [List.getElem_toArray, List.getElem_cons_zero, List.getElem_cons_succ, Act.put, List.setIfInBounds_toArray, List.set_cons_zero, List.set_cons_succ]
      refine wpAnyH_take (i := 16) (v := .pointer (some ⟨p, 0, none⟩)) rfl (by kernel_rfl) (by kernel_rfl) (by kernel_rfl) (fun _ _ _ h => h) (Or.inl ⟨by rfl, fun w hSw => by go_simp⟩) h4 ?_
      try simp only [List.getElem_toArray, List.getElem_cons_zero, List.getElem_cons_succ, Act.put, List.setIfInBounds_toArray, List.set_cons_zero, List.set_cons_succ]
      refine wpAnyH_ready (rs := [17]) (by kernel_rfl) (by simp) (AllReadyH.cons (i := 17) rfl (fun K hK => ?_) AllReadyH.nil)
      rw [if_pos (by rfl)]
      go_simp
      refine (CS.out _ h4).mono ?_
      rintro e v5 ⟨rfl, hq⟩
      refine hK.out _ _ (h4.trans hq (by simp)) (fun h5 => ?_)
      clear hK K hq h4
      try simp only [List.getElem_toArray, List.getElem_cons_zero, List.getElem_cons_succ, Act.put, List.setIfInBounds_toArray, List.set_cons_zero, List.set_cons_succ]
      refine wpAnyH_take (i := 18) (v := .bool true) rfl (by kernel_rfl) (by kernel_rfl) (by kernel_rfl) (fun _ _ _ h => h) (Or.inl ⟨by rfl, fun w hSw => by go_simp⟩) h5 ?_
      try simp only [List.getElem_toArray, List.getElem_cons_zero, List.getElem_cons_succ, Act.put, List.setIfInBounds_toArray, List.set_cons_zero, List.set_cons_succ]
      refine wpAnyH_take (i := 19) (v := .bool true) rfl (by kernel_rfl) (by kernel_rfl) (by kernel_rfl) (fun _ _ _ h => h) (Or.inl ⟨by rfl, fun w hSw => by go_simp⟩) h5 ?_
      try simp only [List.getElem_toArray, List.getElem_cons_zero, List.getElem_cons_succ, Act.put, List.setIfInBounds_toArray, List.set_cons_zero, List.set_cons_succ]
      refine wpAnyH_take (i := 20) (v := .bool true) rfl (by kernel_rfl) (by kernel_rfl) (by kernel_rfl) (fun _ _ _ h => h) (Or.inl ⟨by rfl, fun w hSw => by go_simp⟩) h5 ?_
      try simp only [List.getElem_toArray, List.getElem_cons_zero, List.getElem_cons_succ, Act.put, List.setIfInBounds_toArray, List.set_cons_zero, List.set_cons_succ]
      refine wpAnyH_ready (rs := [21]) (by kernel_rfl) (by simp) (AllReadyH.cons (i := 21) rfl (fun K hK => ?_) AllReadyH.nil)
      rw [if_pos (by rfl)]
      go_simp
      have hr : RowAt (v5.alloc (Obj.cells #[.int .u8 1, .int .u8 2] 5)) v5.heap.size [1, 2] := RowAt.new (v5) [1, 2]
      have gb2 : w4.heap.size ≤ (v5).heap.size := h5.size
      refine hK.out _ _ (h5.alloc (Obj.cells #[.int .u8 1, .int .u8 2] 5)) (fun h6 => ?_)
      clear hK K h5
      try simp only [List.getElem_toArray, List.getElem_cons_zero, List.getElem_cons_succ, Act.put, List.setIfInBounds_toArray, List.set_cons_zero, List.set_cons_succ]
      generalize World.alloc (v5) _ = v6 at h6 hr ⊢
      generalize (v5).heap.size = b2 at gb2 hr ⊢
      refine wpAnyH_ready (rs := [22]) (by kernel_rfl) (by simp) (AllReadyH.cons (i := 22) rfl (fun K hK => ?_) AllReadyH.nil)
      rw [if_pos (by rfl)]
      go_simp
      refine (CN.out _ _ hr.sl).mono ?_
      rintro e v7 ⟨rfl, hq⟩
      replace hr := RowAt.kept hr (hq) (by simp)
      refine hK.out _ _ (h6.trans hq (by simp)) (fun h7 => ?_)
      clear hK K hq h6
      try simp only [List.getElem_toArray, List.getElem_cons_zero, List.getElem_cons_succ, Act.put, List.setIfInBounds_toArray, List.set_cons_zero, List.set_cons_succ]
      clear hr
      refine wpAnyH_take (i := 23) (v := .bool true) rfl (by kernel_rfl) (by kernel_rfl) (by kernel_rfl) (fun _ _ _ h => h) (Or.inl ⟨by rfl, fun w hSw => by go_simp⟩) h7 ?_
      try simp only [List.getElem_toArray, List.getElem_cons_zero, List.getElem_cons_succ, Act.put, List.setIfInBounds_toArray, List.set_cons_zero, List.set_cons_succ]
      refine wpAnyH_take (i := 24) (v := .bool true) rfl (by kernel_rfl) (by kernel_rfl) (by kernel_rfl) (fun _ _ _ h => h) (Or.inl ⟨by rfl, fun w hSw => by go_simp⟩) h7 ?_
      try simp only [List.getElem_toArray, List.getElem_cons_zero, List.getElem_cons_succ, Act.put, List.setIfInBounds_toArray, List.set_cons_zero, List.set_cons_succ]
      refine wpAnyH_take (i := 25) (v := .bool true) rfl (by kernel_rfl) (by kernel_rfl) (by kernel_rfl) (fun _ _ _ h => h) (Or.inl ⟨by rfl, fun w hSw => by go_simp⟩) h7 ?_
      try simp only [List.getElem_toArray, List.getElem_cons_zero, List.getElem_cons_succ, Act.put, List.setIfInBounds_toArray, List.set_cons_zero, List.set_cons_succ]
      refine wpAnyH_done (by kernel_rfl) ?_ _
      go_wp2_with (fail)
      go_ret
      exact ⟨rfl, HK.out.trans h7 (by simp)⟩

end Go.Proofs.Ytjfekdcghgpchaa
