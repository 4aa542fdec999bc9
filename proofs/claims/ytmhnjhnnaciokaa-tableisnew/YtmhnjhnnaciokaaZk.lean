/-
  Contract: table.place. (Written by tools/zk.py.)
-/
import Derived.Test.YtmhnjhnnaciokaaZj
namespace Go.Proofs.Ytmhnjhnnaciokaa
open Go.Shelf Go.RowKit Go.Lib Go.Sort
set_option linter.unusedVariables false
set_option linter.unusedSimpArgs false

namespace Tb
/-- How many actions are less than A; whether A is among them. -/
def rank (L : List Res) (A : List UInt8) : Nat := (List.range L.length).countP fun i => !decide (0 ≤ compareBytes (L.getD i res0).action A)
def has (L : List Res) (A : List UInt8) : Bool := L.any fun e => decide (e.action = A)
theorem cmp_le_trans {a b c : List UInt8} (h1 : compareBytes a b ≤ 0) (h2 : compareBytes b c ≤ 0) : compareBytes a c ≤ 0 := by
  by_cases e1 : compareBytes a b = 0
  · rw [cmp_zero e1]; exact h2
  · by_cases e2 : compareBytes b c = 0
    · rw [← cmp_zero e2]; exact h1
    · have := cmp_trans (a := a) (b := b) (c := c) (by omega) (by omega)
      omega
theorem mono {L : List Res} (h : rise L = true) (A : List UInt8) : ∀ a b, a ≤ b → b < L.length → decide (0 ≤ compareBytes (L.getD a res0).action A) = true → decide (0 ≤ compareBytes (L.getD b res0).action A) = true := by
  intro a b hab hb ha
  simp only [decide_eq_true_eq] at ha ⊢
  by_cases e : a = b
  · subst e; exact ha
  · have h1 := rise_pair h (show a < b by omega) hb
    unfold cf at h1
    have h2 := cmp_swap (L.getD a res0).action A
    have h3 := cmp_swap (L.getD b res0).action A
    have := cmp_le_trans (a := A) (b := (L.getD a res0).action) (c := (L.getD b res0).action) (by omega) (by omega)
    omega
theorem count_range (p : Nat → Bool) : ∀ n, (∀ a b, a ≤ b → b < n → p a = true → p b = true) → ∀ k, k ≤ n → ((List.range n).countP (fun i => !p i) = k ↔ (∀ i, i < k → p i = false) ∧ (∀ i, k ≤ i → i < n → p i = true)) := by
  intro n hm k hk
  have key : ∀ m, m ≤ n → ∀ c, (List.range m).countP (fun i => !p i) = c → c ≤ m ∧ (∀ i, i < c → p i = false) ∧ (∀ i, c ≤ i → i < m → p i = true) := by
    intro m
    induction m with
    | zero => intro _ c hc; simp at hc; subst hc; exact ⟨Nat.le_refl _, fun i hi => by omega, fun i _ hi => by omega⟩
    | succ m ih =>
      intro hmn c hc
      rw [List.range_succ, List.countP_append] at hc
      simp only [List.countP_cons, List.countP_nil, Nat.zero_add] at hc
      obtain ⟨h1, h2, h3⟩ := ih (by omega) _ rfl
      cases hpm : p m with
      | true =>
        simp only [hpm, Bool.not_true, Bool.false_eq_true, if_false, Nat.add_zero] at hc
        subst hc
        exact ⟨by omega, h2, fun i hi him => by
          by_cases e : i = m
          · subst e; exact hpm
          · exact h3 i hi (by omega)⟩
      | false =>
        simp only [hpm, Bool.not_false, if_true] at hc
        have hall : (List.range m).countP (fun i => !p i) = m := by
          by_cases e : (List.range m).countP (fun i => !p i) = m
          · exact e
          · have := h3 _ (Nat.le_refl _) (by omega)
            have := hm _ m (show (List.range m).countP (fun i => !p i) ≤ m by omega) (by omega) this
            rw [hpm] at this; cases this
        rw [hall] at hc h2
        subst hc
        exact ⟨Nat.le_refl _, fun i hi => by
          by_cases e : i = m
          · subst e; exact hpm
          · exact h2 i (by omega), fun i hi him => by omega⟩
  constructor
  · intro hc
    exact (key n (Nat.le_refl _) k hc).2
  · intro ⟨h1, h2⟩
    obtain ⟨g1, g2, g3⟩ := key n (Nat.le_refl _) _ rfl
    generalize (List.range n).countP (fun i => !p i) = c at g1 g2 g3 ⊢
    by_cases e : c = k
    · exact e
    · rcases Nat.lt_or_gt_of_ne e with e | e
      · have := g3 c (Nat.le_refl _) (by omega)
        rw [h1 c e] at this; cases this
      · have := g2 k e
        rw [h2 k (Nat.le_refl _) (by omega)] at this; cases this
theorem rank_le (L : List Res) (A : List UInt8) : rank L A ≤ L.length := by
  have := List.countP_le_length (p := fun i => !decide (0 ≤ compareBytes (L.getD i res0).action A)) (l := List.range L.length)
  simpa [rank] using this
theorem rank_facts {L : List Res} (h : rise L = true) (A : List UInt8) : (∀ i, i < rank L A → compareBytes (L.getD i res0).action A < 0) ∧ (∀ i, rank L A ≤ i → i < L.length → 0 ≤ compareBytes (L.getD i res0).action A) := by
  have := (count_range (fun i => decide (0 ≤ compareBytes (L.getD i res0).action A)) L.length (mono h A) (rank L A) (rank_le L A)).1 rfl
  refine ⟨fun i hi => ?_, fun i hi hl => ?_⟩
  · have := this.1 i hi; simpa using this
  · have := this.2 i hi hl; simpa using this
theorem has_iff {L : List Res} (h : rise L = true) (A : List UInt8) : has L A = (decide (rank L A < L.length) && decide ((L.getD (rank L A) res0).action = A)) := by
  obtain ⟨f1, f2⟩ := rank_facts h A
  rw [Bool.eq_iff_iff]
  simp only [has, List.any_eq_true, decide_eq_true_eq, Bool.and_eq_true]
  constructor
  · rintro ⟨e, he, hA⟩
    obtain ⟨j, hj, rfl⟩ := List.getElem_of_mem he
    have ej : L[j] = L.getD j res0 := by simp [List.getElem?_eq_getElem hj]
    rw [ej] at hA
    have c0 : compareBytes (L.getD j res0).action A = 0 := by rw [hA]; exact cmp_self _
    have h1 : rank L A ≤ j := by
      by_cases e : rank L A ≤ j
      · exact e
      · have := f1 j (by omega); omega
    have hlt : rank L A < L.length := by omega
    refine ⟨hlt, ?_⟩
    by_cases e : rank L A = j
    · rw [e]; exact hA
    · have g1 := f2 (rank L A) (Nat.le_refl _) hlt
      have g2 := rise_pair h (show rank L A < j by omega) hj
      unfold cf at g2
      rw [hA] at g2
      omega
  · rintro ⟨hlt, hA⟩
    exact ⟨_, getD_mem hlt, hA⟩
end Tb

theorem Try.ePlace : ∀ args w, (callFunc 31 args).run Try.prog w = .ok (.enter 31 args) w := enters_of Try.func31 (by kernel_rfl) rfl
set_option maxHeartbeats 1600000 in
set_option maxRecDepth 100000 in
theorem place1_ok (ba bx b off n cap i : Nat) (e : Res) (A : List UInt8) (hA : A.length = 32) (W : World) (hi : i < n)
    (ca : W.cell? ⟨ba, 0, none⟩ = some (.slice (some ⟨b, off, none⟩) n cap)) (rA : W.rangeAt bx 0 (bys A)) (hr : W.rangeAt b (off + i * 65) e.cells) :
    Calls Try.prog 31 #[.int .i64 i, .pointer (some ⟨ba, 0, none⟩), .pointer (some ⟨bx, 0, none⟩)] W fun r w' => r = .returned (.bool (decide (0 ≤ compareBytes e.action A))) ∧ ∃ q, w' = W.drewN q := by
  have hcall : ∀ n, Calls Try.prog 32 #[.slice (some ⟨b, off + i * 65, none⟩) 32 32, .slice (some ⟨bx, 0, none⟩) 32 32] (W.drewN n) fun r w' => r = .returned (.int .i64 (compareBytes e.action A)) ∧ w' = W.drewN n := by
    intro n
    have := bcompare_ok (W.drewN n) b (off + i * 65) 32 bx 0 32 e.action A (fun j u h => by
      have hj := (List.getElem?_eq_some_iff.1 h).1
      rw [World.cell?_drewN, hr j _ (Res.act (by rw [← e.ha]; exact hj)), List.getD_eq_getElem?_getD, h]
      rfl) (fun j u h => by
      have hj := (List.getElem?_eq_some_iff.1 h).1
      rw [World.cell?_drewN, rA j _ (bys_at hj), List.getD_eq_getElem?_getD, h]
      rfl)
    rw [e.ha, hA] at this
    exact this
  generalize compareBytes e.action A = R at hcall ⊢
  have s1 := fun W => Try.slice32 W b (off + i * 65)
  have s2 := fun W => Try.slice32 W bx 0
  have hiz : (i : Int) < (n : Int) := by omega
  clear rA hr
  go_enter Try.func31, Try.ntmps31
  go_wp2
  go_quiet ((go_at_call 32; exact Calls.quiet_of_same (hcall _)))
  go_wp2
  go_ret
  exact ⟨rfl, _, rfl⟩

set_option maxHeartbeats 3200000 in
set_option maxRecDepth 100000 in
theorem place_ok (ao : Option Addr) (n cap : Nat) (L : List Res) (A : List UInt8) (w : World) (hn : L.length = n) (hL : Ress w ao L) (hA : A.length = 32) (hr : Tb.rise L = true) (hm : n < 4611686018427387904) :
    Calls Try.prog 15 #[.slice ao n cap, .agg (bys A).toArray] w fun e w' => e = .returned (.tuple #[.int .i64 (Tb.rank L A), .bool (Tb.has L A)]) ∧ Kept [] w w' := by
  obtain ⟨W0, hW0⟩ : ∃ W0, (w.alloc (.cells #[.slice ao n cap] 22)).alloc (.cells (bys A).toArray 24) = W0 := ⟨_, rfl⟩
  have hk0 : Kept [] w W0 := by rw [← hW0]; exact ((Kept.refl [] w).alloc _).alloc _
  have hsz : W0.heap.size = w.heap.size + 2 := by rw [← hW0]; simp
  have ca : W0.cell? ⟨w.heap.size, 0, none⟩ = some (.slice ao n cap) := by
    have h1 : W0.heap[w.heap.size]? = some (.cells #[.slice ao n cap] 22) := by rw [← hW0, heap_old (by simp)]; exact heap_new w _
    rw [cell_of_row _ _ _ _ _ _ h1]; rfl
  have rA : W0.rangeAt (w.heap.size + 1) 0 (bys A) := by
    intro j v hj
    have h0 := heap_new (w.alloc (.cells #[.slice ao n cap] 22)) (.cells (bys A).toArray 24)
    rw [hW0, show (w.alloc (.cells #[.slice ao n cap] 22)).heap.size = w.heap.size + 1 by simp] at h0
    rw [Nat.zero_add, cell_of_row _ _ _ _ _ _ h0]
    simpa using hj
  have hL0 := hL.kept hk0 (by simp)
  have hS : Calls Try.prog 30 #[.int .i64 n, .func (.func 31) #[] #[.pointer (some ⟨w.heap.size, 0, none⟩), .pointer (some ⟨w.heap.size + 1, 0, none⟩)]] W0 fun e w' => e = .returned (.int .i64 (Tb.rank L A : Nat)) ∧ Kept [] W0 w' := by
    have h := Any.sort_Search laySearch 31 #[.pointer (some ⟨w.heap.size, 0, none⟩), .pointer (some ⟨w.heap.size + 1, 0, none⟩)] n (fun i => decide (0 ≤ compareBytes (L.getD i res0).action A)) W0 Try.ePlace hm
      (fun m os i hi => by
        obtain ⟨b, off, rfl, hrg⟩ := hL0 i (by rw [hn]; exact hi)
        have hbl : b < W0.heap.size := World.block_lt_of_cell? _ _ (hrg 0 _ (Res.act (by omega)))
        refine (place1_ok w.heap.size (w.heap.size + 1) b off n cap i (L.getD i res0) A hA (grow (W0.drewN m) os) hi (cell_grown (by simp [hsz]) ca m os) (fun j v hj => cell_grown (by simp [hsz]) (rA j v hj) m os) (fun j v hj => cell_grown hbl (hrg j v hj) m os)).mono ?_
        rintro e w' ⟨he, q, rfl⟩
        exact ⟨he, q, #[], by rw [grow_empty]⟩) (fun a b hab hb h => Tb.mono hr A a b hab (by rw [hn]; exact hb) h)
    rw [show (List.range n).countP (fun i => !decide (0 ≤ compareBytes (L.getD i res0).action A)) = Tb.rank L A by unfold Tb.rank; rw [hn]] at h
    refine h.mono ?_
    rintro e w' ⟨he, q, os, rfl⟩
    exact ⟨he, Kept.of_below (below_grown_sl W0.heap.size W0 q os (Nat.le_refl _))⟩
  have HH : Hid (Tb.has L A = (decide (Tb.rank L A < n) && decide ((L.getD (Tb.rank L A) res0).action = A))) := by show _ = _; rw [Tb.has_iff hr A, hn]
  have hle := Tb.rank_le L A
  rw [hn] at hle
  obtain ⟨k, hk⟩ : ∃ k, Tb.rank L A = k := ⟨_, rfl⟩
  rw [hk] at hS HH hle ⊢
  have HK0 := hide hk0
  have HL0 := hide hL0
  have HN := hide hn
  have HS0 : Hid (w.heap.size + 2 = W0.heap.size) := hsz.symm
  clear hk0 hL0 hn hL hr hk hsz
  by_cases hlt : k < n
  · have hltz : (k : Int) < (n : Int) := by omega
    obtain ⟨b, off, rfl, hr0⟩ := HL0.out k (by rw [HN.out]; exact hlt)
    generalize L.getD k res0 = e1 at hr0 HH
    go_enter Try.func15, Try.ntmps15
    go_wp2_with (first | (go_at_call 30; refine hS.mono ?_; rintro e wr ⟨rfl, hk1⟩))
    replace ca := hk1.cellOf ca (by simp)
    replace rA : wr.rangeAt (w.heap.size + 1) 0 (bys A) := fun j v hj => hk1.cellOf (rA j v hj) (by simp)
    have hr1 : wr.rangeAt b (off + k * 65) (bys e1.action) := fun j v hj => by
      obtain ⟨hj1, rfl⟩ := bys_get hj
      exact hk1.cellOf (hr0 j _ (Res.act (by rw [← e1.ha]; exact hj1))) (by simp)
    have HK1 := hide hk1
    clear hk1 hr0 hS hW0
    have i1 : (Try.prog.info? 24).map (·.size) = some (bys e1.action).length := by rw [bys_length, e1.ha]; kernel_rfl
    have i2 : (Try.prog.info? 24).map (·.size) = some (bys A).length := by rw [bys_length, hA]; kernel_rfl
    have heq := Try.eqlID e1.action A e1.ha hA
    obtain ⟨D, hD⟩ : ∃ D, decide (e1.action = A) = D := ⟨_, rfl⟩
    rw [hD] at heq HH
    clear hD
    try simp only [] at *
    refine wp_region_held_drew (S := fun w' => Kept [] wr w') (by kernel_rfl) ((Kept.refl [] wr).drew) (fun h0 => ?_)
    generalize World.drew wr = v0 at h0 ⊢
    refine wpAnyH_take (i := 0) (v := .int .i64 k) rfl (by kernel_rfl) (by kernel_rfl) (by kernel_rfl) (fun _ _ _ h => h) (Or.inl ⟨by rfl, fun w hSw => by go_simp⟩) h0 ?_
    try simp only [List.getElem_toArray, List.getElem_cons_zero, List.getElem_cons_succ, Act.put, List.setIfInBounds_toArray, List.set_cons_zero, List.set_cons_succ]
    refine wpAnyH_take (i := 1) (v := .int .i64 k) rfl (by kernel_rfl) (by kernel_rfl) (by kernel_rfl) (fun _ _ _ h => h) (Or.inl ⟨by rfl, fun w hSw => by go_simp⟩) h0 ?_
    try simp only [List.getElem_toArray, List.getElem_cons_zero, List.getElem_cons_succ, Act.put, List.setIfInBounds_toArray, List.set_cons_zero, List.set_cons_succ]
    refine wpAnyH_take (i := 2) (v := .slice (some ⟨b, off, none⟩) n cap) rfl (by kernel_rfl) (by kernel_rfl) (by kernel_rfl) (fun _ _ _ h => h) (Or.inl ⟨by rfl, fun w hSw => by have c := Kept.cellOf hSw ca (by simp); go_simp⟩) h0 ?_
    try simp only [List.getElem_toArray, List.getElem_cons_zero, List.getElem_cons_succ, Act.put, List.setIfInBounds_toArray, List.set_cons_zero, List.set_cons_succ]
    refine wpAnyH_take (i := 3) (v := .int .i64 n) rfl (by kernel_rfl) (by kernel_rfl) (by kernel_rfl) (fun _ _ _ h => h) (Or.inl ⟨by rfl, fun w hSw => by go_simp⟩) h0 ?_
    try simp only [List.getElem_toArray, List.getElem_cons_zero, List.getElem_cons_succ, Act.put, List.setIfInBounds_toArray, List.set_cons_zero, List.set_cons_succ]
    refine wpAnyH_take (i := 4) (v := .bool true) rfl (by kernel_rfl) (by kernel_rfl) (by kernel_rfl) (fun _ _ _ h => h) (Or.inl ⟨by rfl, fun w hSw => by go_simp⟩) h0 ?_
    try simp only [List.getElem_toArray, List.getElem_cons_zero, List.getElem_cons_succ, Act.put, List.setIfInBounds_toArray, List.set_cons_zero, List.set_cons_succ]
    refine wpAnyH_take (i := 5) (v := .bool true) rfl (by kernel_rfl) (by kernel_rfl) (by kernel_rfl) (fun _ _ _ h => h) (Or.inl ⟨by rfl, fun w hSw => by go_simp⟩) h0 ?_
    try simp only [List.getElem_toArray, List.getElem_cons_zero, List.getElem_cons_succ, Act.put, List.setIfInBounds_toArray, List.set_cons_zero, List.set_cons_succ]
    refine wpAnyH_take (i := 6) (v := .slice (some ⟨b, off, none⟩) n cap) rfl (by kernel_rfl) (by kernel_rfl) (by kernel_rfl) (fun _ _ _ h => h) (Or.inl ⟨by rfl, fun w hSw => by have c := Kept.cellOf hSw ca (by simp); go_simp⟩) h0 ?_
    try simp only [List.getElem_toArray, List.getElem_cons_zero, List.getElem_cons_succ, Act.put, List.setIfInBounds_toArray, List.set_cons_zero, List.set_cons_succ]
    refine wpAnyH_take (i := 7) (v := .int .i64 k) rfl (by kernel_rfl) (by kernel_rfl) (by kernel_rfl) (fun _ _ _ h => h) (Or.inl ⟨by rfl, fun w hSw => by go_simp⟩) h0 ?_
    try simp only [List.getElem_toArray, List.getElem_cons_zero, List.getElem_cons_succ, Act.put, List.setIfInBounds_toArray, List.set_cons_zero, List.set_cons_succ]
    refine wpAnyH_take (i := 8) (v := .pointer (some ⟨b, off + k * 65, none⟩)) rfl (by kernel_rfl) (by kernel_rfl) (by kernel_rfl) (fun _ _ _ h => h) (Or.inl ⟨by rfl, fun w hSw => by go_simp⟩) h0 ?_
    try simp only [List.getElem_toArray, List.getElem_cons_zero, List.getElem_cons_succ, Act.put, List.setIfInBounds_toArray, List.set_cons_zero, List.set_cons_succ]
    refine wpAnyH_take (i := 9) (v := .pointer (some ⟨b, off + k * 65, none⟩)) rfl (by kernel_rfl) (by kernel_rfl) (by kernel_rfl) (fun _ _ _ h => h) (Or.inl ⟨by rfl, fun w hSw => by go_simp⟩) h0 ?_
    try simp only [List.getElem_toArray, List.getElem_cons_zero, List.getElem_cons_succ, Act.put, List.setIfInBounds_toArray, List.set_cons_zero, List.set_cons_succ]
    refine wpAnyH_take (i := 10) rfl (by kernel_rfl) (by kernel_rfl) (by kernel_rfl) (fun _ _ _ h => h) (yieldsIf_load_mid (by rfl) _ _ rfl _ _ rfl _ _ (fun w h j v hv => Kept.cellOf h (hr1 j v hv) (by simp)) Try.underlying24 rfl i1) h0 ?_
    try simp only [List.getElem_toArray, List.getElem_cons_zero, List.getElem_cons_succ, Act.put, List.setIfInBounds_toArray, List.set_cons_zero, List.set_cons_succ]
    refine wpAnyH_take (i := 11) rfl (by kernel_rfl) (by kernel_rfl) (by kernel_rfl) (fun _ _ _ h => h) (yieldsIf_load_mid (by rfl) _ _ rfl _ _ rfl _ _ (fun w h j v hv => Kept.cellOf h (rA j v hv) (by simp)) Try.underlying24 rfl i2) h0 ?_
    try simp only [List.getElem_toArray, List.getElem_cons_zero, List.getElem_cons_succ, Act.put, List.setIfInBounds_toArray, List.set_cons_zero, List.set_cons_succ]
    refine wpAnyH_take (i := 12) (v := .bool D) rfl (by kernel_rfl) (by kernel_rfl) (by kernel_rfl) (fun _ _ _ h => h) (Or.inl ⟨by rfl, fun w hSw => by have c := heq w; go_simp⟩) h0 ?_
    try simp only [List.getElem_toArray, List.getElem_cons_zero, List.getElem_cons_succ, Act.put, List.setIfInBounds_toArray, List.set_cons_zero, List.set_cons_succ]
    refine wpAnyH_take (i := 13) (v := .bool D) rfl (by kernel_rfl) (by kernel_rfl) (by kernel_rfl) (fun _ _ _ h => h) (Or.inl ⟨by rfl, fun w hSw => by go_simp⟩) h0 ?_
    try simp only [List.getElem_toArray, List.getElem_cons_zero, List.getElem_cons_succ, Act.put, List.setIfInBounds_toArray, List.set_cons_zero, List.set_cons_succ]
    refine wpAnyH_take (i := 14) (v := .int .i64 k) rfl (by kernel_rfl) (by kernel_rfl) (by kernel_rfl) (fun _ _ _ h => h) (Or.inl ⟨by rfl, fun w hSw => by go_simp⟩) h0 ?_
    try simp only [List.getElem_toArray, List.getElem_cons_zero, List.getElem_cons_succ, Act.put, List.setIfInBounds_toArray, List.set_cons_zero, List.set_cons_succ]
    refine wpAnyH_take (i := 15) (v := .bool D) rfl (by kernel_rfl) (by kernel_rfl) (by kernel_rfl) (fun _ _ _ h => h) (Or.inl ⟨by rfl, fun w hSw => by go_simp⟩) h0 ?_
    try simp only [List.getElem_toArray, List.getElem_cons_zero, List.getElem_cons_succ, Act.put, List.setIfInBounds_toArray, List.set_cons_zero, List.set_cons_succ]
    refine wpAnyH_done (by kernel_rfl) ?_ _
    clear heq i1 i2 hr1 rA ca
    go_wp2
    go_ret2
    exact ⟨by rw [HH.out]; simp [hlt], (HK0.out.trans HK1.out (by simp)).trans h0 (by simp)⟩
  · have hltz : ¬ (k : Int) < (n : Int) := by omega
    go_enter Try.func15, Try.ntmps15
    go_wp2_with (first | (go_at_call 30; refine hS.mono ?_; rintro e wr ⟨rfl, hk1⟩))
    replace ca := hk1.cellOf ca (by simp)
    have HK1 := hide hk1
    clear hk1 hS hW0 rA
    refine wp_region_held_drew (S := fun w' => Kept [] wr w') (by kernel_rfl) ((Kept.refl [] wr).drew) (fun h0 => ?_)
    generalize World.drew wr = v0 at h0 ⊢
    refine wpAnyH_take (i := 0) (v := .int .i64 k) rfl (by kernel_rfl) (by kernel_rfl) (by kernel_rfl) (fun _ _ _ h => h) (Or.inl ⟨by rfl, fun w hSw => by go_simp⟩) h0 ?_
    try simp only [List.getElem_toArray, List.getElem_cons_zero, List.getElem_cons_succ, Act.put, List.setIfInBounds_toArray, List.set_cons_zero, List.set_cons_succ]
    refine wpAnyH_take (i := 1) (v := .int .i64 k) rfl (by kernel_rfl) (by kernel_rfl) (by kernel_rfl) (fun _ _ _ h => h) (Or.inl ⟨by rfl, fun w hSw => by go_simp⟩) h0 ?_
    try simp only [List.getElem_toArray, List.getElem_cons_zero, List.getElem_cons_succ, Act.put, List.setIfInBounds_toArray, List.set_cons_zero, List.set_cons_succ]
    refine wpAnyH_take (i := 2) (v := .slice ao n cap) rfl (by kernel_rfl) (by kernel_rfl) (by kernel_rfl) (fun _ _ _ h => h) (Or.inl ⟨by rfl, fun w hSw => by have c := Kept.cellOf hSw ca (by simp); go_simp⟩) h0 ?_
    try simp only [List.getElem_toArray, List.getElem_cons_zero, List.getElem_cons_succ, Act.put, List.setIfInBounds_toArray, List.set_cons_zero, List.set_cons_succ]
    refine wpAnyH_take (i := 3) (v := .int .i64 n) rfl (by kernel_rfl) (by kernel_rfl) (by kernel_rfl) (fun _ _ _ h => h) (Or.inl ⟨by rfl, fun w hSw => by go_simp⟩) h0 ?_
    try simp only [List.getElem_toArray, List.getElem_cons_zero, List.getElem_cons_succ, Act.put, List.setIfInBounds_toArray, List.set_cons_zero, List.set_cons_succ]
    refine wpAnyH_take (i := 4) (v := .bool false) rfl (by kernel_rfl) (by kernel_rfl) (by kernel_rfl) (fun _ _ _ h => h) (Or.inl ⟨by rfl, fun w hSw => by go_simp⟩) h0 ?_
    try simp only [List.getElem_toArray, List.getElem_cons_zero, List.getElem_cons_succ, Act.put, List.setIfInBounds_toArray, List.set_cons_zero, List.set_cons_succ]
    refine wpAnyH_take (i := 5) (v := .bool false) rfl (by kernel_rfl) (by kernel_rfl) (by kernel_rfl) (fun _ _ _ h => h) (Or.inl ⟨by rfl, fun w hSw => by go_simp⟩) h0 ?_
    try simp only [List.getElem_toArray, List.getElem_cons_zero, List.getElem_cons_succ, Act.put, List.setIfInBounds_toArray, List.set_cons_zero, List.set_cons_succ]
    refine wpAnyH_take (i := 6) (v := undef) rfl (by kernel_rfl) (by kernel_rfl) (by kernel_rfl) (fun _ _ _ h => h) (Or.inr ⟨by rfl, rfl⟩) h0 ?_
    try simp only [List.getElem_toArray, List.getElem_cons_zero, List.getElem_cons_succ, Act.put, List.setIfInBounds_toArray, List.set_cons_zero, List.set_cons_succ]
    refine wpAnyH_take (i := 7) (v := undef) rfl (by kernel_rfl) (by kernel_rfl) (by kernel_rfl) (fun _ _ _ h => h) (Or.inr ⟨by rfl, rfl⟩) h0 ?_
    try simp only [List.getElem_toArray, List.getElem_cons_zero, List.getElem_cons_succ, Act.put, List.setIfInBounds_toArray, List.set_cons_zero, List.set_cons_succ]
    refine wpAnyH_take (i := 8) (v := undef) rfl (by kernel_rfl) (by kernel_rfl) (by kernel_rfl) (fun _ _ _ h => h) (Or.inr ⟨by rfl, rfl⟩) h0 ?_
    try simp only [List.getElem_toArray, List.getElem_cons_zero, List.getElem_cons_succ, Act.put, List.setIfInBounds_toArray, List.set_cons_zero, List.set_cons_succ]
    refine wpAnyH_take (i := 9) (v := undef) rfl (by kernel_rfl) (by kernel_rfl) (by kernel_rfl) (fun _ _ _ h => h) (Or.inr ⟨by rfl, rfl⟩) h0 ?_
    try simp only [List.getElem_toArray, List.getElem_cons_zero, List.getElem_cons_succ, Act.put, List.setIfInBounds_toArray, List.set_cons_zero, List.set_cons_succ]
    refine wpAnyH_take (i := 10) (v := undef) rfl (by kernel_rfl) (by kernel_rfl) (by kernel_rfl) (fun _ _ _ h => h) (Or.inr ⟨by rfl, rfl⟩) h0 ?_
    try simp only [List.getElem_toArray, List.getElem_cons_zero, List.getElem_cons_succ, Act.put, List.setIfInBounds_toArray, List.set_cons_zero, List.set_cons_succ]
    refine wpAnyH_take (i := 11) (v := undef) rfl (by kernel_rfl) (by kernel_rfl) (by kernel_rfl) (fun _ _ _ h => h) (Or.inr ⟨by rfl, rfl⟩) h0 ?_
    try simp only [List.getElem_toArray, List.getElem_cons_zero, List.getElem_cons_succ, Act.put, List.setIfInBounds_toArray, List.set_cons_zero, List.set_cons_succ]
    refine wpAnyH_take (i := 12) (v := undef) rfl (by kernel_rfl) (by kernel_rfl) (by kernel_rfl) (fun _ _ _ h => h) (Or.inr ⟨by rfl, rfl⟩) h0 ?_
    try simp only [List.getElem_toArray, List.getElem_cons_zero, List.getElem_cons_succ, Act.put, List.setIfInBounds_toArray, List.set_cons_zero, List.set_cons_succ]
    refine wpAnyH_take (i := 13) (v := .bool false) rfl (by kernel_rfl) (by kernel_rfl) (by kernel_rfl) (fun _ _ _ h => h) (Or.inl ⟨by rfl, fun w hSw => by go_simp⟩) h0 ?_
    try simp only [List.getElem_toArray, List.getElem_cons_zero, List.getElem_cons_succ, Act.put, List.setIfInBounds_toArray, List.set_cons_zero, List.set_cons_succ]
    refine wpAnyH_take (i := 14) (v := .int .i64 k) rfl (by kernel_rfl) (by kernel_rfl) (by kernel_rfl) (fun _ _ _ h => h) (Or.inl ⟨by rfl, fun w hSw => by go_simp⟩) h0 ?_
    try simp only [List.getElem_toArray, List.getElem_cons_zero, List.getElem_cons_succ, Act.put, List.setIfInBounds_toArray, List.set_cons_zero, List.set_cons_succ]
    refine wpAnyH_take (i := 15) (v := .bool false) rfl (by kernel_rfl) (by kernel_rfl) (by kernel_rfl) (fun _ _ _ h => h) (Or.inl ⟨by rfl, fun w hSw => by go_simp⟩) h0 ?_
    try simp only [List.getElem_toArray, List.getElem_cons_zero, List.getElem_cons_succ, Act.put, List.setIfInBounds_toArray, List.set_cons_zero, List.set_cons_succ]
    refine wpAnyH_done (by kernel_rfl) ?_ _
    clear ca
    go_wp2
    go_ret2
    exact ⟨by rw [HH.out]; simp [hlt], (HK0.out.trans HK1.out (by simp)).trans h0 (by simp)⟩

end Go.Proofs.Ytmhnjhnnaciokaa
