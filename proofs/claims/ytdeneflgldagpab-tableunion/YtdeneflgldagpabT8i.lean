/-
  Ids in memory. Contract: freightlaw8.ids. (Written by tools/t8i.py.)
-/
import Derived.Test.YtdeneflgldagpabT8l
namespace Go.Proofs.Ytdeneflgldagpab
open Go.RowKit Go.Sort
set_option linter.unusedVariables false
set_option linter.unusedSimpArgs false

def Idss (w : World) (ao : Option Addr) (C : List (List UInt8)) : Prop :=
  ∀ i, i < C.length → ∃ b off, ao = some ⟨b, off, none⟩ ∧ w.rangeAt b (off + i * 32) (bys (C.getD i []))
theorem Idss.nil (w : World) (ao : Option Addr) : Idss w ao [] := fun i hi => by simp at hi
theorem Idss.kept {l : List Nat} {w w' : World} {ao : Option Addr} {C : List (List UInt8)} (h : Idss w ao C) (hk : Kept l w w') (hn : C ≠ [] → ∀ a, ao = some a → a.block ∉ l) : Idss w' ao C := by
  intro i hi
  obtain ⟨b, off, e, hc⟩ := h i hi
  exact ⟨b, off, e, fun j v hv => hk.cellOf (hc j v hv) (hn (by rintro rfl; simp at hi) ⟨b, off, none⟩ e)⟩
theorem idrows_at : ∀ {C : List (List UInt8)}, (∀ i ∈ C, i.length = 32) → ∀ (i j : Nat) (v : Value), i < C.length → (bys (C.getD i []))[j]? = some v → (idrows C)[i * 32 + j]? = some v := by
  intro C
  induction C with
  | nil => intro _ i j v hi; simp at hi
  | cons e r ih =>
    intro hl i j v hi hv
    have h1 : (bys e).length = 32 := by rw [bys_length]; exact hl e (by simp)
    cases i with
    | zero =>
      have hj := (List.getElem?_eq_some_iff.1 hv).1
      simp only [List.getD, List.getElem?_cons_zero, Option.getD_some] at hv hj
      simp only [idrows, List.flatMap_cons, Nat.zero_mul, Nat.zero_add]
      rw [List.getElem?_append_left hj]; exact hv
    | succ i =>
      have := ih (fun x hx => hl x (by simp [hx])) i j v (by simpa using hi) (by simpa [List.getD] using hv)
      simp only [idrows, List.flatMap_cons] at this ⊢
      rw [List.getElem?_append_right (by omega), h1]
      rw [show (i + 1) * 32 + j - 32 = i * 32 + j by omega]
      exact this
theorem own_ids {w : World} {base : Nat} {v : Value} {C : List (List UInt8)} (h : OwnI w base v C) : ∃ ao cap, v = .slice ao C.length cap ∧ Idss w ao C ∧ (∀ a, ao = some a → base ≤ a.block) := by
  rcases h.1.2 with ⟨rfl, h0⟩ | ⟨g, cap, cur, rfl, hb, hg, hn, hc, hs, ht⟩
  · have h0' : C.length = 0 := h0
    have : C = [] := List.eq_nil_of_length_eq_zero h0'
    subst this
    exact ⟨none, 0, rfl, Idss.nil _ _, by simp⟩
  · refine ⟨_, cap, rfl, fun i hi => ⟨g, 0, rfl, fun j u hu => ?_⟩, fun a ha => by cases ha; exact hb⟩
    have h1 := idrows_at h.2 i j u hi hu
    rw [← ht, List.getElem?_take] at h1
    rw [Nat.zero_add, cell_of_row _ _ _ _ _ _ hg]
    split at h1
    · simpa using h1
    · cases h1
/-- What Join tells, opened. -/
theorem told_openJ {w w' : World} {r : Ending} {s : Tb.St} (h : ToldJ w w' r s) : ∃ bo c m co d q, r = .returned (.tuple #[.slice bo m c, .slice co q d, .int .i64 s.2.2]) ∧ s.1.length = m ∧ s.2.1.length = q ∧ Ress w' bo s.1 ∧ Idss w' co s.2.1 ∧ (∀ i ∈ s.2.1, i.length = 32) ∧ (∀ a, bo = some a → w.heap.size ≤ a.block) ∧ (∀ a, co = some a → w.heap.size ≤ a.block) ∧ Kept [] w w' := by
  obtain ⟨⟨v, vc, rfl, ho, hi⟩, hk⟩ := h
  obtain ⟨bo, c, rfl, _, hR, hao, _⟩ := ho.ress
  obtain ⟨co, d, rfl, hI, hco⟩ := own_ids hi
  exact ⟨bo, c, _, co, d, _, rfl, rfl, rfl, hR, hI, hi.2, fun a ha => by obtain ⟨g, rfl, hb, _⟩ := hao a ha; exact hb, hco, hk⟩

set_option maxHeartbeats 1600000 in
set_option maxRecDepth 100000 in
theorem ids_some (b1 o1 c1 b2 o2 c2 n : Nat) (C : List (List UInt8)) (w : World) (hC : C.length = n) (hl : ∀ i ∈ C, i.length = 32) (hm : n ≤ 4611686018427387904) (h1 : Idss w (some ⟨b1, o1, none⟩) C) (h2 : Idss w (some ⟨b2, o2, none⟩) C) :
    Calls Try.prog 17 #[.slice (some ⟨b1, o1, none⟩) n c1, .slice (some ⟨b2, o2, none⟩) n c2] w fun e w' => e = .returned (.bool true) ∧ Kept [] w w' := by
  have HC : Hid (C.length = n) := hC
  have HLn := hide hl
  have H1 := hide h1
  have H2 := hide h2
  clear hC hl h1 h2
  go_enter Try.func17, Try.ntmps17
  go_wp2
  go_loopw [5] (fun x wr => ∃ k : Nat, k ≤ n ∧ x = .int .i64 k ∧ Hid (Kept [] w wr)) (fun x wr => n - (intOf x).toNat)
  case atStart => exact ⟨0, Nat.zero_le _, rfl, Kept.refl _ _⟩
  case round =>
    obtain ⟨k, hk, rfl, HK⟩ := hrel
    by_cases hlt : k < n
    · obtain ⟨_, _, hx, hr1⟩ := (H1.out.kept HK.out (by simp)) k (by rw [HC.out]; exact hlt)
      cases hx
      obtain ⟨_, _, hx, hr2⟩ := (H2.out.kept HK.out (by simp)) k (by rw [HC.out]; exact hlt)
      cases hx
      have hE : (C.getD k []).length = 32 := HLn.out _ (by simp [List.getD, List.getElem?_eq_getElem (show k < C.length by rw [HC.out]; exact hlt)])
      generalize C.getD k [] = E at *
      have i1 : (Try.prog.info? 34).map (·.size) = some (bys E).length := by rw [bys_length, hE]; kernel_rfl
      have heq := Try.eqlID E E hE hE
      simp only [decide_true] at heq
      clear hE
      go_upto_region 6 with (fail)
      refine wp_region_held_drew (S := fun w' => Kept [] wr w') (by kernel_rfl) ((Kept.refl [] wr).drew) (fun h0 => ?_)
      generalize World.drew wr = v0 at h0 ⊢
      refine wpAnyH_take (i := 0) (v := .slice (some ⟨b1, o1, none⟩) n c1) rfl (by kernel_rfl) (by kernel_rfl) (by kernel_rfl) (fun _ _ _ h => h) (Or.inl ⟨by rfl, fun w hSw => by go_simp⟩) h0 ?_
      try simp only [List.getElem_toArray, List.getElem_cons_zero, List.getElem_cons_succ, Act.put, List.setIfInBounds_toArray, List.set_cons_zero, List.set_cons_succ]
      refine wpAnyH_take (i := 1) (v := .int .i64 k) rfl (by kernel_rfl) (by kernel_rfl) (by kernel_rfl) (fun _ _ _ h => h) (Or.inl ⟨by rfl, fun w hSw => by go_simp⟩) h0 ?_
      try simp only [List.getElem_toArray, List.getElem_cons_zero, List.getElem_cons_succ, Act.put, List.setIfInBounds_toArray, List.set_cons_zero, List.set_cons_succ]
      refine wpAnyH_take (i := 2) (v := .pointer (some ⟨b1, o1 + k * 32, none⟩)) rfl (by kernel_rfl) (by kernel_rfl) (by kernel_rfl) (fun _ _ _ h => h) (Or.inl ⟨by rfl, fun w hSw => by go_simp⟩) h0 ?_
      try simp only [List.getElem_toArray, List.getElem_cons_zero, List.getElem_cons_succ, Act.put, List.setIfInBounds_toArray, List.set_cons_zero, List.set_cons_succ]
      refine wpAnyH_take (i := 3) rfl (by kernel_rfl) (by kernel_rfl) (by kernel_rfl) (fun _ _ _ h => h) (yieldsIf_load_mid (by rfl) _ _ rfl _ _ rfl _ _ (fun w h j v hv => Kept.cellOf h (hr1 j v hv) (by simp)) Try.underlying34 rfl i1) h0 ?_
      try simp only [List.getElem_toArray, List.getElem_cons_zero, List.getElem_cons_succ, Act.put, List.setIfInBounds_toArray, List.set_cons_zero, List.set_cons_succ]
      refine wpAnyH_take (i := 4) (v := .slice (some ⟨b2, o2, none⟩) n c2) rfl (by kernel_rfl) (by kernel_rfl) (by kernel_rfl) (fun _ _ _ h => h) (Or.inl ⟨by rfl, fun w hSw => by go_simp⟩) h0 ?_
      try simp only [List.getElem_toArray, List.getElem_cons_zero, List.getElem_cons_succ, Act.put, List.setIfInBounds_toArray, List.set_cons_zero, List.set_cons_succ]
      refine wpAnyH_take (i := 5) (v := .int .i64 k) rfl (by kernel_rfl) (by kernel_rfl) (by kernel_rfl) (fun _ _ _ h => h) (Or.inl ⟨by rfl, fun w hSw => by go_simp⟩) h0 ?_
      try simp only [List.getElem_toArray, List.getElem_cons_zero, List.getElem_cons_succ, Act.put, List.setIfInBounds_toArray, List.set_cons_zero, List.set_cons_succ]
      refine wpAnyH_take (i := 6) (v := .pointer (some ⟨b2, o2 + k * 32, none⟩)) rfl (by kernel_rfl) (by kernel_rfl) (by kernel_rfl) (fun _ _ _ h => h) (Or.inl ⟨by rfl, fun w hSw => by go_simp⟩) h0 ?_
      try simp only [List.getElem_toArray, List.getElem_cons_zero, List.getElem_cons_succ, Act.put, List.setIfInBounds_toArray, List.set_cons_zero, List.set_cons_succ]
      refine wpAnyH_take (i := 7) rfl (by kernel_rfl) (by kernel_rfl) (by kernel_rfl) (fun _ _ _ h => h) (yieldsIf_load_mid (by rfl) _ _ rfl _ _ rfl _ _ (fun w h j v hv => Kept.cellOf h (hr2 j v hv) (by simp)) Try.underlying34 rfl i1) h0 ?_
      try simp only [List.getElem_toArray, List.getElem_cons_zero, List.getElem_cons_succ, Act.put, List.setIfInBounds_toArray, List.set_cons_zero, List.set_cons_succ]
      refine wpAnyH_take (i := 8) (v := .bool false) rfl (by kernel_rfl) (by kernel_rfl) (by kernel_rfl) (fun _ _ _ h => h) (Or.inl ⟨by rfl, fun w hSw => by have c := heq w; go_simp⟩) h0 ?_
      try simp only [List.getElem_toArray, List.getElem_cons_zero, List.getElem_cons_succ, Act.put, List.setIfInBounds_toArray, List.set_cons_zero, List.set_cons_succ]
      refine wpAnyH_done (by kernel_rfl) ?_ _
      clear heq i1 hr1 hr2
      go_wp2
      go_roundw
      case rel => exact ⟨k + 1, by omega, by go_num, HK.out.trans h0 (by simp)⟩
      case measure => simp [intOf]; omega
    · go_wp2
      go_ret
      exact ⟨rfl, HK.out⟩

set_option maxRecDepth 100000 in
theorem ids_none (a1 a2 : Option Addr) (c1 c2 : Nat) (w : World) :
    Calls Try.prog 17 #[.slice a1 0 c1, .slice a2 0 c2] w fun e w' => e = .returned (.bool true) ∧ w' = w := by
  go_enter Try.func17, Try.ntmps17
  go_wp2
  go_loopw [5] (fun x wr => x = .int .i64 0 ∧ wr = w) (fun x wr => 0)
  case atStart => exact ⟨rfl, rfl⟩
  case round =>
    obtain ⟨rfl, rfl⟩ := hrel
    go_wp2
    go_ret
    exact ⟨rfl, rfl⟩
theorem ids_yes (a1 a2 : Option Addr) (n c1 c2 : Nat) (C : List (List UInt8)) (w : World) (hC : C.length = n) (hl : ∀ i ∈ C, i.length = 32) (hm : n ≤ 4611686018427387904) (h1 : Idss w a1 C) (h2 : Idss w a2 C) :
    Calls Try.prog 17 #[.slice a1 n c1, .slice a2 n c2] w fun e w' => e = .returned (.bool true) ∧ Kept [] w w' := by
  by_cases h0 : n = 0
  · subst h0
    refine (ids_none a1 a2 c1 c2 w).mono ?_
    rintro e w' ⟨rfl, rfl⟩
    exact ⟨rfl, Kept.refl _ _⟩
  · obtain ⟨b1, o1, rfl, _⟩ := h1 0 (by omega)
    obtain ⟨b2, o2, rfl, _⟩ := h2 0 (by omega)
    exact ids_some b1 o1 c1 b2 o2 c2 n C w hC hl hm h1 h2
theorem Tb.uni_len (z : Res → Res → Res) (ec : Int) : ∀ (A B : List Res) (s : Tb.St), (Tb.uni z ec A B s).1.length ≤ A.length + B.length + s.1.length ∧ (Tb.uni z ec A B s).2.1.length ≤ A.length + s.2.1.length := by
  intro A B
  induction h : A.length + B.length using Nat.strongRecOn generalizing A B with
  | _ n ih =>
    intro s
    subst h
    cases A with
    | nil => rw [Tb.uni_left]; simp; omega
    | cons a A =>
      cases B with
      | nil => rw [Tb.uni_right]; simp; omega
      | cons b B =>
        by_cases h1 : Tb.cf a b < 0
        · rw [Tb.uni_lt _ _ _ _ _ _ _ h1]
          have := ih (A.length + (b :: B).length) (by simp) A (b :: B) rfl (s.1 ++ [a], s.2)
          simp only [List.length_append, List.length_cons, List.length_nil] at this ⊢
          omega
        · by_cases h2 : 0 < Tb.cf a b
          · rw [Tb.uni_gt _ _ _ _ _ _ _ h2]
            have := ih ((a :: A).length + B.length) (by simp) (a :: A) B rfl (s.1 ++ [b], s.2)
            simp only [List.length_append, List.length_cons, List.length_nil] at this ⊢
            omega
          · rw [Tb.uni_eq _ _ _ _ _ _ _ (by omega)]
            have h3 := Tb.both_len (z a b) ec a b s
            have := ih (A.length + B.length) (by simp; omega) A B rfl (Tb.both (z a b) ec a b s)
            simp only [List.length_cons] at this ⊢
            omega
theorem Tb.join_len (A B : List Res) (p : Int) : (Tb.join A B p).1.length ≤ A.length + B.length ∧ (Tb.join A B p).2.1.length ≤ A.length := by
  have := Tb.uni_len (Tb.setl p) (Tb.sete p) A B ([], [], 0)
  simp only [List.length_nil] at this
  unfold Tb.join
  split
  · simp
  · split
    · simp
    · split
      · simp; omega
      · split
        · simp
        · simp only; omega
end Go.Proofs.Ytdeneflgldagpab
