/-
  What the walks of chapter 8's laws share.
-/
import Derived.Test.YtdeneflgldagpaaT8a
import Derived.Test.YtdeneflgldagpaaT8s
import Derived.Test.YtdeneflgldagpaaZv
import Derived.Test.YtdeneflgldagpaaZz2
import Derived.Test.YtdeneflgldagpaaZz3
import Derived.Test.YtdeneflgldagpaaZx2
namespace Go.Proofs.Ytdeneflgldagpaa
open Go.RowKit Go.Sort
set_option linter.unusedVariables false
set_option linter.unusedSimpArgs false

/-- Where a walk over a roomy list stands: X is what the list holds. -/
structure Fi (w wi : World) (g n : Nat) (X : List Res) : Prop where
  len : X.length = n
  room : Ress wi (some ⟨g, 0, none⟩) (X ++ marks)
  there : wi.there g 0 ((n + 3) * 65)
  kept : Kept [] w wi
  new : w.heap.size ≤ g
  lt : g < wi.heap.size
theorem there_lt {w : World} {g n : Nat} (h : w.there g 0 n) (hn : 0 < n) : g < w.heap.size := by
  have := (h 0 hn).1
  rw [Option.isSome_iff_exists] at this
  obtain ⟨v, hv⟩ := this
  exact World.block_lt_of_cell? _ _ hv
theorem Fi.mk' {w wi : World} {g n : Nat} {X : List Res} (h1 : X.length = n) (h2 : Ress wi (some ⟨g, 0, none⟩) (X ++ marks)) (h3 : wi.there g 0 ((n + 3) * 65)) (h4 : Kept [] w wi) (h5 : w.heap.size ≤ g) : Fi w wi g n X :=
  ⟨h1, h2, h3, h4, h5, there_lt h3 (by omega)⟩
theorem Fi.more {l : List Nat} {w wi wj : World} {g n : Nat} {X : List Res} (h : Fi w wi g n X) (hk : Kept l wi wj) (hl : g ∉ l) (hn : ∀ i ∈ l, w.heap.size ≤ i) : Fi w wj g n X :=
  ⟨h.len, h.room.kept hk (fun _ a ha => by cases ha; exact hl), there_kept h.there hk hl, h.kept.trans hk (fun i hi hlt => by have := hn i hi; omega), h.new, Nat.lt_of_lt_of_le h.lt hk.size⟩
theorem Fi.list {w wi : World} {g n : Nat} {X : List Res} (h : Fi w wi g n X) : Ress wi (some ⟨g, 0, none⟩) X := by
  have := h.room.take n
  rwa [List.take_append_of_le_length (by rw [h.len]; exact Nat.le_refl _), List.take_of_length_le (by rw [h.len]; exact Nat.le_refl _)] at this
theorem withRes_kept (w : World) (e : Res) : Kept [] w (withRes w e) := Kept.of_below (withRes_below w e)
theorem Kept.heapOf {l : List Nat} {w w' : World} (h : Kept l w w') {g : Nat} {o : Obj} (hg : w.heap[g]? = some o) (hn : g ∉ l) : w'.heap[g]? = some o := by
  rw [h.block g (Array.getElem?_eq_some_iff.1 hg).1 hn]; exact hg
theorem lt_row {w : World} {g : Nat} {o : Obj} (h : w.heap[g]? = some o) : g < w.heap.size := (Array.getElem?_eq_some_iff.1 h).1
theorem Tb.find_self {L : List Res} {k : Nat} (hk : k < L.length) : (Tb.find L (L.getD k res0).action).isSome = true := by
  unfold Tb.find
  rw [List.find?_isSome]
  exact ⟨_, getD_mem hk, by simp⟩
/-- other, with room or not. -/
theorem other_any (ao : Option Addr) (n cap : Nat) (L : List Res) (w : World) (hn : L.length = n) (hL : Ress w ao L) (hnl : ao = none → cap = 0) (hm : n * 72 ≤ 140737488351232) :
    Calls Try.prog 16 #[.slice ao n cap] w fun r w' => ∃ bo c, r = .returned (.slice bo n c) ∧ Ress w' bo (Tb.twin L) ∧ (∀ a, bo = some a → L ≠ [] → w.heap.size ≤ a.block) ∧ Kept [] w w' := by
  by_cases h0 : L = []
  · subst h0
    obtain rfl : n = 0 := hn.symm
    refine (other_none ao cap w hnl).mono ?_
    rintro r w' ⟨bo, c, rfl, hk⟩
    exact ⟨bo, c, rfl, Ress.nil _ _, fun _ _ h => absurd rfl h, hk⟩
  · obtain ⟨b, o, rfl, _, _⟩ := hL.open h0
    refine (other_ok _ n cap L w hn hL (.inr ⟨b, o, rfl⟩) hnl hm (by have := List.length_pos_iff.2 h0; omega)).mono ?_
    rintro r w' ⟨g, c, rfl, _, hg, hr, hk⟩
    exact ⟨_, c, rfl, hr, fun a ha _ => by cases ha; exact hg, hk⟩
theorem id_range {W : World} {a : Nat} {A : List UInt8} {t : TypeId} {f : Nat × Nat} (h : W.heap[a]? = some (.cells (bys A).toArray t f)) : W.rangeAt a 0 (bys A) := fun j v hj => by
  rw [Nat.zero_add, cell_of_row _ _ _ _ _ _ h]; simpa using hj
theorem bne_self (b : Bool) : (b != b) = false := by cases b <;> rfl
theorem Fi.copy {w wi : World} {g n : Nat} {X : List Res} (h : Fi w wi g n X) (M : List Res) (hM : M.length = n) (bo : Option Addr) (c : Nat) (hm : Ress wi bo M) :
    ∃ wj, (Builtin.copy_ #[22, 22] 3 #[.slice (some ⟨g, 0, none⟩) n (n + 3), .slice bo n c]).run Try.prog wi = .ok (.int .i64 n) wj ∧ Fi w wj g n M ∧ Kept [g] wi wj := by
  obtain ⟨wj, hrun, hr, ht, hk⟩ := run_copyR wi g n (n + 3) c 3 bo X M marks h.len hM h.room h.there hm
  exact ⟨wj, hrun, Fi.mk' hM hr ht (h.kept.trans hk (fun i hi hlt => by simp at hi; subst hi; have := h.new; omega)) h.new, hk⟩
theorem Fi.code {w wi : World} {g n : Nat} {M : List Res} (h : Fi w wi g n M) (h0 : 0 < n) (c : Int) (hc : (Lit.int .i64 c).wf = true) : Fi w (wi.setCell ⟨g, 64, none⟩ (.int .i64 c)) g n (M.set 0 ((M.getD 0 res0).coded c hc)) := by
  have hl := h.len
  have h1 := Ress.code h.room (k := 0) (by simp; omega) (there_mid h.there 0 1 (by omega)) c hc
  rw [Nat.zero_mul, Nat.zero_add] at h1
  have e1 : (M ++ marks).getD 0 res0 = M.getD 0 res0 := by simp only [List.getD]; rw [List.getElem?_append_left (by omega)]
  rw [e1, List.set_append_left _ _ (by omega)] at h1
  exact Fi.mk' (by simpa using hl) h1 (there_cell h.there g 64 _) (h.kept.setCell (fun hb => by have := h.new; simp at hb; omega) _) h.new
theorem Fi.cell {w wi : World} {g n : Nat} {M : List Res} (h : Fi w wi g n M) (h0 : 0 < n) : wi.cell? ⟨g, 64, none⟩ = some (.int .i64 (M.getD 0 res0).code) ∧ wi.frozen? ⟨g, 64, none⟩ = false := by
  obtain ⟨b, o, e, hr⟩ := h.list 0 (by rw [h.len]; exact h0)
  cases e
  exact ⟨by have := hr 64 _ (Res.cod _); simpa using this, by have := (h.there 64 (by omega)).2; simpa using this⟩
/-- What an Encode tells, opened. -/
theorem told_open {w w' : World} {r : Ending} {b : Bool} {xs : List UInt8} (h : Told w w' r b xs) : ∃ bo c m, r = .returned (.tuple #[.slice bo m c, .int .i64 (Tb.code b)]) ∧ xs.length = m ∧ Sl w' bo xs ∧ (∀ a, bo = some a → w.heap.size ≤ a.block) ∧ m ≤ c ∧ Kept [] w w' := by
  obtain ⟨⟨v, rfl, ho⟩, hb⟩ := h
  rcases ho.2 with ⟨rfl, h0⟩ | ⟨g, cap, cur, rfl, hb2, hg, hn, hc, hs, ht⟩
  · have : xs = [] := List.eq_nil_of_length_eq_zero h0
    subst this
    exact ⟨none, 0, 0, rfl, rfl, Sl.nil _ _, by simp, Nat.le_refl _, Kept.of_below hb⟩
  · refine ⟨_, cap, xs.length, rfl, rfl, fun i hi => ⟨g, 0, rfl, ?_⟩, fun a ha => by cases ha; exact hb2, hn, Kept.of_below hb⟩
    rw [Nat.zero_add, cell_of_row _ _ _ _ _ _ hg]
    have h1 := bys_at hi
    rw [← ht, List.getElem?_take] at h1
    split at h1
    · simpa using h1
    · cases h1
theorem same_yes (a1 a2 : Option Addr) (n c1 c2 : Nat) (xs : List UInt8) (w : World) (hx : xs.length = n) (hm : n ≤ 4611686018427387904) (h1 : Sl w a1 xs) (h2 : Sl w a2 xs) :
    Calls Try.prog 12 #[.slice a1 n c1, .slice a2 n c2] w fun e w' => e = .returned (.bool true) ∧ Kept [] w w' := by
  refine (same_any a1 a2 n c1 n c2 xs xs w hx hx hm h1 h2).mono ?_
  rintro e w' ⟨rfl, k, rfl⟩
  exact ⟨by simp, (Kept.refl [] w).drewN k⟩
theorem like_yes (a1 a2 : Option Addr) (n c1 c2 : Nat) (L : List Res) (w : World) (hx : L.length = n) (hm : n ≤ 4611686018427387904) (h1 : Ress w a1 L) (h2 : Ress w a2 L) :
    Calls Try.prog 20 #[.slice a1 n c1, .slice a2 n c2] w fun e w' => e = .returned (.bool true) ∧ Kept [] w w' := by
  refine (like_ok a1 a2 n c1 n c2 L L w hx hx h1 h2 hm).mono ?_
  rintro e w' ⟨rfl, hk⟩
  exact ⟨by simp, hk⟩
theorem Tb.encd_len (L : List Res) : (Tb.encd L).length ≤ 3000 := by
  unfold Tb.encd
  split
  · rename_i h
    have := Tb.valid_len h
    simp only [Tb.encT, List.length_cons, Tb.flat_len]; omega
  · simp
end Go.Proofs.Ytdeneflgldagpaa
