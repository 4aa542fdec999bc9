/-
  BlockOwn: Byr, Ci, Cj, Ck, Cm together. (Written by tools/merge.py.)
-/
import Derived.Test.YtdnbpklnkmgmkaaCe2
import Derived.Test.YtdnbpklnkmgmkaaDc
import Derived.Test.YtdnbpklnkmgmkaaBh
namespace Go.Proofs.Ytdnbpklnkmgmkaa
section
open Go.RowKit
set_option linter.unusedVariables false
set_option linter.unusedSimpArgs false

set_option maxHeartbeats 1600000 in
set_option maxRecDepth 100000 in
theorem rows_some (b1 o1 c1 b2 o2 c2 n : Nat) (A : List Bk) (w : World) (hA : A.length = n) (hm : n ≤ 4611686018427387904) (h1 : Blks w (some ⟨b1, o1, none⟩) A) (h2 : Blks w (some ⟨b2, o2, none⟩) A) :
    Calls Try.prog 15 #[.slice (some ⟨b1, o1, none⟩) n c1, .slice (some ⟨b2, o2, none⟩) n c2] w fun e w' => e = .returned (.bool true) ∧ Kept [] w w' := by
  have HA : Hid (A.length = n) := hA
  have H1 := hide h1
  have H2 := hide h2
  clear hA h1 h2
  go_enter Try.func15, Try.ntmps15
  go_wp2
  go_loopw [5] (fun x wr => ∃ k : Nat, k ≤ n ∧ x = .int .i64 k ∧ Hid (Kept [] w wr)) (fun x wr => n - (intOf x).toNat)
  case atStart => exact ⟨0, Nat.zero_le _, rfl, Kept.refl _ _⟩
  case round =>
    obtain ⟨k, hk, rfl, HK⟩ := hrel
    by_cases hlt : k < n
    · obtain ⟨_, _, hx, hr1⟩ := H1.out k (by rw [HA.out]; exact hlt)
      cases hx
      obtain ⟨_, _, hx, hr2⟩ := H2.out k (by rw [HA.out]; exact hlt)
      cases hx
      generalize A.getD k bk0 = e1 at hr1 hr2
      obtain ⟨a, p, r, u⟩ := e1
      simp only [Bk.cells] at hr1 hr2
      have hkn : (k : Int) < (n : Int) := by omega
      have heq := Try.eqlBlk a p r u
      replace hr1 : wr.rangeAt b1 (o1 + k * 4) [.int .i64 a, .int .i64 p, .int .i64 r, .int .i64 u] := fun j v hv => HK.out.cellOf (hr1 j v hv) (by simp)
      replace hr2 : wr.rangeAt b2 (o2 + k * 4) [.int .i64 a, .int .i64 p, .int .i64 r, .int .i64 u] := fun j v hv => HK.out.cellOf (hr2 j v hv) (by simp)
      go_upto_region 6 with (fail)
      refine wp_region_held_drew (S := fun w' => Kept [] wr w') (by kernel_rfl) ((Kept.refl [] wr).drew) (fun h0 => ?_)
      generalize World.drew wr = v0 at h0 ⊢
      refine wpAnyH_take (i := 0) (v := .slice (some ⟨b1, o1, none⟩) n c1) rfl (by kernel_rfl) (by kernel_rfl) (by kernel_rfl) (fun _ _ _ h => h) (Or.inl ⟨by rfl, fun w hSw => by go_simp⟩) h0 ?_
      try simp only [List.getElem_toArray, List.getElem_cons_zero, List.getElem_cons_succ, Act.put, List.setIfInBounds_toArray, List.set_cons_zero, List.set_cons_succ]
      refine wpAnyH_take (i := 1) (v := .int .i64 k) rfl (by kernel_rfl) (by kernel_rfl) (by kernel_rfl) (fun _ _ _ h => h) (Or.inl ⟨by rfl, fun w hSw => by go_simp⟩) h0 ?_
      try simp only [List.getElem_toArray, List.getElem_cons_zero, List.getElem_cons_succ, Act.put, List.setIfInBounds_toArray, List.set_cons_zero, List.set_cons_succ]
      refine wpAnyH_take (i := 2) (v := .pointer (some ⟨b1, o1 + k * 4, none⟩)) rfl (by kernel_rfl) (by kernel_rfl) (by kernel_rfl) (fun _ _ _ h => h) (Or.inl ⟨by rfl, fun w hSw => by have c := hkn; go_simp⟩) h0 ?_
      try simp only [List.getElem_toArray, List.getElem_cons_zero, List.getElem_cons_succ, Act.put, List.setIfInBounds_toArray, List.set_cons_zero, List.set_cons_succ]
      refine wpAnyH_take (i := 3) (v := .agg #[.int .i64 a, .int .i64 p, .int .i64 r, .int .i64 u]) rfl (by kernel_rfl) (by kernel_rfl) (by kernel_rfl) (fun _ _ _ h => h) (yieldsIf_load_mid (by rfl) _ _ rfl b1 (o1 + k * 4) rfl _ _ (fun w h j v hv => Kept.cellOf h (hr1 j v hv) (by simp)) Try.underlying45 rfl Try.infoBlk4) h0 ?_
      try simp only [List.getElem_toArray, List.getElem_cons_zero, List.getElem_cons_succ, Act.put, List.setIfInBounds_toArray, List.set_cons_zero, List.set_cons_succ]
      refine wpAnyH_take (i := 4) (v := .slice (some ⟨b2, o2, none⟩) n c2) rfl (by kernel_rfl) (by kernel_rfl) (by kernel_rfl) (fun _ _ _ h => h) (Or.inl ⟨by rfl, fun w hSw => by go_simp⟩) h0 ?_
      try simp only [List.getElem_toArray, List.getElem_cons_zero, List.getElem_cons_succ, Act.put, List.setIfInBounds_toArray, List.set_cons_zero, List.set_cons_succ]
      refine wpAnyH_take (i := 5) (v := .int .i64 k) rfl (by kernel_rfl) (by kernel_rfl) (by kernel_rfl) (fun _ _ _ h => h) (Or.inl ⟨by rfl, fun w hSw => by go_simp⟩) h0 ?_
      try simp only [List.getElem_toArray, List.getElem_cons_zero, List.getElem_cons_succ, Act.put, List.setIfInBounds_toArray, List.set_cons_zero, List.set_cons_succ]
      refine wpAnyH_take (i := 6) (v := .pointer (some ⟨b2, o2 + k * 4, none⟩)) rfl (by kernel_rfl) (by kernel_rfl) (by kernel_rfl) (fun _ _ _ h => h) (Or.inl ⟨by rfl, fun w hSw => by have c := hkn; go_simp⟩) h0 ?_
      try simp only [List.getElem_toArray, List.getElem_cons_zero, List.getElem_cons_succ, Act.put, List.setIfInBounds_toArray, List.set_cons_zero, List.set_cons_succ]
      refine wpAnyH_take (i := 7) (v := .agg #[.int .i64 a, .int .i64 p, .int .i64 r, .int .i64 u]) rfl (by kernel_rfl) (by kernel_rfl) (by kernel_rfl) (fun _ _ _ h => h) (yieldsIf_load_mid (by rfl) _ _ rfl b2 (o2 + k * 4) rfl _ _ (fun w h j v hv => Kept.cellOf h (hr2 j v hv) (by simp)) Try.underlying45 rfl Try.infoBlk4) h0 ?_
      try simp only [List.getElem_toArray, List.getElem_cons_zero, List.getElem_cons_succ, Act.put, List.setIfInBounds_toArray, List.set_cons_zero, List.set_cons_succ]
      refine wpAnyH_take (i := 8) (v := .bool false) rfl (by kernel_rfl) (by kernel_rfl) (by kernel_rfl) (fun _ _ _ h => h) (Or.inl ⟨by rfl, fun w hSw => by have c := heq w; go_simp⟩) h0 ?_
      try simp only [List.getElem_toArray, List.getElem_cons_zero, List.getElem_cons_succ, Act.put, List.setIfInBounds_toArray, List.set_cons_zero, List.set_cons_succ]
      refine wpAnyH_done (by kernel_rfl) ?_ _
      have HK2 := hide (HK.out.trans h0 (by simp))
      clear h0 hr1 hr2 heq
      go_wp2
      go_roundw
      case rel => exact ⟨k + 1, by omega, by go_num, HK2⟩
      case measure => simp [intOf]; omega
    · have hkn : ¬ (k : Int) < (n : Int) := by omega
      go_wp2
      go_ret
      exact ⟨rfl, HK.out⟩

set_option maxHeartbeats 800000 in
set_option maxRecDepth 100000 in
theorem rows_none (a1 a2 : Option Addr) (c1 c2 : Nat) (w : World) :
    Calls Try.prog 15 #[.slice a1 0 c1, .slice a2 0 c2] w fun e w' => e = .returned (.bool true) ∧ Kept [] w w' := by
  go_enter Try.func15, Try.ntmps15
  go_wp2
  go_loopw [5] (fun x wr => x = .int .i64 0 ∧ wr = w) (fun x wr => 0)
  case atStart => exact ⟨rfl, rfl⟩
  case round =>
    obtain ⟨rfl, hw⟩ := hrel
    obtain rfl := hw
    go_wp2
    go_ret
    exact ⟨rfl, Kept.refl _ _⟩

theorem rows_yes (a1 a2 : Option Addr) (n c1 c2 : Nat) (A : List Bk) (w : World) (hA : A.length = n) (hm : n ≤ 4611686018427387904) (h1 : Blks w a1 A) (h2 : Blks w a2 A) :
    Calls Try.prog 15 #[.slice a1 n c1, .slice a2 n c2] w fun e w' => e = .returned (.bool true) ∧ Kept [] w w' := by
  by_cases h0 : A = []
  · subst h0
    obtain rfl : n = 0 := by simpa using hA.symm
    exact rows_none a1 a2 c1 c2 w
  · obtain ⟨b1, o1, rfl, _, _⟩ := h1.open h0
    obtain ⟨b2, o2, rfl, _, _⟩ := h2.open h0
    exact rows_some b1 o1 c1 b2 o2 c2 n A w hA hm h1 h2
end

section
open Go.RowKit
set_option linter.unusedVariables false
set_option linter.unusedSimpArgs false

/-- All that the statement holds: byte rows, block rows, what the Book tells of them, left and want. -/
structure Sd where
  m : Nat
  h : Nat → Rw
  lf : Nat → Rw
  en : Nat → Nat
  E : Nat
  R1 : Rw
  m2 : Nat
  h2 : Nat → Rw
  lf2 : Nat → Rw
  en2 : Nat → Nat
  E2 : Nat
  R2 : Rw
  NL : Nat
  le : Nat → Nat
  LR : Rw
  NW : Nat
  wa : Nat → Nat
  WR : Rw
def lvals (N : Nat) (h : Nat → Rw) (le : Nat → Nat) : List Value := (List.range N).map (fun i => (h (le i)).val)
theorem lvals_succ (N : Nat) (h : Nat → Rw) (le : Nat → Nat) : lvals (N + 1) h le = lvals N h le ++ [(h (le N)).val] := by simp [lvals, List.range_succ]
theorem lvals_at (N : Nat) (h : Nat → Rw) (le : Nat → Nat) (i : Nat) (hi : i < N) : (lvals N h le)[i]? = some (h (le i)).val := by simp [lvals, hi]
theorem lvals_congr {N : Nat} {h h' : Nat → Rw} {le le' : Nat → Nat} (hc : ∀ i, i < N → (h (le i)).val = (h' (le' i)).val) : lvals N h le = lvals N h' le' := by
  unfold lvals
  apply List.map_congr_left
  intro i hi
  exact hc i (List.mem_range.1 hi)
/-- Left and want, by their numbers; from lo on they are untouched. -/
structure Ix (lo : Nat) (q : Sd) : Prop where
  lem : ∀ i, i < q.NL → q.le i < q.m
  wam : ∀ i, i < q.NW → q.wa i < q.m
  raw : ∀ i, lo ≤ i → i < q.NL → q.lf (q.le i) = q.h (q.le i) ∧ ∃ ys, (q.h (q.le i)).vs = bys ys
  same : ∀ i, lo ≤ i → i < q.NW → (q.h (q.wa i)).vs = (q.h (q.le i)).vs ∧ (q.h (q.wa i)).n = (q.h (q.le i)).n
  ne : ∀ i, lo ≤ i → i < q.NL → ∀ k, k < q.E → q.en k ≠ q.le i
  ne2 : ∀ i, lo ≤ i → i < q.NW → ∀ k, k < q.E → q.en k ≠ q.wa i
  ll : ∀ i j, i < q.NL → j < q.NL → i ≠ j → q.le i ≠ q.le j
  le : q.NW ≤ q.NL
structure St (w wr : World) (K M lo : Nat) (q : Sd) : Prop where
  bel : Below w.heap.size w wr
  bok : Bok wr w.heap.size K q.R1 q.R2
  a1 : Half 5 74 1 w.heap.size wr q.m q.h q.lf q.en q.E mkvB q.R1
  a2 : Half 45 76 4 w.heap.size wr q.m2 q.h2 q.lf2 q.en2 q.E2 mkvL q.R2
  c1 : ConB q.h q.lf q.en q.E
  c2 : ConL q.h2 q.lf2 q.en2 q.E2
  b1 : ∀ i, i < q.m → (q.lf i).n ≤ M
  b2 : ∀ i, i < q.m2 → (q.lf2 i).n ≤ M
  l : q.LR.At 23 1 w.heap.size wr
  ln : q.LR.n = q.NL
  lv : q.LR.vs = lvals q.NL q.h q.le
  r : q.WR.At 23 1 w.heap.size wr
  rn : q.WR.n = q.NW
  rv : q.WR.vs = lvals q.NW q.h q.wa
  lw : Off q.LR.blk q.WR.blk
  ix : Ix lo q
section
variable {w wr wr' : World} {K M lo : Nat} {q : Sd}
theorem St.kept (T : St w wr K M lo q) (hk : Kept [] wr wr') : St w wr' K M lo q :=
  ⟨T.bel.trans (hk.below T.bel.size (by simp)), T.bok.kept hk (by simp), T.a1.kept hk, T.a2.kept hk, T.c1, T.c2, T.b1, T.b2, T.l.keep (kept_grown (row := none) hk (by simp)) (Off.none _), T.ln, T.lv, T.r.keep (kept_grown (row := none) hk (by simp)) (Off.none _), T.rn, T.rv, T.lw, T.ix⟩
/-- A byte row more. -/
def Sd.addB (q : Sd) (r : Rw) : Sd := { q with m := q.m + 1, h := upr q.h q.m r, lf := upr q.lf q.m r }
theorem addB_h {q : Sd} {r : Rw} {i : Nat} (hi : i < q.m) : (q.addB r).h i = q.h i := upr_other _ _ _ _ (by omega)
theorem addB_lf {q : Sd} {r : Rw} {i : Nat} (hi : i < q.m) : (q.addB r).lf i = q.lf i := upr_other _ _ _ _ (by omega)
theorem St.call (T : St w wr K M lo q) {r : Rw} (hk : Kept [] wr wr') (hr : r.At 5 1 wr.heap.size wr') (hn : r.n ≤ M) : St w wr' K M lo (q.addB r) := by
  have T1 := T.kept hk
  have hen : ∀ k, k < q.E → (q.addB r).h (q.en k) = q.h (q.en k) := fun k hk => addB_h (T.a1.lt k hk)
  have hen2 : ∀ k, k < q.E → (q.addB r).lf (q.en k) = q.lf (q.en k) := fun k hk => addB_lf (T.a1.lt k hk)
  have hle : ∀ i, i < q.NL → (q.addB r).h (q.le i) = q.h (q.le i) := fun i hi => addB_h (T.ix.lem i hi)
  have hle2 : ∀ i, i < q.NL → (q.addB r).lf (q.le i) = q.lf (q.le i) := fun i hi => addB_lf (T.ix.lem i hi)
  have hwa : ∀ i, i < q.NW → (q.addB r).h (q.wa i) = q.h (q.wa i) := fun i hi => addB_h (T.ix.wam i hi)
  refine ⟨T1.bel, T1.bok, T.a1.call hk hr T.bel.size, T1.a2, ⟨fun k hk i hi => ?_, fun k hk i hi => ?_⟩, T.c2, fun i hi => ?_, T.b2, T1.l, T.ln, ?_, T1.r, T.rn, ?_, T.lw, ⟨fun i hi => ?_, fun i hi => ?_, fun i h1 h2 => ?_, fun i h1 h2 => ?_, T.ix.ne, T.ix.ne2, T.ix.ll, T.ix.le⟩⟩
  · show ((q.addB r).h (q.en k)).vs[i]? = _
    have hi' : i < ((q.addB r).h (q.en k)).n := hi
    rw [hen k hk] at hi' ⊢
    exact T.c1.l k hk i hi'
  · have hi' : i < ((q.addB r).lf (q.en k)).n := hi
    show ((q.addB r).lf (q.en k)).vs[i]? = some (.int .u8 ((if i < ((q.addB r).h (q.en k)).n then mkB k else mkB k + 1 : Nat) : Nat))
    rw [hen2 k hk] at hi' ⊢
    rw [hen k hk]
    exact T.c1.g k hk i hi'
  · by_cases e : i = q.m
    · subst e
      show (upr q.lf q.m r q.m).n ≤ M
      rw [upr_same]
      exact hn
    · have : i < q.m := by have : i < q.m + 1 := hi; omega
      rw [addB_lf this]
      exact T.b1 i this
  · show q.LR.vs = lvals q.NL (q.addB r).h q.le
    rw [T.lv]
    exact lvals_congr (fun i hi => by rw [hle i hi])
  · show q.WR.vs = lvals q.NW (q.addB r).h q.wa
    rw [T.rv]
    exact lvals_congr (fun i hi => by rw [hwa i hi])
  · have := T.ix.lem i hi
    show q.le i < q.m + 1
    omega
  · have := T.ix.wam i hi
    show q.wa i < q.m + 1
    omega
  · obtain ⟨e1, ys, e2⟩ := T.ix.raw i h1 h2
    refine ⟨?_, ys, ?_⟩
    · show (q.addB r).lf (q.le i) = (q.addB r).h (q.le i)
      rw [hle i h2, hle2 i h2]
      exact e1
    · show ((q.addB r).h (q.le i)).vs = _
      rw [hle i h2]
      exact e2
  · have hl : i < q.NL := Nat.lt_of_lt_of_le h2 T.ix.le
    show ((q.addB r).h (q.wa i)).vs = ((q.addB r).h (q.le i)).vs ∧ ((q.addB r).h (q.wa i)).n = ((q.addB r).h (q.le i)).n
    rw [hwa i h2, hle i hl]
    exact T.ix.same i h1 h2
/-- A row of blocks more. -/
def Sd.addK (q : Sd) (r : Rw) : Sd := { q with m2 := q.m2 + 1, h2 := upr q.h2 q.m2 r, lf2 := upr q.lf2 q.m2 r }
theorem St.callK (T : St w wr K M lo q) {r : Rw} (hk : Kept [] wr wr') (hr : r.At 45 4 wr.heap.size wr') (hn : r.n ≤ M) : St w wr' K M lo (q.addK r) := by
  have T1 := T.kept hk
  have hen : ∀ k, k < q.E2 → upr q.h2 q.m2 r (q.en2 k) = q.h2 (q.en2 k) := fun k hk => upr_other _ _ _ _ (by have := T.a2.lt k hk; omega)
  have hen2 : ∀ k, k < q.E2 → upr q.lf2 q.m2 r (q.en2 k) = q.lf2 (q.en2 k) := fun k hk => upr_other _ _ _ _ (by have := T.a2.lt k hk; omega)
  refine ⟨T1.bel, T1.bok, T1.a1, T.a2.call hk hr T.bel.size, T.c1, ⟨fun k hk i hi => ?_, fun k hk i hi => ?_⟩, T.b1, fun i hi => ?_, T1.l, T.ln, T.lv, T1.r, T.rn, T.rv, T.lw, ⟨T.ix.lem, T.ix.wam, T.ix.raw, T.ix.same, T.ix.ne, T.ix.ne2, T.ix.ll, T.ix.le⟩⟩
  · have hi' : i < (upr q.h2 q.m2 r (q.en2 k)).n := hi
    show ∀ j v, _ → (upr q.h2 q.m2 r (q.en2 k)).vs[i * 4 + j]? = some v
    rw [hen k hk] at hi' ⊢
    exact T.c2.l k hk i hi'
  · have hi' : i < (upr q.lf2 q.m2 r (q.en2 k)).n := hi
    show ∀ j v, (yL (if i < (upr q.h2 q.m2 r (q.en2 k)).n then mkL k else mkL k + 1))[j]? = some v → (upr q.lf2 q.m2 r (q.en2 k)).vs[i * 4 + j]? = some v
    rw [hen2 k hk] at hi' ⊢
    rw [hen k hk]
    exact T.c2.g k hk i hi'
  · by_cases e : i = q.m2
    · subst e
      show (upr q.lf2 q.m2 r q.m2).n ≤ M
      rw [upr_same]
      exact hn
    · have hi2 : i < q.m2 + 1 := hi
      show (upr q.lf2 q.m2 r i).n ≤ M
      rw [upr_other _ _ _ _ e]
      exact T.b2 i (by omega)
end
end

section
open Go.RowKit
set_option linter.unusedVariables false
set_option linter.unusedSimpArgs false

section
variable {w wr wr' : World} {K M lo : Nat} {q : Sd}
/-- One more is laid aside. -/
def Sd.pushL (q : Sd) (j : Nat) (R : Rw) : Sd := { q with NL := q.NL + 1, le := updN q.le q.NL j, LR := R }
theorem St.pushL (T : St w wr K M lo q) {j : Nat} {R : Rw} (hj : j < q.m) (h1 : q.lf j = q.h j) (h2 : ∃ ys, (q.h j).vs = bys ys) (h3 : ∀ k, k < q.E → q.en k ≠ j) (h4 : ∀ i, i < q.NL → q.le i ≠ j)
    (hR : R.At 23 1 w.heap.size wr') (hn : R.n = q.NL + 1) (hv : R.vs = q.LR.vs ++ [(q.h j).val]) (hg : wr.grownBy wr' q.LR.blk) (hb : R.blk = q.LR.blk ∨ ∀ k, R.blk = some k → wr.heap.size ≤ k) : St w wr' K M lo (q.pushL j R) := by
  have c : Chg [23] w.heap.size wr wr' := Chg.on T.l hg (by simp) T.bel.size
  have hle : ∀ i, i < q.NL → (q.pushL j R).le i = q.le i := fun i hi => updN_other _ _ _ _ (by omega)
  have hlN : (q.pushL j R).le q.NL = j := updN_same _ _ _
  refine ⟨T.bel.trans c.bel, T.bok.grown T.l (by decide) hg, T.a1.chg c (by decide) (by decide), T.a2.chg c (by decide) (by decide), T.c1, T.c2, T.b1, T.b2, hR, hn, ?_, T.r.keep hg T.lw.symm, T.rn, T.rv, ?_, ⟨fun i hi => ?_, T.ix.wam, fun i a b => ?_, fun i a b => ?_, fun i a b => ?_, T.ix.ne2, fun i i' a b hne => ?_, Nat.le_succ_of_le T.ix.le⟩⟩
  · show R.vs = lvals (q.NL + 1) q.h (q.pushL j R).le
    rw [lvals_succ, hv, T.lv, hlN]
    congr 1
    exact lvals_congr (fun i hi => by rw [hle i hi])
  · show Off R.blk q.WR.blk
    rcases hb with hb | hb
    · rw [hb]; exact T.lw
    · intro k k1 k2
      have := T.r.blk_lt k2
      have := hb k k1
      omega
  · by_cases e : i = q.NL
    · subst e; rw [hlN]; exact hj
    · have hi2 : i < q.NL + 1 := hi
      rw [hle i (by omega)]; exact T.ix.lem i (by omega)
  · by_cases e : i = q.NL
    · subst e; rw [hlN]; exact ⟨h1, h2⟩
    · have hi2 : i < q.NL + 1 := b
      rw [hle i (by omega)]; exact T.ix.raw i a (by omega)
  · have hl : i < q.NL := Nat.lt_of_lt_of_le b T.ix.le
    rw [hle i hl]; exact T.ix.same i a b
  · by_cases e : i = q.NL
    · subst e; rw [hlN]; exact h3
    · have hi2 : i < q.NL + 1 := b
      rw [hle i (by omega)]; exact T.ix.ne i a (by omega)
  · have a2 : i < q.NL + 1 := a
    have b2 : i' < q.NL + 1 := b
    by_cases e : i = q.NL
    · subst e
      rw [hlN, hle i' (by omega)]
      exact (h4 i' (by omega)).symm
    · rw [hle i (by omega)]
      by_cases e' : i' = q.NL
      · subst e'; rw [hlN]; exact h4 i (by omega)
      · rw [hle i' (by omega)]; exact T.ix.ll i i' (by omega) (by omega) hne
/-- And what is wanted of it. -/
def Sd.pushW (q : Sd) (j : Nat) (R : Rw) : Sd := { q with NW := q.NW + 1, wa := updN q.wa q.NW j, WR := R }
theorem St.pushW (T : St w wr K M lo q) {j : Nat} {R : Rw} (hj : j < q.m) (h1 : (q.h j).vs = (q.h (q.le q.NW)).vs ∧ (q.h j).n = (q.h (q.le q.NW)).n) (h3 : ∀ k, k < q.E → q.en k ≠ j) (h5 : q.NW < q.NL)
    (hR : R.At 23 1 w.heap.size wr') (hn : R.n = q.NW + 1) (hv : R.vs = q.WR.vs ++ [(q.h j).val]) (hg : wr.grownBy wr' q.WR.blk) (hb : R.blk = q.WR.blk ∨ ∀ k, R.blk = some k → wr.heap.size ≤ k) : St w wr' K M lo (q.pushW j R) := by
  have c : Chg [23] w.heap.size wr wr' := Chg.on T.r hg (by simp) T.bel.size
  have hwa : ∀ i, i < q.NW → (q.pushW j R).wa i = q.wa i := fun i hi => updN_other _ _ _ _ (by omega)
  have hwN : (q.pushW j R).wa q.NW = j := updN_same _ _ _
  refine ⟨T.bel.trans c.bel, T.bok.grown T.r (by decide) hg, T.a1.chg c (by decide) (by decide), T.a2.chg c (by decide) (by decide), T.c1, T.c2, T.b1, T.b2, T.l.keep hg T.lw, T.ln, T.lv, hR, hn, ?_, ?_, ⟨T.ix.lem, fun i hi => ?_, T.ix.raw, fun i a b => ?_, T.ix.ne, fun i a b => ?_, T.ix.ll, h5⟩⟩
  · show R.vs = lvals (q.NW + 1) q.h (q.pushW j R).wa
    rw [lvals_succ, hv, T.rv, hwN]
    congr 1
    exact lvals_congr (fun i hi => by rw [hwa i hi])
  · show Off q.LR.blk R.blk
    rcases hb with hb | hb
    · rw [hb]; exact T.lw
    · intro k k1 k2
      have := T.l.blk_lt k1
      have := hb k k2
      omega
  · by_cases e : i = q.NW
    · subst e; rw [hwN]; exact hj
    · have hi2 : i < q.NW + 1 := hi
      rw [hwa i (by omega)]; exact T.ix.wam i (by omega)
  · by_cases e : i = q.NW
    · subst e; rw [hwN]; exact h1
    · have hi2 : i < q.NW + 1 := b
      rw [hwa i (by omega)]; exact T.ix.same i a (by omega)
  · by_cases e : i = q.NW
    · subst e; rw [hwN]; exact h3
    · have hi2 : i < q.NW + 1 := b
      rw [hwa i (by omega)]; exact T.ix.ne2 i a (by omega)
/-- One is taken. -/
def Sd.take (q : Sd) (i : Nat) (R : Rw) : Sd := { q with h := upr q.h i (markB (q.h i) (mkB q.E)), lf := upr q.lf i (markB (q.h i) (mkB q.E)), en := updN q.en q.E i, E := q.E + 1, R1 := R }
theorem St.take (T : St w wr K M lo q) {i : Nat} {R : Rw} (hi : i < q.m) (hl : q.lf i = q.h i) (hne : ∀ k, k < q.E → q.en k ≠ i) {lo2 : Nat} (hlo : lo ≤ lo2) (h3 : ∀ j, lo2 ≤ j → j < q.NL → q.le j ≠ i) (h4 : ∀ j, lo2 ≤ j → j < q.NW → q.wa j ≠ i)
    (hb : Bok wr' w.heap.size K R q.R2) (hh : Half 5 74 1 w.heap.size wr' q.m (upr q.h i (markB (q.h i) (mkB q.E))) (upr q.lf i (markB (q.h i) (mkB q.E))) (updN q.en q.E i) (q.E + 1) mkvB R) (c : Chg [5, 74, 60] w.heap.size wr wr') : St w wr' K M lo2 (q.take i R) := by
  have hv : ∀ j, ((q.take i R).h j).val = (q.h j).val := fun j => by
    show (upr q.h i _ j).val = _
    by_cases e : j = i
    · subst e; rw [upr_same]; rfl
    · rw [upr_other _ _ _ _ e]
  have ho : ∀ j, j ≠ i → (q.take i R).h j = q.h j := fun j hj => upr_other _ _ _ _ hj
  have ho2 : ∀ j, j ≠ i → (q.take i R).lf j = q.lf j := fun j hj => upr_other _ _ _ _ hj
  refine ⟨T.bel.trans c.bel, hb, hh, T.a2.chg c (by decide) (by decide), ⟨fun k hk x hx => ?_, fun k hk x hx => ?_⟩, T.c2, fun j hj => ?_, T.b2, c.rows _ _ _ (by decide) T.l, T.ln, ?_, c.rows _ _ _ (by decide) T.r, T.rn, ?_, T.lw, ⟨T.ix.lem, T.ix.wam, fun j a b => ?_, fun j a b => ?_, fun j a b k hk => ?_, fun j a b k hk => ?_, T.ix.ll, T.ix.le⟩⟩
  · have hx' : x < ((q.take i R).h (updN q.en q.E i k)).n := hx
    show ((q.take i R).h (updN q.en q.E i k)).vs[x]? = _
    by_cases e : k = q.E
    · subst e
      rw [updN_same] at hx' ⊢
      have e2 : (q.take i R).h i = markB (q.h i) (mkB q.E) := upr_same _ _ _
      rw [e2] at hx' ⊢
      have hx2 : x < (q.h i).n := hx'
      show (List.replicate (q.h i).n _)[x]? = _
      rw [List.getElem?_replicate, if_pos hx2]
    · have hk2 : k < q.E + 1 := hk
      rw [updN_other _ _ _ _ e, ho _ (hne k (by omega))] at hx' ⊢
      exact T.c1.l k (by omega) x hx'
  · have hx' : x < ((q.take i R).lf (updN q.en q.E i k)).n := hx
    show ((q.take i R).lf (updN q.en q.E i k)).vs[x]? = some (.int .u8 ((if x < ((q.take i R).h (updN q.en q.E i k)).n then mkB k else mkB k + 1 : Nat) : Nat))
    by_cases e : k = q.E
    · subst e
      rw [updN_same] at hx' ⊢
      have e2 : (q.take i R).lf i = markB (q.h i) (mkB q.E) := upr_same _ _ _
      have e3 : (q.take i R).h i = markB (q.h i) (mkB q.E) := upr_same _ _ _
      rw [e2] at hx' ⊢
      rw [e3]
      have hx2 : x < (q.h i).n := hx'
      show (List.replicate (q.h i).n _)[x]? = _
      rw [List.getElem?_replicate, if_pos hx2, if_pos hx']
    · have hk2 : k < q.E + 1 := hk
      rw [updN_other _ _ _ _ e, ho2 _ (hne k (by omega))] at hx'
      rw [updN_other _ _ _ _ e, ho2 _ (hne k (by omega)), ho _ (hne k (by omega))]
      exact T.c1.g k (by omega) x hx'
  · by_cases e : j = i
    · subst e
      show (upr q.lf j _ j).n ≤ M
      rw [upr_same]
      have := T.b1 j hj
      rw [hl] at this
      exact this
    · rw [ho2 j e]; exact T.b1 j hj
  · show q.LR.vs = lvals q.NL (q.take i R).h q.le
    rw [T.lv]
    exact lvals_congr (fun j _ => (hv _).symm)
  · show q.WR.vs = lvals q.NW (q.take i R).h q.wa
    rw [T.rv]
    exact lvals_congr (fun j _ => (hv _).symm)
  · have := h3 j a b
    show (q.take i R).lf (q.le j) = (q.take i R).h (q.le j) ∧ ∃ ys, ((q.take i R).h (q.le j)).vs = bys ys
    rw [ho _ this, ho2 _ this]
    exact T.ix.raw j (by omega) b
  · have b2 : j < q.NL := Nat.lt_of_lt_of_le b T.ix.le
    show ((q.take i R).h (q.wa j)).vs = ((q.take i R).h (q.le j)).vs ∧ ((q.take i R).h (q.wa j)).n = ((q.take i R).h (q.le j)).n
    rw [ho _ (h3 j a b2), ho _ (h4 j a b)]
    exact T.ix.same j (by omega) b
  · show updN q.en q.E i k ≠ q.le j
    by_cases e : k = q.E
    · subst e; rw [updN_same]; exact (h3 j a b).symm
    · have hk2 : k < q.E + 1 := hk
      rw [updN_other _ _ _ _ e]; exact T.ix.ne j (by omega) b k (by omega)
  · show updN q.en q.E i k ≠ q.wa j
    by_cases e : k = q.E
    · subst e; rw [updN_same]; exact (h4 j a b).symm
    · have hk2 : k < q.E + 1 := hk
      rw [updN_other _ _ _ _ e]; exact T.ix.ne2 j (by omega) b k (by omega)
/-- One is listed. -/
def Sd.list (q : Sd) (i : Nat) (R : Rw) : Sd := { q with h2 := upr q.h2 i (markL (q.h2 i) (mkL q.E2)), lf2 := upr q.lf2 i (markL (q.h2 i) (mkL q.E2)), en2 := updN q.en2 q.E2 i, E2 := q.E2 + 1, R2 := R }
theorem flat_at (n x j : Nat) (y : Nat) (v : Value) (hx : x < n) (hv : (yL y)[j]? = some v) : ((List.replicate n (yL y)).flatten)[x * 4 + j]? = some v := by
  induction n generalizing x with
  | zero => omega
  | succ n ih =>
    have hl : (yL y).length = 4 := rfl
    have hj := (List.getElem?_eq_some_iff.1 hv).1
    rw [List.replicate_succ, List.flatten_cons]
    cases x with
    | zero =>
      rw [Nat.zero_mul, Nat.zero_add, List.getElem?_append_left hj]
      exact hv
    | succ x =>
      rw [List.getElem?_append_right (by omega), hl, show (x + 1) * 4 + j - 4 = x * 4 + j by omega]
      exact ih x (by omega)
theorem St.list (T : St w wr K M lo q) {i : Nat} {R : Rw} (hi : i < q.m2) (hl : q.lf2 i = q.h2 i) (hne : ∀ k, k < q.E2 → q.en2 k ≠ i)
    (hb : Bok wr' w.heap.size K q.R1 R) (hh : Half 45 76 4 w.heap.size wr' q.m2 (upr q.h2 i (markL (q.h2 i) (mkL q.E2))) (upr q.lf2 i (markL (q.h2 i) (mkL q.E2))) (updN q.en2 q.E2 i) (q.E2 + 1) mkvL R) (c : Chg [45, 76, 60] w.heap.size wr wr') : St w wr' K M lo (q.list i R) := by
  have ho : ∀ j, j ≠ i → (q.list i R).h2 j = q.h2 j := fun j hj => upr_other _ _ _ _ hj
  have ho2 : ∀ j, j ≠ i → (q.list i R).lf2 j = q.lf2 j := fun j hj => upr_other _ _ _ _ hj
  have e2 : (q.list i R).lf2 i = markL (q.h2 i) (mkL q.E2) := upr_same _ _ _
  have e3 : (q.list i R).h2 i = markL (q.h2 i) (mkL q.E2) := upr_same _ _ _
  refine ⟨T.bel.trans c.bel, hb, T.a1.chg c (by decide) (by decide), hh, T.c1, ⟨fun k hk x hx => ?_, fun k hk x hx => ?_⟩, T.b1, fun j hj => ?_, c.rows _ _ _ (by decide) T.l, T.ln, T.lv, c.rows _ _ _ (by decide) T.r, T.rn, T.rv, T.lw, ⟨T.ix.lem, T.ix.wam, T.ix.raw, T.ix.same, T.ix.ne, T.ix.ne2, T.ix.ll, T.ix.le⟩⟩
  · have hx' : x < ((q.list i R).h2 (updN q.en2 q.E2 i k)).n := hx
    show ∀ j v, _ → ((q.list i R).h2 (updN q.en2 q.E2 i k)).vs[x * 4 + j]? = some v
    by_cases e : k = q.E2
    · subst e
      rw [updN_same] at hx' ⊢
      rw [e3] at hx' ⊢
      exact fun j v hv => flat_at _ _ _ _ _ hx' hv
    · have hk2 : k < q.E2 + 1 := hk
      rw [updN_other _ _ _ _ e, ho _ (hne k (by omega))] at hx' ⊢
      exact T.c2.l k (by omega) x hx'
  · have hx' : x < ((q.list i R).lf2 (updN q.en2 q.E2 i k)).n := hx
    show ∀ j v, (yL (if x < ((q.list i R).h2 (updN q.en2 q.E2 i k)).n then mkL k else mkL k + 1))[j]? = some v → ((q.list i R).lf2 (updN q.en2 q.E2 i k)).vs[x * 4 + j]? = some v
    by_cases e : k = q.E2
    · subst e
      rw [updN_same] at hx' ⊢
      rw [e2] at hx' ⊢
      rw [e3, if_pos hx']
      exact fun j v hv => flat_at _ _ _ _ _ hx' hv
    · have hk2 : k < q.E2 + 1 := hk
      rw [updN_other _ _ _ _ e, ho2 _ (hne k (by omega))] at hx'
      rw [updN_other _ _ _ _ e, ho2 _ (hne k (by omega)), ho _ (hne k (by omega))]
      exact T.c2.g k (by omega) x hx'
  · by_cases e : j = i
    · subst e
      rw [e2]
      have := T.b2 j hj
      rw [hl] at this
      exact this
    · rw [ho2 j e]; exact T.b2 j hj
/-- All grow. -/
theorem St.grow (T : St w wr K M lo q) (g : GrowOk wr wr' w.heap.size K M q.m q.h q.lf q.en q.E q.m2 q.h2 q.lf2 q.en2 q.E2) : ∃ q', St w wr' K (M + 64) lo q' ∧ q'.m = q.m ∧ q'.NL = q.NL ∧ q'.NW = q.NW ∧ q'.E = q.E ∧ q'.E2 = q.E2 ∧ q'.LR = q.LR ∧ q'.WR = q.WR ∧ q'.h = q.h ∧ q'.le = q.le ∧ q'.wa = q.wa ∧ q'.en = q.en := by
  obtain ⟨lf', R1', lf2', R2', hb, a1, a2, c1, c2, b1, b2, f1, f2, c⟩ := g
  refine ⟨{ q with lf := lf', R1 := R1', lf2 := lf2', R2 := R2' }, ⟨T.bel.trans c.bel, hb, a1, a2, c1, c2, b1, b2, c.rows _ _ _ (by decide) T.l, T.ln, T.lv, c.rows _ _ _ (by decide) T.r, T.rn, T.rv, T.lw, ⟨T.ix.lem, T.ix.wam, fun i x y => ?_, T.ix.same, T.ix.ne, T.ix.ne2, T.ix.ll, T.ix.le⟩⟩, rfl, rfl, rfl, rfl, rfl, rfl, rfl, rfl, rfl, rfl, rfl⟩
  obtain ⟨e1, e2⟩ := T.ix.raw i x y
  exact ⟨by show lf' (q.le i) = q.h (q.le i); rw [f1 _ (T.ix.ne i x y)]; exact e1, e2⟩
end
end

section
open Go.RowKit
set_option linter.unusedVariables false
set_option linter.unusedSimpArgs false

theorem Try.infoLB11 : (Try.prog.info? 23).map (fun i => (i.zero, i.size, i.bytes)) = some (some (.slice none 0 0), 1, 24) := by kernel_rfl
theorem run_makeRoom (w : World) (c : Nat) (h : c ≤ 1000000) : (Instr.makeSlice 23 (.int .i64 0) (.int .i64 c)).run Try.prog w = .ok (.slice (some ⟨w.heap.size, 0, none⟩) 0 c) (w.alloc (.cells (bys (List.replicate c 0)).toArray 5)) := by
  obtain ⟨i0, hi, hz0, hz1, hz2⟩ := info_parts Try.infoByte9
  have hmk := run_make (P := Try.prog) w 23 5 i0 (.int .u8 0) Try.underlying23 hi hz0 .i64 .i64 0 c (by omega) (by omega) (by rw [hz2]; omega) (by omega)
  rw [hz1] at hmk
  simp only [Int.toNat_natCast, Nat.mul_one] at hmk
  have e : madeCells (Value.int .u8 0).cells c = (bys (List.replicate c 0)).toArray := made_bys c
  rw [e] at hmk
  exact hmk
theorem own_room (w : World) (c : Nat) (h : c ≤ 1000000) : OwnB (w.alloc (.cells (bys (List.replicate c 0)).toArray 5)) w.heap.size (.slice (some ⟨w.heap.size, 0, none⟩) 0 c) [] := by
  refine ⟨rfl, Or.inr ⟨w.heap.size, c, (bys (List.replicate c 0)).toArray, rfl, Nat.le_refl _, heap_new _ _, Nat.zero_le _, by unfold maxLen; omega, by simp [bys_length], by simp [bys]⟩⟩
/-- append(make([]byte, 0, c), xs...). -/
theorem run_roomApp (w : World) (c : Nat) (h : c ≤ 1000000) (ys : List UInt8) (ao : Option Addr) (n cap : Nat) (hn : ys.length = n) (hs : Sl w ao ys) (h0 : ao = none → ys = [] ∧ cap = 0) (hl : n ≤ 1000000) :
    ∃ v' w', (Builtin.append_ #[23, 23] 23 #[.slice (some ⟨w.heap.size, 0, none⟩) 0 c, .slice ao n cap]).run Try.prog (w.alloc (.cells (bys (List.replicate c 0)).toArray 5)) = .ok v' w' ∧ OwnB w' w.heap.size v' ys ∧ Kept [] w w' := by
  have hk := (Kept.refl [] w).alloc (.cells (bys (List.replicate c 0)).toArray 5)
  obtain ⟨v', w', h1, h2, h3⟩ := run_appSl _ w.heap.size _ [] ys (own_room w c h) ao n cap hn (hs.kept hk (by simp)) h0 (by simp; omega) hk.size
  rw [List.nil_append] at h2
  exact ⟨v', w', h1, h2, hk.trans h3 (fun g hg hlt => by simp [Value.ownBlock] at hg; omega)⟩
/-- A struct of a statement's own, as a row of one. -/
theorem ask_row {w : World} {B gX : Nat} {da : Option Addr} {dn dc : Nat} {s : Int} (h : w.heap[gX]? = some (.cells #[.slice da dn dc, .int .i64 s] 25 (0, 0))) (hb : B ≤ gX) : (Rw.mk (some ⟨gX, 0, none⟩) 1 1 [.slice da dn dc, .int .i64 s]).At 25 2 B w :=
  ⟨rfl, Or.inr ⟨gX, 1, #[.slice da dn dc, .int .i64 s], rfl, hb, h, Nat.le_refl _, by unfold maxLen; omega, rfl, rfl⟩⟩
theorem ask_cells {w : World} {B gX : Nat} {da : Option Addr} {dn dc : Nat} {s : Int} (h : (Rw.mk (some ⟨gX, 0, none⟩) 1 1 [.slice da dn dc, .int .i64 s]).At 25 2 B w) : w.cell? ⟨gX, 0, none⟩ = some (.slice da dn dc) ∧ w.cell? ⟨gX, 1, none⟩ = some (.int .i64 s) := by
  have h2 : w.ownsRow B 25 2 (.slice (some ⟨gX, 0, none⟩) 1 1) 1 [.slice da dn dc, .int .i64 s] := h
  exact ⟨h2.cellAt 0 (by omega), h2.cellAt 1 (by omega)⟩
/-- A row of bytes as it is read. -/
theorem rw_sl {B : Nat} {w : World} {r : Rw} {ys : List UInt8} (hr : r.At 5 1 B w) (hv : r.vs = bys ys) : Sl w r.o ys ∧ ys.length = r.n ∧ r.n ≤ r.c ∧ (r.o = none → ys = [] ∧ r.c = 0) := by
  have hl : ys.length = r.n := by have := hr.1; rw [hv, bys_length, Nat.mul_one] at this; exact this
  have h2 : OwnB w B (.slice r.o r.n r.c) ys := by unfold OwnB; rw [hl, ← hv]; exact hr
  obtain ⟨ao, cap, e, h3, h4, _, _, h7⟩ := h2.shape
  rw [hl] at e h3
  injection e with e1 _ e3
  subst e1 e3
  exact ⟨h4, hl, h3, h7⟩
theorem rw_blks {B : Nat} {w : World} {r : Rw} {L : List Bk} (hr : r.At 45 4 B w) (hv : r.vs = brows L) : Blks w r.o L ∧ L.length = r.n := by
  have hl : L.length = r.n := by have := hr.1; rw [hv, brows_len] at this; omega
  have h2 : OwnK w B (.slice r.o r.n r.c) L := by unfold OwnK; rw [hl, ← hv]; exact hr
  obtain ⟨ao, cap, e, h3, h4, _⟩ := h2.shape
  injection e with e1 _ e3
  subst e1
  exact ⟨h4, hl⟩
theorem own_rw {w : World} {base : Nat} {v : Value} {ys : List UInt8} (h : OwnB w base v ys) : ∃ r : Rw, r.val = v ∧ r.At 5 1 base w ∧ r.vs = bys ys ∧ r.n = ys.length := by
  obtain ⟨ao, cap, e, _⟩ := h.shape
  subst e
  exact ⟨⟨ao, cap, ys.length, bys ys⟩, rfl, h, rfl, rfl⟩
section
variable {w wr wr' : World} {K M lo : Nat} {q : Sd}
/-- left = append(left, row). -/
theorem St.runL (T : St w wr K M lo q) {j : Nat} (hj : j < q.m) (h1 : q.lf j = q.h j) (h2 : ∃ ys, (q.h j).vs = bys ys) (h3 : ∀ k, k < q.E → q.en k ≠ j) (h4 : ∀ i, i < q.NL → q.le i ≠ j) (hN : q.NL ≤ 100000000) :
    ∃ R w', (Builtin.append_ #[61, 61] 61 #[q.LR.val, .slice (some ⟨wr.heap.size, 0, none⟩) 1 1]).run Try.prog (wr.alloc (.cells #[(q.h j).val] 23)) = .ok R.val w' ∧ St w w' K M lo (q.pushL j R) ∧ Chg [23] w.heap.size wr w' := by
  have hk := (Kept.refl [] wr).alloc (.cells #[(q.h j).val] 23)
  have T1 := T.kept hk
  have hyn := heap_new wr (.cells #[(q.h j).val] 23)
  obtain ⟨g2, c2, w2, hrun, n1, n2, n3, n4⟩ := run_append_both (P := Try.prog) 61 61 _ 24 Try.underlying61 Try.infoLB11 rfl (by omega) q.LR 1 [(q.h j).val] wr.heap.size 1 T1.l rfl (by omega) (fun x u hx => by rw [cell_of_row _ _ _ _ _ _ hyn, List.getElem?_toArray]; exact hx) (by simp [Rw.val, Value.oneCell']) (by rw [T.ln]; omega) (by rw [T.ln]; omega) T1.bel.size
  refine ⟨⟨some ⟨g2, 0, none⟩, c2, q.LR.n + 1, q.LR.vs ++ [(q.h j).val]⟩, w2, hrun, T1.pushL hj h1 h2 h3 h4 n1 (by rw [← T.ln]) rfl n3 ?_, (Chg.kept hk T.bel.size).trans (Chg.on T1.l n3 (by simp) T1.bel.size)⟩
  have hb : (Rw.mk (some ⟨g2, 0, none⟩) c2 (q.LR.n + 1) (q.LR.vs ++ [(q.h j).val])).blk = some g2 := rfl
  rw [hb]
  rcases n4 with n4 | n4
  · exact .inl n4
  · refine .inr (fun k hk => ?_)
    cases hk
    omega
/-- want = append(want, row). -/
theorem St.runW (T : St w wr K M lo q) {j : Nat} (hj : j < q.m) (h1 : (q.h j).vs = (q.h (q.le q.NW)).vs ∧ (q.h j).n = (q.h (q.le q.NW)).n) (h3 : ∀ k, k < q.E → q.en k ≠ j) (h5 : q.NW < q.NL) (hN : q.NL ≤ 100000000) :
    ∃ R w', (Builtin.append_ #[61, 61] 61 #[q.WR.val, .slice (some ⟨wr.heap.size, 0, none⟩) 1 1]).run Try.prog (wr.alloc (.cells #[(q.h j).val] 23)) = .ok R.val w' ∧ St w w' K M lo (q.pushW j R) ∧ Chg [23] w.heap.size wr w' := by
  have hk := (Kept.refl [] wr).alloc (.cells #[(q.h j).val] 23)
  have T1 := T.kept hk
  have hyn := heap_new wr (.cells #[(q.h j).val] 23)
  obtain ⟨g2, c2, w2, hrun, n1, n2, n3, n4⟩ := run_append_both (P := Try.prog) 61 61 _ 24 Try.underlying61 Try.infoLB11 rfl (by omega) q.WR 1 [(q.h j).val] wr.heap.size 1 T1.r rfl (by omega) (fun x u hx => by rw [cell_of_row _ _ _ _ _ _ hyn, List.getElem?_toArray]; exact hx) (by simp [Rw.val, Value.oneCell']) (by rw [T.rn]; omega) (by rw [T.rn]; omega) T1.bel.size
  refine ⟨⟨some ⟨g2, 0, none⟩, c2, q.WR.n + 1, q.WR.vs ++ [(q.h j).val]⟩, w2, hrun, T1.pushW hj h1 h3 h5 n1 (by rw [← T.rn]) rfl n3 ?_, (Chg.kept hk T.bel.size).trans (Chg.on T1.r n3 (by simp) T1.bel.size)⟩
  have hb : (Rw.mk (some ⟨g2, 0, none⟩) c2 (q.WR.n + 1) (q.WR.vs ++ [(q.h j).val])).blk = some g2 := rfl
  rw [hb]
  rcases n4 with n4 | n4
  · exact .inl n4
  · refine .inr (fun k hk => ?_)
    cases hk
    omega
/-- What Pack answers: a row of bytes and one of blocks. -/
theorem St.call2 (T : St w wr K M lo q) {r s : Rw} (hk : Kept [] wr wr') (hr : r.At 5 1 wr.heap.size wr') (hs : s.At 45 4 wr.heap.size wr') (hn : r.n ≤ M) (hm : s.n ≤ M) : St w wr' K M lo ((q.addB r).addK s) := by
  have T1 := T.call hk hr hn
  have hh := T.a2.call hk hs T.bel.size
  have hen : ∀ k, k < q.E2 → upr q.h2 q.m2 s (q.en2 k) = q.h2 (q.en2 k) := fun k hk => upr_other _ _ _ _ (by have := T.a2.lt k hk; omega)
  have hen2 : ∀ k, k < q.E2 → upr q.lf2 q.m2 s (q.en2 k) = q.lf2 (q.en2 k) := fun k hk => upr_other _ _ _ _ (by have := T.a2.lt k hk; omega)
  refine ⟨T1.bel, T1.bok, T1.a1, hh, T1.c1, ⟨fun k hk i hi => ?_, fun k hk i hi => ?_⟩, T1.b1, fun i hi => ?_, T1.l, T1.ln, T1.lv, T1.r, T1.rn, T1.rv, T1.lw, ⟨T1.ix.lem, T1.ix.wam, T1.ix.raw, T1.ix.same, T1.ix.ne, T1.ix.ne2, T1.ix.ll, T1.ix.le⟩⟩
  · have hi' : i < (upr q.h2 q.m2 s (q.en2 k)).n := hi
    show ∀ j v, _ → (upr q.h2 q.m2 s (q.en2 k)).vs[i * 4 + j]? = some v
    rw [hen k hk] at hi' ⊢
    exact T.c2.l k hk i hi'
  · have hi' : i < (upr q.lf2 q.m2 s (q.en2 k)).n := hi
    show ∀ j v, (yL (if i < (upr q.h2 q.m2 s (q.en2 k)).n then mkL k else mkL k + 1))[j]? = some v → (upr q.lf2 q.m2 s (q.en2 k)).vs[i * 4 + j]? = some v
    rw [hen2 k hk] at hi' ⊢
    rw [hen k hk]
    exact T.c2.g k hk i hi'
  · by_cases e : i = q.m2
    · subst e
      show (upr q.lf2 q.m2 s q.m2).n ≤ M
      rw [upr_same]
      exact hm
    · have hi2 : i < q.m2 + 1 := hi
      show (upr q.lf2 q.m2 s i).n ≤ M
      rw [upr_other _ _ _ _ e]
      exact T.b2 i (by omega)
/-- Nothing as yet. -/
def sd0 : Sd := ⟨0, fun _ => rw0, fun _ => rw0, fun k => k, 0, rw0, 0, fun _ => rw0, fun _ => rw0, fun k => k, 0, rw0, 0, fun k => k, rw0, 0, fun k => k, rw0⟩
theorem rw0_at (e : TypeId) (s B : Nat) (w : World) : rw0.At e s B w := World.ownsRow_nil _ _ _ _
theorem St.begin (w : World) (M : Nat) : St w (w.alloc (.cells #[.slice none 0 0, .slice none 0 0] 60)) w.heap.size M 0 sd0 := by
  refine ⟨(Below.refl _ _).alloc (Nat.le_refl _) _, ⟨heap_new _ _, Nat.le_refl _⟩, ⟨Pf.nil _ _, rw0_at _ _ _ _, rfl, rfl, fun k hk => absurd hk (by simp [sd0]), fun k j hk => absurd hk (by simp [sd0])⟩, ⟨Pf.nil _ _, rw0_at _ _ _ _, rfl, rfl, fun k hk => absurd hk (by simp [sd0]), fun k j hk => absurd hk (by simp [sd0])⟩, ⟨fun k hk => absurd hk (by simp [sd0]), fun k hk => absurd hk (by simp [sd0])⟩, ⟨fun k hk => absurd hk (by simp [sd0]), fun k hk => absurd hk (by simp [sd0])⟩, fun i hi => absurd hi (by simp [sd0]), fun i hi => absurd hi (by simp [sd0]), rw0_at _ _ _ _, rfl, rfl, rw0_at _ _ _ _, rfl, rfl, Off.none _, ⟨fun i hi => absurd hi (by simp [sd0]), fun i hi => absurd hi (by simp [sd0]), fun i _ hi => absurd hi (by simp [sd0]), fun i _ hi => absurd hi (by simp [sd0]), fun i _ hi => absurd hi (by simp [sd0]), fun i _ hi => absurd hi (by simp [sd0]), fun i j hi => absurd hi (by simp [sd0]), Nat.le_refl _⟩⟩
end
end

section
open Go.RowKit
set_option linter.unusedVariables false
set_option linter.unusedSimpArgs false

structure Mid (q0 q : Sd) (r ra sa : Rw) (jj : Nat) : Prop where
  h0 : q.h q0.m = r
  ha : q.h (q0.m + 1) = ra
  la : q.lf (q0.m + 1) = ra
  ha2 : q.h2 q0.m2 = sa
  la2 : q.lf2 q0.m2 = sa
  mm : q0.m + 3 ≤ q.m
  m2 : q0.m2 < q.m2
  ea : ∀ k, k < q.E → q.en k ≠ q0.m ∧ q.en k ≠ q0.m + 1
  el : ∀ i, i < q.NL → q.le i ≠ q0.m ∧ q.le i ≠ q0.m + 1
  ew : ∀ i, i < q.NW → q.wa i ≠ q0.m ∧ q.wa i ≠ q0.m + 1
  e2 : ∀ k, k < q.E2 → q.en2 k ≠ q0.m2
  nn : q.NL = q.NW
  b : q.NL ≤ q0.NL + 1 + jj
  bE : q.E ≤ q0.E + jj
  bE2 : q.E2 = q0.E2

/-- The state behind Pack, Pack. -/
def Sd.two (q : Sd) (r ra sa rb sb : Rw) : Sd := ((((q.addB r).addB ra).addK sa).addB rb).addK sb
theorem two_facts (q : Sd) (r ra sa rb sb : Rw) : (q.two r ra sa rb sb).m = q.m + 3 ∧ (q.two r ra sa rb sb).h q.m = r ∧ (q.two r ra sa rb sb).h (q.m + 1) = ra ∧ (q.two r ra sa rb sb).h (q.m + 2) = rb ∧ (q.two r ra sa rb sb).lf (q.m + 1) = ra ∧ (q.two r ra sa rb sb).lf (q.m + 2) = rb ∧ (q.two r ra sa rb sb).h2 q.m2 = sa ∧ (q.two r ra sa rb sb).lf2 q.m2 = sa ∧ (q.two r ra sa rb sb).m2 = q.m2 + 2 := by
  refine ⟨rfl, ?_, ?_, ?_, ?_, ?_, ?_, ?_, rfl⟩ <;> simp [Sd.two, Sd.addB, Sd.addK, upr] <;> (intro h; omega)
/-- Laid aside, with a copy. -/
def Sd.aside (q : Sd) (j : Nat) (RL c RW : Rw) : Sd := ((q.pushL j RL).addB c).pushW q.m RW
theorem Mid.start {w wr : World} {K M : Nat} {q : Sd} (T : St w wr K M 0 q) (hN : q.NL = q.NW) (r ra sa rb sb RL c RW : Rw) : Mid q ((q.two r ra sa rb sb).aside (q.m + 2) RL c RW) r ra sa 0 := by
  obtain ⟨f1, f2, f3, f4, f5, f6, f7, f8, f9⟩ := two_facts q r ra sa rb sb
  have hm : ((q.two r ra sa rb sb).aside (q.m + 2) RL c RW).m = q.m + 4 := rfl
  have hh : ∀ x, x < q.m + 3 → ((q.two r ra sa rb sb).aside (q.m + 2) RL c RW).h x = (q.two r ra sa rb sb).h x := fun x hx => upr_other _ _ _ _ (by show x ≠ q.m + 3; omega)
  have hl : ∀ x, x < q.m + 3 → ((q.two r ra sa rb sb).aside (q.m + 2) RL c RW).lf x = (q.two r ra sa rb sb).lf x := fun x hx => upr_other _ _ _ _ (by show x ≠ q.m + 3; omega)
  refine ⟨by rw [hh _ (by omega)]; exact f2, by rw [hh _ (by omega)]; exact f3, by rw [hl _ (by omega)]; exact f5, f7, f8, by rw [hm]; omega, by show q.m2 < q.m2 + 2; omega, fun k hk => ?_, fun i hi => ?_, fun i hi => ?_, fun k hk => ?_, by show q.NL + 1 = q.NW + 1; rw [hN], by show q.NL + 1 ≤ _; omega, Nat.le_refl _, rfl⟩
  · have := T.a1.lt k hk
    show q.en k ≠ q.m ∧ q.en k ≠ q.m + 1
    omega
  · have hi2 : i < q.NL + 1 := hi
    show updN q.le q.NL (q.m + 2) i ≠ q.m ∧ updN q.le q.NL (q.m + 2) i ≠ q.m + 1
    by_cases e : i = q.NL
    · subst e; rw [updN_same]; omega
    · rw [updN_other _ _ _ _ e]
      have := T.ix.lem i (by omega)
      omega
  · have hi2 : i < q.NW + 1 := hi
    show updN q.wa q.NW (q.m + 3) i ≠ q.m ∧ updN q.wa q.NW (q.m + 3) i ≠ q.m + 1
    by_cases e : i = q.NW
    · subst e; rw [updN_same]; omega
    · rw [updN_other _ _ _ _ e]
      have := T.ix.wam i (by omega)
      omega
  · have := T.a2.lt k hk
    show q.en2 k ≠ q.m2
    omega
/-- One block more: what was opened twice is laid aside, with a copy, and taken. -/
def Sd.three (q : Sd) (p c d : Rw) : Sd := ((q.addB p).addB c).addB d
theorem three_facts (q : Sd) (p c d : Rw) : (q.three p c d).m = q.m + 3 ∧ (q.three p c d).h q.m = p ∧ (q.three p c d).h (q.m + 1) = c ∧ (q.three p c d).lf (q.m + 1) = c ∧ (q.three p c d).h (q.m + 2) = d ∧ (q.three p c d).lf (q.m + 2) = d := by
  refine ⟨rfl, ?_, ?_, ?_, ?_, ?_⟩ <;> simp [Sd.three, Sd.addB, upr] <;> (intro h; omega)
theorem Mid.step {w wr : World} {K M : Nat} {q0 q : Sd} {r ra sa : Rw} {jj : Nat} (h : Mid q0 q r ra sa jj) (p c d RL cp RW R : Rw) : Mid q0 (((q.three p c d).aside (q.m + 2) RL cp RW).take (q.m + 1) R) r ra sa (jj + 1) := by
  have hmm := h.mm
  have hh : ∀ x, x < q.m → (((q.three p c d).aside (q.m + 2) RL cp RW).take (q.m + 1) R).h x = q.h x := fun x hx => by
    simp only [Sd.take, Sd.aside, Sd.three, Sd.addB, Sd.pushL, Sd.pushW]
    rw [upr_other _ _ _ _ (by omega), upr_other _ _ _ _ (by omega), upr_other _ _ _ _ (by omega), upr_other _ _ _ _ (by omega), upr_other _ _ _ _ (by omega)]
  have hl : ∀ x, x < q.m → (((q.three p c d).aside (q.m + 2) RL cp RW).take (q.m + 1) R).lf x = q.lf x := fun x hx => by
    simp only [Sd.take, Sd.aside, Sd.three, Sd.addB, Sd.pushL, Sd.pushW]
    rw [upr_other _ _ _ _ (by omega), upr_other _ _ _ _ (by omega), upr_other _ _ _ _ (by omega), upr_other _ _ _ _ (by omega), upr_other _ _ _ _ (by omega)]
  have hm : (((q.three p c d).aside (q.m + 2) RL cp RW).take (q.m + 1) R).m = q.m + 4 := rfl
  refine ⟨by rw [hh _ (by omega)]; exact h.h0, by rw [hh _ (by omega)]; exact h.ha, by rw [hl _ (by omega)]; exact h.la, h.ha2, h.la2, by rw [hm]; omega, h.m2, fun k hk => ?_, fun i hi => ?_, fun i hi => ?_, h.e2, by show q.NL + 1 = q.NW + 1; rw [h.nn], by have := h.b; show q.NL + 1 ≤ _; omega, by have := h.bE; show q.E + 1 ≤ _; omega, h.bE2⟩
  · have hk2 : k < q.E + 1 := hk
    show updN q.en q.E (q.m + 1) k ≠ q0.m ∧ updN q.en q.E (q.m + 1) k ≠ q0.m + 1
    by_cases e : k = q.E
    · subst e; rw [updN_same]; omega
    · rw [updN_other _ _ _ _ e]; exact h.ea k (by omega)
  · have hi2 : i < q.NL + 1 := hi
    show updN q.le q.NL (q.m + 2) i ≠ q0.m ∧ updN q.le q.NL (q.m + 2) i ≠ q0.m + 1
    by_cases e : i = q.NL
    · subst e; rw [updN_same]; omega
    · rw [updN_other _ _ _ _ e]; exact h.el i (by omega)
  · have hi2 : i < q.NW + 1 := hi
    show updN q.wa q.NW (q.m + 3) i ≠ q0.m ∧ updN q.wa q.NW (q.m + 3) i ≠ q0.m + 1
    by_cases e : i = q.NW
    · subst e; rw [updN_same]; omega
    · rw [updN_other _ _ _ _ e]; exact h.ew i (by omega)
end

end Go.Proofs.Ytdnbpklnkmgmkaa
