/-
  The walk: freightlaw1.CodeOwn.
-/
import Derived.Test.YtjmameknbnflaabOm2
namespace Go.Proofs.Ytjmameknbnflaab
open Go.RowKit
set_option linter.unusedVariables false
set_option linter.unusedSimpArgs false

theorem Try.zeroBook (W : World) : (zeroValue 67).run Try.prog W = .ok (.agg #[.slice none 0 0]) W := by kernel_rfl

/-- make with room behind it. -/
theorem wpList_make_cap {P : Program} (w : World) {ops : Array Oper} {rest : List Oper} {o : Oper} {a : Act} {Q : Exit → Act → World → Prop}
    (hg : o.guard = none) (l c : Operand) (t : TypeId) (hop : o.op = Op.makeSlice t l c)
    (e : TypeId) (i : TypeInfo) (z : Value) (size : Nat) (h1 : P.underlying t = some (.slice e)) (h2 : P.info? e = some i) (h3 : i.zero = some z) (h4 : i.size = size)
    (kl kc : IntKind) (n m : Nat) (C : Int) (hl : a.eval l = .int kl (n : Int)) (hc : a.eval c = .int kc C) (hC : C = (m : Int)) (hnm : n ≤ m) (b2 : (i.bytes : Int) * (m : Int) ≤ 281474976710656) (b3 : (m : Int) ≤ 9223372036854775807)
    (hK : ∀ w', w' = w.alloc (.cells (madeCells z.cells (m * size)) e) → wpList P ops Q rest (a.put o.dst (.slice (some ⟨w.heap.size, 0, none⟩) n m)) w') :
    wpList P ops Q (o :: rest) a w := by
  refine wpList_plain hg fun K hK' => ?_
  subst hC
  subst h4
  have hr := run_make (P := P) w t e i z h1 h2 h3 kl kc (n : Int) (m : Int) (by omega) (by omega) b2 b3
  simp only [Int.toNat_natCast] at hr
  unfold Oper.wp
  simp [execOp, hop, hl, hc, hr, Result.andThen]
  exact hK' _ _ (hK _ rfl)

/-- copy of a row into new memory. -/
theorem copy_given (wr : World) (g m n : Nat) (R : List UInt8) (ao : Option Addr) (cap : Nat) (xs : List UInt8) (hrow : wr.heap[g]? = some (.cells (bys R).toArray 5 (0, 0))) (hR : R.length = m) (hx : xs.length = n) (hnm : n ≤ m) (hs : Sl wr ao xs) :
    ∃ w2, (Builtin.copy_ #[32, 32] 3 #[.slice (some ⟨g, 0, none⟩) n m, .slice ao n cap]).run Try.prog wr = .ok (.int .i64 n) w2 ∧ Sl w2 (some ⟨g, 0, none⟩) xs ∧ Kept [g] wr w2 := by
  by_cases h0 : xs = []
  · subst h0
    obtain rfl : n = 0 := by simpa using hx.symm
    exact ⟨wr, run_copy_none (P := Try.prog) wr _ _ _ 5 _ _ _ _ _ _ Try.underlying32 Try.sizeByte (by simp), Sl.nil _ _, Kept.refl _ _⟩
  · obtain ⟨b, off, rfl, hb, hc⟩ := hs.open h0
    have h := run_copy_row (P := Try.prog) wr 32 32 3 5 g 0 n m ⟨b, off, none⟩ n cap _ 5 (bys xs) Try.underlying32 Try.sizeByte hrow (by rw [bys_length, hx]; simp only [Nat.min_def]; split <;> omega) (Sl.cells hc) (by rw [bys_length, hx]; simp [bys_length]; omega) (bys_oneCell xs)
    refine ⟨_, by rw [h, bys_length, hx]; rfl, Sl.of fun i hi => ?_, kept_setRow (Kept.refl _ _) (by simp) _⟩
    rw [cell_of_row _ _ _ _ _ _ (setRow_heap _ _ _ _ _ _ hrow), List.getElem?_toArray, Nat.zero_add]
    simp only [List.take_zero, List.nil_append, Nat.zero_add]
    rw [List.getElem?_append_left (by rw [bys_length]; exact hi)]
    exact bys_at hi

/-- Whose each block is at the start. -/
def ow0 (a b c : Nat) : Nat → Nat := fun g => if g < a then 0 else if g < b then 1 else if g < c then 2 else if g = c + 1 then 4 else if g = c + 1 + 1 + 1 then 5 else 3
def vr0 (a b c : Nat) : Vr := ⟨ow0 a b c, ⟨0, 0, 0⟩, ⟨0, 0, 0⟩, ⟨0, 0, 0⟩, [c], .slice none 0 0, some [], .slice none 0 0, [], .slice none 0 0, [], .slice none 0 0, [], 0, []⟩

/-- All that lies there at the start. -/
theorem own_start {w w2 w3 w4 : World} {ao0 : Option Addr} {n0 cap0 : Nat} {xs : List UInt8} {G rb rc sb sc : Nat} {ra sa : Option Addr} (hin : InB w ao0 n0 cap0 xs) (hG : w.heap.size ≤ G ∧ G < w2.heap.size) (hB2 : Below w.heap.size w w2) (hS : Sl w2 (some ⟨G, 0, none⟩) xs)
    (hr1 : w2.heap.size ≤ rb) (hr2 : ∀ a, ra = some a → w2.heap.size ≤ a.block) (hr3 : ∀ a, ra = some a → a.block < rb) (hr : Rd w3 rb 0 0 ra rc xs 0) (hk3 : Kept [] w2 w3)
    (hs1 : w3.heap.size ≤ sb) (hs2 : ∀ a, sa = some a → w3.heap.size ≤ a.block) (hs3 : ∀ a, sa = some a → a.block < sb) (hs : Rd w4 sb 0 0 sa sc xs 0) (hk4 : Kept [] w3 w4) :
    OwS ((((w4.alloc (.cells zeroW 31)).alloc (.cells #[.slice ao0 n0 cap0, .int .i64 0, .int .i64 0, .int .i64 0] 60)).alloc (.cells #[.slice none 0 0, .bool false] 63)).alloc (.cells #[.slice none 0 0] 67)) w.heap.size ao0 cap0 xs
      ⟨G, rb, ra, rc, sb, sa, sc, w4.heap.size + 1, w4.heap.size, w4.heap.size + 1 + 1, w4.heap.size + 1 + 1 + 1⟩ (vr0 w2.heap.size w3.heap.size w4.heap.size) ∧ Below w.heap.size w ((((w4.alloc (.cells zeroW 31)).alloc (.cells #[.slice ao0 n0 cap0, .int .i64 0, .int .i64 0, .int .i64 0] 60)).alloc (.cells #[.slice none 0 0, .bool false] 63)).alloc (.cells #[.slice none 0 0] 67)) := by
  have s2 := hB2.size
  have s3 := hk3.size
  have s4 := hk4.size
  have lr := hr.lt
  have lsb := hs.lt
  have hB4 : Below w.heap.size w w4 := (hB2.trans (hk3.below hB2.size (by simp))).trans (hk4.below (by omega) (by simp))
  have hwr := wr_zero w4
  have k5 : Kept [] w4 (w4.alloc (.cells zeroW 31)) := (Kept.refl [] w4).alloc _
  have z5 : (w4.alloc (.cells zeroW 31)).heap.size = w4.heap.size + 1 := by simp
  have hB5 : Below w.heap.size w (w4.alloc (.cells zeroW 31)) := hB4.trans (k5.below hB4.size (by simp))
  generalize w4.alloc _ = w5 at hwr k5 z5 hB5 ⊢
  have hrf := rf_new hin hB5
  have k6 : Kept [] w5 (w5.alloc (.cells #[.slice ao0 n0 cap0, .int .i64 0, .int .i64 0, .int .i64 0] 60)) := (Kept.refl [] w5).alloc _
  have z6 : (w5.alloc (.cells #[.slice ao0 n0 cap0, .int .i64 0, .int .i64 0, .int .i64 0] 60)).heap.size = w4.heap.size + 1 + 1 := by simp [z5]
  rw [z5] at hrf
  generalize w5.alloc _ = w6 at hrf k6 z6 ⊢
  have hws := wds_zero w6 (base := w.heap.size) (by omega)
  have k7 : Kept [] w6 (w6.alloc (.cells #[.slice none 0 0, .bool false] 63)) := (Kept.refl [] w6).alloc _
  have z7 : (w6.alloc (.cells #[.slice none 0 0, .bool false] 63)).heap.size = w4.heap.size + 1 + 1 + 1 := by simp [z6]
  rw [z6] at hws
  generalize w6.alloc _ = w7 at hws k7 z7 ⊢
  have k8 : Kept [] w7 (w7.alloc (.cells #[.slice none 0 0] 67)) := (Kept.refl [] w7).alloc _
  have hbk : Bk (w7.alloc (.cells #[.slice none 0 0] 67)) w.heap.size w7.heap.size (.slice none 0 0) [] := ⟨by simp, by simp, World.ownsRow_nil _ _ _ _, by simp [Value.ownBlock]⟩
  have z8 : (w7.alloc (.cells #[.slice none 0 0] 67)).heap.size = w4.heap.size + 1 + 1 + 1 + 1 := by simp [z7]
  rw [z7] at hbk
  generalize w7.alloc _ = w8 at k8 hbk z8 ⊢
  have k78 := k7.trans k8 (by simp)
  have k68 := k6.trans k78 (by simp)
  have k48 := k5.trans k68 (by simp)
  have k38 := hk4.trans k48 (by simp)
  have k28 := hk3.trans k38 (by simp)
  have ho : (Value.slice none 0 0).ownBlock = none := rfl
  have e0 : ∀ g, g < w2.heap.size → ow0 w2.heap.size w3.heap.size w4.heap.size g = 0 := fun g h => by simp [ow0, h]
  have e1 : ∀ g, w2.heap.size ≤ g → g < w3.heap.size → ow0 w2.heap.size w3.heap.size w4.heap.size g = 1 := fun g h h' => by simp [ow0, Nat.not_lt.2 h, h']
  have e2 : ∀ g, w3.heap.size ≤ g → g < w4.heap.size → ow0 w2.heap.size w3.heap.size w4.heap.size g = 2 := fun g h h' => by simp [ow0, Nat.not_lt.2 h, Nat.not_lt.2 (Nat.le_trans s3 h), h']
  have e3 : ow0 w2.heap.size w3.heap.size w4.heap.size w4.heap.size = 3 := by unfold ow0; rw [if_neg (by omega), if_neg (by omega), if_neg (by omega), if_neg (by omega), if_neg (by omega)]
  have e4 : ow0 w2.heap.size w3.heap.size w4.heap.size (w4.heap.size + 1) = 4 := by unfold ow0; rw [if_neg (by omega), if_neg (by omega), if_neg (by omega), if_pos rfl]
  have e5 : ow0 w2.heap.size w3.heap.size w4.heap.size (w4.heap.size + 1 + 1) = 3 := by unfold ow0; rw [if_neg (by omega), if_neg (by omega), if_neg (by omega), if_neg (by omega), if_neg (by omega)]
  have e6 : ow0 w2.heap.size w3.heap.size w4.heap.size (w4.heap.size + 1 + 1 + 1) = 5 := by unfold ow0; rw [if_neg (by omega), if_neg (by omega), if_neg (by omega), if_neg (by omega), if_pos rfl]
  have hB8 : Below w.heap.size w w8 := hB4.trans (k48.below hB4.size (by simp))
  have hr8 := hr.kept k38 (by simp) (by simp)
  have hs8 := hs.kept k48 (by simp) (by simp)
  refine ⟨⟨fun _ => ⟨hS.kept k28 (by simp), e0 G hG.2, hG.1, Nat.lt_of_lt_of_le hG.2 k28.size⟩, fun _ => ⟨⟨0, fun _ => rfl, hr8⟩, e1 rb hr1 lr, by show w.heap.size ≤ rb; omega, fun a ha => ⟨e1 _ (hr2 a ha) (by have := hr3 a ha; omega), by have := hr2 a ha; omega, by have := hr3 a ha; have := hr8.lt; omega⟩⟩, fun _ => ⟨⟨0, fun _ => rfl, hs8⟩, e2 sb hs1 lsb, by show w.heap.size ≤ sb; omega, fun a ha => ⟨e2 _ (hs2 a ha) (by have := hs3 a ha; omega), by have := hs2 a ha; omega, by have := hs3 a ha; have := hs8.lt; omega⟩⟩, fun _ => ⟨hrf.kept k78 (by simp) (by simp), e4, by show w.heap.size ≤ w4.heap.size + 1; omega⟩,
    fun _ => ⟨⟨.inl ⟨w4.heap.size, [], [], rfl, rfl, rfl, hwr.kept k68 (by simp) (by simp)⟩, hws.kept k8 (by simp) (by simp), by show w4.heap.size + 1 + 1 ∉ [w4.heap.size]; simp; omega, fun g hg => (by cases hg), fun g hg => by have : g ∈ [w4.heap.size] := hg; simp at this; omega, by show w.heap.size ≤ w4.heap.size + 1 + 1; omega⟩, fun g hg => ?_⟩, fun _ => ⟨⟨hbk, fun i hi => (by cases hi), e6, fun g hg => (by cases hg), fun i hi => (by cases hi), by simp [vr0]⟩, by show w.heap.size ≤ w4.heap.size + 1 + 1 + 1; omega⟩, fun _ => ⟨World.ownsRow_nil _ _ _ _, fun g hg => (by cases hg)⟩, fun _ => ⟨World.ownsRow_nil _ _ _ _, fun g hg => (by cases hg)⟩, fun j _ h2 => (by cases h2), fun j h2 => (by cases h2), by simp [vr0], fun hne a ha => ?_, hB8.size⟩, hB8⟩
  · have hg' : g ∈ pfp (w4.heap.size + 1 + 1) [w4.heap.size] (.slice none 0 0) := hg
    rcases mem_pfp.1 hg' with h1 | h1 | h1
    · have : g = w4.heap.size := by simpa using h1
      rw [this]; exact e3
    · rw [h1]; exact e5
    · cases h1
  · obtain ⟨b', off', e', hb', _⟩ := hin.sl.open hne
    rw [e'] at ha
    cases ha
    exact hb'

/-- What holds at the head of CodeOwn's first loop. -/
structure OwL (w wr : World) (ao0 : Option Addr) (cap0 : Nat) (xs : List UInt8) (c : Cf) (q : Vr) (k : Nat) : Prop where
  ows : OwS wr w.heap.size ao0 cap0 xs c q
  e1 : q.sr = q.sx
  e2 : q.ss = q.sx
  l1 : q.ls.length = q.cs.length
  l2 : q.ws.length = q.cs.length
  l3 : q.nw = q.cs.length
  l4 : q.cs.length ≤ 2 * k
  l5 : q.es.length ≤ 2 * k
  len : ∀ ys, q.o = some ys → ys.length ≤ k * 200005
  m1 : ∀ j, j < q.cs.length → (q.cs.getD j []).length ≤ 100000000
  m2 : ∀ j, j < q.es.length → (q.es.getD j en0).m ≤ 100000000
  small : k ≤ 61
  below : Below w.heap.size w wr

theorem Try.infoRowB : (Try.prog.info? 32).map (fun i => (i.zero, i.size, i.bytes)) = some (some (.slice none 0 0), 1, 24) := by kernel_rfl

/-- append of a row, nil or not, onto a new row without elements. -/
theorem wpList_append_copy (w : World) {ops : Array Oper} {rest : List Oper} {o : Oper} {a : Act} {Q : Exit → Act → World → Prop} (hgd : o.guard = none) (s x : Operand)
    (ho : o.op = .call { callee := .builtin .append, args := #[s, x], argTypes := #[32, 32] })
    (g : Nat) (hs : a.eval s = .slice (some ⟨g, 0, none⟩) 0 0) (hown0 : w.ownsRow g 5 1 (.slice (some ⟨g, 0, none⟩) 0 0) 0 []) (yo : Option Addr) (n yc : Nat) (ys : List UInt8) (hx : a.eval x = .slice yo n yc) (hsl : Sl w yo ys) (hn : ys.length = n) (hnil : yo = none → n = 0 ∧ yc = 0) (hm : n ≤ 100000000000)
    (h : ∀ g' c' w', Kept [g] w w' → Sl w' (some ⟨g', 0, none⟩) ys → g ≤ g' → g' < w'.heap.size → wpList Try.prog ops Q rest (a.put o.dst (.slice (some ⟨g', 0, none⟩) n c')) w') : wpList Try.prog ops Q (o :: rest) a w := by
  obtain ⟨i0, hi, hz0, hz1, hz2⟩ := info_parts Try.infoByte
  have hgl : g < w.heap.size := (hown0.lt g rfl).2
  cases yo with
  | none =>
    obtain ⟨rfl, rfl⟩ := hnil rfl
    have hy : ys = [] := List.eq_nil_of_length_eq_zero hn
    refine wpList_append_own_none hgd s x 32 ho g 5 i0 1 Try.underlying32 hi _ 0 [] hs hown0 hx ?_
    exact h g 0 w (Kept.refl _ _) (by rw [hy]; exact Sl.nil _ _) (Nat.le_refl _) hgl
  | some ad =>
    refine wpList_append_own _ hgd s x 32 ho g 5 i0 (.int .u8 0) 1 1 Try.underlying32 hi hz0 hz1 hz2 rfl (by decide) _ 0 [] hs hown0 ad n yc (bys ys) hx (by rw [bys_length, hn]; omega) hsl.src (bys_oneCell ys) (by unfold maxLen; omega) (by omega) (by omega) ?_
    intro v' w' hown hgrow hnn
    rw [List.nil_append, Nat.zero_add] at hown
    obtain ⟨g', c', hv, h1, h2, h3, h4⟩ := own_sl hown (fun e => by have := hnn.1 e; cases this.1)
    subst hv
    exact h g' c' w' ((Kept.refl _ _).grown hgrow (fun k hk _ => by simp [Value.ownBlock] at hk; simp [hk])) h4 h1 h2

/-- All of it, and the call at hand in a block of its own. -/
structure OwC (wr : World) (base : Nat) (ao0 : Option Addr) (cap0 : Nat) (xs : List UInt8) (c : Cf) (cb : Nat) (kd vv wd : Int) (da : Option Addr) (dn dc : Nat) (q : Vr) : Prop where
  ows : OwS wr base ao0 cap0 xs c q
  ocb : q.ow cb = 99
  c0 : wr.cell? ⟨cb, 0, none⟩ = some (.int .i64 kd)
  c1 : wr.cell? ⟨cb, 1, none⟩ = some (.int .i64 vv)
  c2 : wr.cell? ⟨cb, 2, none⟩ = some (.int .i64 wd)
  c3 : wr.cell? ⟨cb, 3, none⟩ = some (.slice da dn dc)

section
variable {wr w' : World} {base : Nat} {ao0 : Option Addr} {cap0 : Nat} {xs : List UInt8} {c : Cf} {cb : Nat} {kd vv wd : Int} {da : Option Addr} {dn dc : Nat} {q q' : Vr}

theorem OwC.next (h : OwC wr base ao0 cap0 xs c cb kd vv wd da dn dc q) (ho : OwS w' base ao0 cap0 xs c q') (hag : ∀ g, g < wr.heap.size → q'.ow g = q.ow g) {l : List Nat} (hk : Kept l wr w') (hn : ∀ g, g ∈ l → g < wr.heap.size → q.ow g ≠ 99) : OwC w' base ao0 cap0 xs c cb kd vv wd da dn dc q' := by
  have hlt : cb < wr.heap.size := World.block_lt_of_cell? _ _ h.c0
  have hcn : cb ∉ l := fun hm => hn cb hm hlt h.ocb
  exact ⟨ho, by rw [hag cb hlt]; exact h.ocb, hk.cellOf h.c0 hcn, hk.cellOf h.c1 hcn, hk.cellOf h.c2 hcn, hk.cellOf h.c3 hcn⟩

theorem OwC.fresh (h : OwC wr base ao0 cap0 xs c cb kd vv wd da dn dc q) (hk : Kept [] wr w') (i : Nat) : OwC w' base ao0 cap0 xs c cb kd vv wd da dn dc { q with ow := claimed wr q.ow i } :=
  h.next (h.ows.fresh hk i) (fun g hg => claimed_old hg) hk (by simp)
theorem OwC.quiet (h : OwC wr base ao0 cap0 xs c cb kd vv wd da dn dc q) (hk : Kept [] wr w') : OwC w' base ao0 cap0 xs c cb kd vv wd da dn dc q :=
  h.next (h.ows.quiet hk) (fun g hg => rfl) hk (by simp)
theorem OwC.told (h : OwC wr base ao0 cap0 xs c cb kd vv wd da dn dc q) (ys : List UInt8) (hl : q.cs.length < 900) : OwC wr base ao0 cap0 xs c cb kd vv wd da dn dc { q with cs := q.cs ++ [ys] } :=
  ⟨OwS.told h.ows ys hl, h.ocb, h.c0, h.c1, h.c2, h.c3⟩

end

theorem OwL.quiet {w wr w' : World} {ao0 : Option Addr} {cap0 : Nat} {xs : List UInt8} {c : Cf} {q : Vr} {k : Nat} (h : OwL w wr ao0 cap0 xs c q k) (hk : Kept [] wr w') : OwL w w' ao0 cap0 xs c q k :=
  ⟨h.ows.quiet hk, h.e1, h.e2, h.l1, h.l2, h.l3, h.l4, h.l5, h.len, h.m1, h.m2, h.small, h.below.trans (hk.below h.below.size (by simp))⟩
theorem OwL.short {w wr : World} {ao0 : Option Addr} {cap0 : Nat} {xs : List UInt8} {c : Cf} {q : Vr} {k : Nat} (h : OwL w wr ao0 cap0 xs c q k) : ∀ ys, q.o = some ys → ys.length ≤ 90000000000 := fun ys hy => by
  have h1 := h.len ys hy
  have h2 := h.l4
  have h3 := h.small
  have h4 : k * 200005 ≤ 61 * 200005 := Nat.mul_le_mul_right _ h3
  omega
theorem getD_one {M : Nat} {l : List (List UInt8)} (h : ∀ j, j < l.length → (l.getD j []).length ≤ M) {a : List UInt8} (ha : a.length ≤ M) : ∀ j, j < (l ++ [a]).length → ((l ++ [a]).getD j []).length ≤ M := fun j hj => by
  by_cases h1 : j < l.length
  · have e : (l ++ [a]).getD j [] = l.getD j [] := by simp [List.getElem?_append_left h1]
    rw [e]
    exact h j h1
  · have hje : j = l.length := by simp at hj; omega
    have e : (l ++ [a]).getD j [] = a := by rw [hje]; simp
    rw [e]
    exact ha
theorem getD_all {M : Nat} {l : List (List UInt8)} (h : ∀ j, j < l.length → (l.getD j []).length ≤ M) (j : Nat) : (l.getD j []).length ≤ M := by
  by_cases h1 : j < l.length
  · exact h j h1
  · have e : l.getD j [] = [] := by simp [List.getElem?_eq_none (Nat.le_of_not_lt h1)]
    rw [e]
    exact Nat.zero_le _
theorem getD_two {M : Nat} {l : List (List UInt8)} (h : ∀ j, j < l.length → (l.getD j []).length ≤ M) {a c : List UInt8} (ha : a.length ≤ M) (hc : c.length ≤ M) (j : Nat) : ((l ++ [a] ++ [c]).getD j []).length ≤ M := getD_all (getD_one (getD_one h ha) hc) j
theorem getD_one2 {M : Nat} {l : List En} (h : ∀ j, j < l.length → (l.getD j en0).m ≤ M) {a : En} (ha : a.m ≤ M) : ∀ j, j < (l ++ [a]).length → ((l ++ [a]).getD j en0).m ≤ M := fun j hj => by
  by_cases h1 : j < l.length
  · have e : (l ++ [a]).getD j en0 = l.getD j en0 := by simp [List.getElem?_append_left h1]
    rw [e]
    exact h j h1
  · have hje : j = l.length := by simp at hj; omega
    have e : (l ++ [a]).getD j en0 = a := by rw [hje]; simp
    rw [e]
    exact ha
theorem getD_all2 {M : Nat} {l : List En} (h : ∀ j, j < l.length → (l.getD j en0).m ≤ M) (j : Nat) : (l.getD j en0).m ≤ M := by
  by_cases h1 : j < l.length
  · exact h j h1
  · have e : l.getD j en0 = en0 := by simp [List.getElem?_eq_none (Nat.le_of_not_lt h1)]
    rw [e]
    exact Nat.zero_le _
theorem getD_two2 {M : Nat} {l : List En} (h : ∀ j, j < l.length → (l.getD j en0).m ≤ M) {a c : En} (ha : a.m ≤ M) (hc : c.m ≤ M) (j : Nat) : ((l ++ [a] ++ [c]).getD j en0).m ≤ M := getD_all2 (getD_one2 (getD_one2 h ha) hc) j

theorem bytes_alike (a1 a2 : Option Addr) (n c1 c2 : Nat) (xs : List UInt8) (w : World) (hx : xs.length = n) (hm : n ≤ 4611686018427387904) (h1 : Sl w a1 xs) (h2 : Sl w a2 xs) :
    Calls Try.prog 17 #[.slice a1 n c1, .slice a2 n c2] w fun e w' => e = .returned (.bool true) ∧ ∃ k, w' = w.drewN k :=
  (bytes_any a1 a2 n c1 n c2 xs xs w hx hx hm h1 h2).mono fun e w' ⟨h1, h2⟩ => ⟨by rw [h1, decide_eq_true rfl], h2⟩

/-- What holds behind the first loop; the rows that wait from the lo-th on. -/
structure OwT (w wr : World) (ao0 : Option Addr) (cap0 : Nat) (xs : List UInt8) (c : Cf) (q : Vr) (lo M : Nat) : Prop where
  ows : OwsP (fun _ => false) lo wr w.heap.size ao0 cap0 xs c q
  l1 : q.ls.length = q.cs.length
  l2 : q.ws.length = q.cs.length
  l3 : q.nw = q.cs.length
  l4 : q.cs.length ≤ 120
  l5 : q.es.length ≤ 120 + lo
  len : ∀ ys, q.o = some ys → ys.length ≤ 90000000000
  m1 : ∀ j, j < q.cs.length → (q.cs.getD j []).length ≤ 100000000
  m2 : ∀ j, j < q.es.length → (q.es.getD j en0).m ≤ M
  below : Below w.heap.size w wr

theorem OwT.quiet {w wr w' : World} {ao0 : Option Addr} {cap0 : Nat} {xs : List UInt8} {c : Cf} {q : Vr} {lo M : Nat} (h : OwT w wr ao0 cap0 xs c q lo M) (hk : Kept [] wr w') : OwT w w' ao0 cap0 xs c q lo M :=
  ⟨h.ows.quiet hk, h.l1, h.l2, h.l3, h.l4, h.l5, h.len, h.m1, h.m2, h.below.trans (hk.below h.below.size (by simp))⟩

theorem OwT.grew {w wr w' : World} {ao0 : Option Addr} {cap0 : Nat} {xs : List UInt8} {c : Cf} {q : Vr} {lo M : Nat} (h : OwT w wr ao0 cap0 xs c q lo M) (hg : GrowEnd wr w' w.heap.size c.B q.rv q.ow q.es.length M) : ∃ q' : Vr, OwT w w' ao0 cap0 xs c q' lo (M + 64) ∧ q'.lv = q.lv ∧ q'.wv = q.wv ∧ q'.cs = q.cs := by
  obtain ⟨es, ow', h1, h2, h3, h4⟩ := OwS.grew h.ows hg
  exact ⟨{ q with ow := ow', es := es }, ⟨h1, h.l1, h.l2, h.l3, h.l4, by show es.length ≤ _; rw [h2]; exact h.l5, h.len, h.m1, h3, h.below.trans (h4.below h.below.size (fun g hg => (mem_blk.1 hg).2.1))⟩, rfl, rfl, rfl⟩

/-- The i-th of the rows that wait, and what it should be. -/
theorem OwT.items {w wr : World} {ao0 : Option Addr} {cap0 : Nat} {xs : List UInt8} {c : Cf} {q : Vr} {lo M i nl lc wc : Nat} {lo' wo : Option Addr} (h : OwT w wr ao0 cap0 xs c q lo M) (hlo : lo ≤ i) (hlv : q.lv = .slice lo' nl lc) (hwv : q.wv = .slice wo nl wc) (hn : nl = q.cs.length) (hi : i < nl) :
    ∃ lg wg a1 c1 a2 c2 n, lo' = some ⟨lg, 0, none⟩ ∧ wo = some ⟨wg, 0, none⟩ ∧ wr.cell? ⟨lg, i, none⟩ = some (.slice a1 n c1) ∧ wr.cell? ⟨wg, i, none⟩ = some (.slice a2 n c2) ∧ n = (q.cs.getD i []).length ∧ q.ls.getD i (.slice none 0 0) = .slice a1 n c1 ∧ wr.ownsRow w.heap.size 5 1 (.slice a1 n c1) n (bys (q.cs.getD i [])) ∧ Sl wr a2 (q.cs.getD i []) := by
  obtain ⟨b1, b2⟩ := h.ows.li i hlo (by rw [h.l1, ← hn]; exact hi) rfl
  obtain ⟨a2, c2, d1, d2, d3⟩ := h.ows.wi i (by rw [h.l3, ← hn]; exact hi) rfl
  obtain ⟨a1, c1, e1⟩ := own_shape b1
  have h1 := (h.ows.left rfl).1
  have h2 := (h.ows.want rfl).1
  rw [hlv, h.l1, ← hn] at h1
  rw [hwv, h.l2, ← hn] at h2
  obtain ⟨lg, lc', f1, _, _⟩ := h1.form (by omega)
  obtain ⟨wg, wc', f2, _, _⟩ := h2.form (by omega)
  cases f1
  cases f2
  have g1 := h1.cells (g := lg) rfl i (q.ls.getD i (.slice none 0 0)) (by
    have hil : i < q.ls.length := by rw [h.l1, ← hn]; exact hi
    rw [List.getElem?_eq_getElem hil]
    simp [List.getElem?_eq_getElem hil])
  have g2 := h2.cells (g := wg) rfl i (q.ws.getD i (.slice none 0 0)) (by
    have hil : i < q.ws.length := by rw [h.l2, ← hn]; exact hi
    rw [List.getElem?_eq_getElem hil]
    simp [List.getElem?_eq_getElem hil])
  rw [Addr.add_mid, Nat.zero_add] at g1 g2
  rw [e1] at g1 b1
  rw [d1] at g2
  exact ⟨lg, wg, a1, c1, a2, c2, _, rfl, rfl, g1, g2, rfl, e1, b1, d2⟩

set_option maxHeartbeats 6000000 in
set_option maxRecDepth 100000 in
theorem own_main (ao0 : Option Addr) (n0 cap0 : Nat) (so : Option Addr) (sn scap : Nat) (xs : List UInt8) (L : List Cl) (w : World) (hin : InB w ao0 n0 cap0 xs) (hn0 : n0 ≤ 200000) (hL : L.length = sn) (hsm : sn ≤ 9223372036854775807) (hs : Scr w so L) :
    Calls Try.prog 6 #[.slice ao0 n0 cap0, .slice so sn scap] w fun e w' => e = .returned (.bool true) ∧ Below w.heap.size w w' := by
  have d1 : decide (200000 < (n0 : Int)) = false := by simp; omega
  have HIN : Hid (InB w ao0 n0 cap0 xs) := hin
  have HSC : Hid (Scr w so L) := hs
  have HL : Hid (L.length = sn) := hL
  have hz1 := Try.zeroDesk0
  have hz2 := Try.zeroWriter
  have hz3 := Try.zeroLW
  have hz4 := Try.zeroBook
  obtain ⟨i0, hi, hz0, hz1', hz2'⟩ := info_parts Try.infoByte
  obtain ⟨i1, hi1, hy0, hy1, hy2⟩ := info_parts Try.infoRowB
  clear hs hL hin
  go_enter Try.func6, Try.ntmps6
  go_wp2_with (fail)
  refine (long_any so sn scap L _ HL.out hsm HSC.out).mono ?_
  rintro e w' ⟨he, hw⟩
  obtain rfl := hw.symm
  rcases he with rfl | ⟨rfl, hsh⟩
  · go_wp2
    go_ret
    exact ⟨rfl, Below.refl _ _⟩
  have hsn : sn ≤ 200 := by have := hsh.1; rw [HL.out] at this; exact this
  have HV : Hid (∀ i, i < sn → (L.getD i cl0).ds.length ≤ 200000) := fun i hi => Nat.le_trans (vol_at (by rw [HL.out]; exact hi)) hsh.2
  clear hsh
  have HCP : Hid (∀ w1, w1 = w.alloc (.cells (madeCells #[.int .u8 0] ((n0 + 70) * 1)) 5) → ∃ w2, (Builtin.copy_ #[32, 32] 3 #[.slice (some ⟨w.heap.size, 0, none⟩) n0 (n0 + 70), .slice ao0 n0 cap0]).run Try.prog w1 = .ok (.int .i64 n0) w2 ∧ Sl w2 (some ⟨w.heap.size, 0, none⟩) xs ∧ Kept [w.heap.size] w1 w2 ∧ Below w.heap.size w w1 ∧ w.heap.size < w1.heap.size) := by
    rintro w1 rfl
    rw [Nat.mul_one]
    have hr : (w.alloc (.cells (madeCells #[.int .u8 0] (n0 + 70)) 5)).heap[w.heap.size]? = some (.cells (bys (List.replicate (n0 + 70) 0)).toArray 5 (0, 0)) := by
      rw [heap_alloc_new, ← made_bytes]
    obtain ⟨w2, h1, h2, h3⟩ := copy_given _ w.heap.size (n0 + 70) n0 _ ao0 cap0 xs hr (by simp) HIN.out.len (by omega) (HIN.out.sl.kept ((Kept.refl [] w).alloc _) (by simp))
    exact ⟨w2, h1, h2, h3, (Below.refl _ _).alloc (Nat.le_refl _) _, by simp⟩
  go_wp2_with (at_make; refine wpList_make_cap _ rfl _ _ 32 rfl 5 i0 (.int .u8 0) 1 Try.underlying32 hi hz0 hz1' .i64 .i64 n0 (n0 + 70) _ rfl rfl (by omega) (by omega) (by rw [hz2']; omega) (by omega) ?_; intro w1 hw1; obtain ⟨w2, hcp, hsg, hk12, hb1, hl1⟩ := HCP.out w1 hw1; clear hw1)
  obtain ⟨G, hG⟩ : ∃ G, G = w.heap.size := ⟨_, rfl⟩
  have HG : Hid (w.heap.size ≤ G ∧ G < w2.heap.size) := ⟨by omega, by have := hk12.size; omega⟩
  have HSG : Hid (Sl w2 (some ⟨G, 0, none⟩) xs) := by rw [hG]; exact hsg
  have HB2 : Hid (Below w.heap.size w w2) := hb1.trans (hk12.below hb1.size (by simp))
  rw [← hG]
  clear hG hcp hsg hk12 hb1 hl1 HCP
  refine (read_any (some ⟨G, 0, none⟩) n0 (n0 + 70) xs _ HIN.out.len (by rw [HIN.out.len]; omega) HSG.out (by simp)).mono ?_
  rintro e w3 ⟨rb, ra, rc, rfl, hr1, hr2, hr3, hr4, hk3⟩
  have HRD := (show Hid (_ ∧ _ ∧ _ ∧ _ ∧ _) from ⟨hr1, hr2, hr3, hr4, hk3⟩)
  have HSG3 : Hid (Sl w3 (some ⟨G, 0, none⟩) xs) := HSG.out.kept hk3 (by simp)
  clear hr1 hr2 hr3 hr4 hk3
  go_wp2_with (fail)
  refine (read_any (some ⟨G, 0, none⟩) n0 (n0 + 70) xs _ HIN.out.len (by rw [HIN.out.len]; omega) HSG3.out (by simp)).mono ?_
  rintro e w4 ⟨sb, sa, sc, rfl, hs1, hs2, hs3, hs4, hk4⟩
  have HI0 := (show Hid (_ ∧ _) from own_start HIN.out HG.out HB2.out HSG.out HRD.out.1 HRD.out.2.1 HRD.out.2.2.1 HRD.out.2.2.2.1 HRD.out.2.2.2.2 hs1 hs2 hs3 hs4 hk4)
  clear hs1 hs2 hs3 hs4 hk4 HSG3 HSG HRD HG HB2
  go_wp2
  obtain ⟨cf, hcf⟩ : ∃ cf : Cf, cf = ⟨G, rb, ra, rc, sb, sa, sc, w4.heap.size + 1, w4.heap.size, w4.heap.size + 1 + 1, w4.heap.size + 1 + 1 + 1⟩ := ⟨_, rfl⟩
  have HI : Hid (OwL w ((((w4.alloc (.cells zeroW 31)).alloc (.cells #[.slice ao0 n0 cap0, .int .i64 0, .int .i64 0, .int .i64 0] 60)).alloc (.cells #[.slice none 0 0, .bool false] 63)).alloc (.cells #[.slice none 0 0] 67)) ao0 cap0 xs cf (vr0 w2.heap.size w3.heap.size w4.heap.size) 0) := by
    rw [hcf]
    exact ⟨HI0.out.1, rfl, rfl, rfl, rfl, rfl, Nat.le_refl _, Nat.le_refl _, by simp [vr0], by simp [vr0], by simp [vr0], by omega, HI0.out.2⟩
  have HQ : Hid ((vr0 w2.heap.size w3.heap.size w4.heap.size).lv = .slice none 0 0 ∧ (vr0 w2.heap.size w3.heap.size w4.heap.size).wv = .slice none 0 0 ∧ 0 = (vr0 w2.heap.size w3.heap.size w4.heap.size).cs.length) := ⟨rfl, rfl, rfl⟩
  generalize vr0 w2.heap.size w3.heap.size w4.heap.size = q0 at HI HQ
  generalize (((w4.alloc _).alloc _).alloc _).alloc _ = w5 at HI ⊢
  obtain ⟨b, hb⟩ : ∃ b, b = w4.heap.size := ⟨_, rfl⟩
  obtain ⟨X, hX⟩ : ∃ X, X = b + 1 := ⟨_, rfl⟩
  obtain ⟨x, hx⟩ : ∃ x, x = X + 1 := ⟨_, rfl⟩
  obtain ⟨B, hB⟩ : ∃ B, B = x + 1 := ⟨_, rfl⟩
  rw [← hb, ← hX, ← hx, ← hB] at hcf
  rw [← hb]
  try rw [← hX]
  try rw [← hx]
  try rw [← hB]
  subst hcf
  clear hb hX hx hB HI0 hz1 hz2 hz3 hz4
  go_loopw [12, 13, 14] (fun x1 x2 y wr => ∃ (k : Nat) (q : Vr) (lo wo : Option Addr) (nl lc wc : Nat), k ≤ sn ∧ k ≤ 60 ∧ x1 = .slice lo nl lc ∧ x2 = .slice wo nl wc ∧ y = .int .i64 k ∧ Hid (q.lv = .slice lo nl lc ∧ q.wv = .slice wo nl wc ∧ nl = q.cs.length) ∧ Hid (OwL w wr ao0 cap0 xs ⟨G, rb, ra, rc, sb, sa, sc, X, b, x, B⟩ q k)) (fun x1 x2 y wr => sn - (intOf y).toNat)
  case atStart => exact ⟨0, q0, none, none, 0, 0, 0, Nat.zero_le _, by omega, rfl, rfl, rfl, HQ, HI⟩
  case round =>
    clear HI HQ
    obtain ⟨k, q, lo, wo, nl, lc, wc, hk, hk60, rfl, rfl, rfl, HQ, HF⟩ := hrel
    by_cases hlt : k < sn ∧ k < 60
    · obtain ⟨hlt, hlt60⟩ := hlt
      obtain ⟨sb', soff, hso, hcl⟩ := HSC.out k (by rw [HL.out]; exact hlt)
      have hcl2 := hcl.kept HF.out.below
      have e0 := hcl2.c0
      have e1 := hcl2.c1
      have e2 := hcl2.c2
      have e3 := hcl2.c3
      have hd2 := HV.out k hlt
      have HIN2 : Hid (InB w (L.getD k cl0).da (L.getD k cl0).dn (L.getD k cl0).dc (L.getD k cl0).ds) := hcl.inb
      generalize (L.getD k cl0).kind = kd at e0
      generalize (L.getD k cl0).v = vv at e1
      generalize (L.getD k cl0).width = wd at e2
      generalize (L.getD k cl0).da = da at e3 HIN2
      generalize (L.getD k cl0).dn = dn at e3 HIN2
      generalize (L.getD k cl0).dc = dc at e3 HIN2
      generalize (L.getD k cl0).ds = ds at HIN2 hd2
      rw [Nat.mul_comm] at e0 e1 e2 e3
      subst hso
      clear hcl hcl2
      have HDN : Hid (dn ≤ 200000) := by have := HIN2.out.len; show dn ≤ 200000; omega
      obtain ⟨cb, hcb⟩ : ∃ cb, cb = wr.heap.size := ⟨_, rfl⟩
      have H0 : Hid (OwC (wr.alloc (.cells #[.int .i64 kd, .int .i64 vv, .int .i64 wd, .slice da dn dc] 34)) w.heap.size ao0 cap0 xs ⟨G, rb, ra, rc, sb, sa, sc, X, b, x, B⟩ cb kd vv wd da dn dc { q with ow := claimed wr q.ow 99 }) :=
        ⟨HF.out.ows.fresh ((Kept.refl [] wr).alloc _) 99, by rw [hcb]; exact claimed_new (Nat.le_refl _), by rw [hcb]; simp, by rw [hcb]; simp, by rw [hcb]; simp, by rw [hcb]; simp⟩
      have HB5 : Hid (Below w.heap.size w (wr.alloc (.cells #[.int .i64 kd, .int .i64 vv, .int .i64 wd, .slice da dn dc] 34))) := HF.out.below.alloc HF.out.below.size _
      have HOL : Hid (∀ ys, q.o = some ys → ys.length ≤ 90000000000) := fun ys hy => by
        have h1 := HF.out.len ys hy
        have h2 : k * 200005 ≤ 60 * 200005 := Nat.mul_le_mul_right _ hk60
        omega
      go_wp2_with (fail)
      rw [← hcb]
      generalize wr.alloc _ = w6 at H0 HB5 ⊢
      clear hcb e0 e1 e2 e3
      refine (lput_any (H0.out.ows.pr rfl).1.wd HOL.out kd vv wd da dn dc ds (HIN2.out.kept (B := 0) HB5.out) HDN.out).mono ?_
      rintro e w7 ⟨rfl, hp⟩
      have HP : Hid (LpEnd w6 w7 x w.heap.size q.v (stPut q.o kd vv wd ds)) := hp
      have HB7 : Hid (Below w.heap.size w w7) := by
        obtain ⟨_, _, hk, _⟩ := hp
        exact HB5.out.trans (hk.below HB5.out.size (fun i hi => ((H0.out.ows.pr rfl).1.lts i (mem_pfp.2 (.inr (by simpa using hi)))).1))
      obtain ⟨g0, g1, g2, g3⟩ : w7.cell? ⟨cb, 0, none⟩ = some (.int .i64 kd) ∧ w7.cell? ⟨cb, 1, none⟩ = some (.int .i64 vv) ∧ w7.cell? ⟨cb, 2, none⟩ = some (.int .i64 wd) ∧ w7.cell? ⟨cb, 3, none⟩ = some (.slice da dn dc) := by
        obtain ⟨_, _, hk, _⟩ := hp
        have hn : cb ∉ x :: q.v.ownBlock.toList := fun hm => by
          have h1 := (H0.out.ows.pr rfl).2 cb (mem_pfp.2 (.inr (by simpa using hm)))
          have h2 := H0.out.ocb
          omega
        exact ⟨hk.cellOf H0.out.c0 hn, hk.cellOf H0.out.c1 hn, hk.cellOf H0.out.c2 hn, hk.cellOf H0.out.c3 hn⟩
      clear hp
      have hz1 := Try.zeroDesk0
      go_wp2_with (fail)
      have HB8 : Hid (Below w.heap.size w (w7.alloc (.cells #[.slice none 0 0] 39))) := HB7.out.alloc HB7.out.size _
      refine (lwrite_any (pair_desk (H0.out.ows.pr rfl).1 HP.out) HOL.out kd vv wd da dn dc ds HIN2.out.len HDN.out (HIN2.out.sl.kept (Kept.of_below HB8.out) (by simp)) (fun hne a ha hm => by
        obtain ⟨b', off', e', hb', _⟩ := HIN2.out.sl.open hne
        rw [e'] at ha
        cases ha
        simp only [List.mem_append, mem_dkfp] at hm
        rcases hm with h1 | h1 | h1
        · have := (H0.out.ows.pr rfl).1.ge _ h1; omega
        · have := HB7.out.size; omega
        · cases h1)).mono ?_
      rintro e w8 ⟨rfl, hend⟩
      obtain ⟨fp1, v1, hpair, hkp, hnew⟩ := pair_step2 (H0.out.ows.pr rfl).1 HP.out hend H0.out.ows.size
      have HB9 : Hid (Below w.heap.size w w8) := HB5.out.trans (hkp.below HB5.out.size (fun i hi => ((H0.out.ows.pr rfl).1.lts i hi).1))
      obtain ⟨q1, hq1⟩ : ∃ q1 : Vr, q1 = { ({ q with ow := claimed wr q.ow 99 } : Vr) with ow := claimed w6 (claimed wr q.ow 99) 3, fp := fp1, v := v1, o := stPut q.o kd vv wd ds } := ⟨_, rfl⟩
      have H1 : Hid (OwC w8 w.heap.size ao0 cap0 xs ⟨G, rb, ra, rc, sb, sa, sc, X, b, x, B⟩ cb kd vv wd da dn dc q1) := by
        rw [hq1]
        exact H0.out.next (OwS.pair H0.out.ows hpair hkp hnew) (fun g hg => claimed_old hg) hkp (fun g hg _ => by rw [(H0.out.ows.pr rfl).2 g hg]; decide)
      have HQ1 : Hid (q1.lv = q.lv ∧ q1.ls = q.ls ∧ q1.wv = q.wv ∧ q1.ws = q.ws ∧ q1.nw = q.nw ∧ q1.cs = q.cs ∧ q1.es = q.es ∧ q1.sr = q.sr ∧ q1.ss = q.ss ∧ q1.sx = q.sx ∧ q1.o = stPut q.o kd vv wd ds) := by
        rw [hq1]
        exact ⟨rfl, rfl, rfl, rfl, rfl, rfl, rfl, rfl, rfl, rfl, rfl⟩
      have HOL1 : Hid (∀ ys, q1.o = some ys → ys.length ≤ (k + 1) * 200005) := fun ys hy => by
        rw [HQ1.out.2.2.2.2.2.2.2.2.2.2] at hy
        have := stPut_len hd2 HF.out.len ys hy
        rw [Nat.succ_mul]
        exact this
      have HOL2 : Hid (∀ ys, q1.o = some ys → ys.length ≤ 100000000) := fun ys hy => by
        have h1 := HOL1.out ys hy
        have h2 : (k + 1) * 200005 ≤ 61 * 200005 := Nat.mul_le_mul_right _ (by omega)
        omega
      have c0 := H1.out.c0
      clear hend hpair hkp hnew hq1 HP H0 HB5 HB7 HB8 g0 g1 g2 g3 hz1
      go_wp2_with (fail)
      refine (wdata_ow (H1.out.ows.pr rfl).1.wr (fun ys hy => by have := HOL2.out ys hy; omega)).mono ?_
      rintro e w9 ⟨va, er, rfl, hva, hk9⟩
      obtain ⟨ys, hys⟩ : ∃ ys, ys = q1.o.getD [] := ⟨_, rfl⟩
      have HYS : Hid (ys = q1.o.getD []) := hys
      rw [← hys] at hva
      obtain ⟨ao1, cap1, hsh⟩ := own_shape hva
      subst hsh
      have hyl : ys.length ≤ 100000000 := by
        rw [hys]
        cases ho : q1.o with
        | none => simp
        | some zs => exact HOL2.out zs ho
      have H2 := (show Hid (OwC w9 _ _ _ _ _ _ _ _ _ _ _ _ _) from H1.out.fresh hk9 (100 + q1.es.length))
      have HVA : Hid (w9.ownsRow w.heap.size 5 1 (.slice ao1 ys.length cap1) ys.length (bys ys)) := own_base hva H1.out.ows.size
      have HVO : Hid (∀ g, (Value.slice ao1 ys.length cap1).ownBlock = some g → claimed w8 q1.ow (100 + q1.es.length) g = 100 + q1.es.length) := fun g hg => claimed_new (hva.lt g hg).1
      have HB10 : Hid (Below w.heap.size w w9) := HB9.out.trans (hk9.below HB9.out.size (by simp))
      clear hva hk9 hys HB9 H1
      go_wp2_with (fail)
      refine (wdata_ow (H2.out.ows.pr rfl).1.wr (fun ys hy => by have := HOL2.out ys hy; omega)).mono ?_
      rintro e w10 ⟨vb, er2, rfl, hvb, hk10⟩
      have hvb' : w10.ownsRow w9.heap.size 5 1 vb ys.length (bys ys) := by rw [HYS.out]; exact hvb
      clear hvb
      obtain ⟨ao2, cap2, hsh⟩ := own_shape hvb'
      subst hsh
      have H3 := (show Hid (OwC w10 _ _ _ _ _ _ _ _ _ _ _ _ _) from H2.out.fresh hk10 (2000 + q1.cs.length))
      have HVA3 : Hid (w10.ownsRow w.heap.size 5 1 (.slice ao1 ys.length cap1) ys.length (bys ys)) := Kept.nil_own HVA.out hk10 (by simp)
      have HVO3 : Hid (∀ g, (Value.slice ao1 ys.length cap1).ownBlock = some g → claimed w9 (claimed w8 q1.ow (100 + q1.es.length)) (2000 + q1.cs.length) g = 100 + q1.es.length) := fun g hg => by rw [claimed_old (HVA.out.lt g hg).2]; exact HVO.out g hg
      have HVB : Hid (w10.ownsRow w.heap.size 5 1 (.slice ao2 ys.length cap2) ys.length (bys ys)) := own_base hvb' H2.out.ows.size
      have HVBO : Hid (∀ g, (Value.slice ao2 ys.length cap2).ownBlock = some g → claimed w9 (claimed w8 q1.ow (100 + q1.es.length)) (2000 + q1.cs.length) g = 2000 + q1.cs.length) := fun g hg => claimed_new (hvb'.lt g hg).1
      have HB11 : Hid (Below w.heap.size w w10) := HB10.out.trans (hk10.below HB10.out.size (by simp))
      have HEL : Hid (q1.es.length ≤ 120) := by rw [HQ1.out.2.2.2.2.2.2.1]; have := HF.out.l5; show _ ≤ _; omega
      have HCL : Hid (q1.cs.length ≤ 120) := by rw [HQ1.out.2.2.2.2.2.1]; have := HF.out.l4; show _ ≤ _; omega
      clear hvb' hk10 HVA HVO HB10 H2
      go_wp2_with (fail)
      have hbook := (H3.out.ows.book (fun _ _ => rfl)).1
      refine (bktake_ok hbook.bk (by have := HEL.out; show q1.es.length ≤ 1000; omega) ao1 ys.length cap1 ys HVA3.out (by omega) (fun e => by
        have h1 : claimed w9 (claimed w8 q1.ow (100 + q1.es.length)) (2000 + q1.cs.length) B = 100 + q1.es.length := HVO3.out _ e
        have h2 := hbook.oB
        have h3 : claimed w9 (claimed w8 q1.ow (100 + q1.es.length)) (2000 + q1.cs.length) B = 5 := h2
        omega) (fun g hg e => by
        have h1 := HVO3.out _ hg
        have h3 : claimed w9 (claimed w8 q1.ow (100 + q1.es.length)) (2000 + q1.cs.length) g = 6 := hbook.oR g e
        omega) H3.out.ows.size).mono ?_
      rintro e w11 ⟨rfl, ht⟩
      have hkt : Kept (B :: q1.rv.ownBlock.toList ++ (Value.slice ao1 ys.length cap1).ownBlock.toList) w10 w11 := by obtain ⟨_, _, _, h, _⟩ := ht; exact h
      have hids : ∀ g, g ∈ B :: q1.rv.ownBlock.toList ++ (Value.slice ao1 ys.length cap1).ownBlock.toList → (claimed w9 (claimed w8 q1.ow (100 + q1.es.length)) (2000 + q1.cs.length) g = 5 ∨ claimed w9 (claimed w8 q1.ow (100 + q1.es.length)) (2000 + q1.cs.length) g = 6 ∨ claimed w9 (claimed w8 q1.ow (100 + q1.es.length)) (2000 + q1.cs.length) g = 100 + q1.es.length) ∧ w.heap.size ≤ g := fun g hg => by
        simp only [List.cons_append, List.mem_cons, List.mem_append, Option.mem_toList] at hg
        rcases hg with rfl | hg | hg
        · exact ⟨.inl hbook.oB, (H3.out.ows.book (fun _ _ => rfl)).2⟩
        · exact ⟨.inr (.inl (hbook.oR g hg)), (hbook.bk.own.lt g hg).1⟩
        · exact ⟨.inr (.inr (HVO3.out g hg)), (HVA3.out.lt g hg).1⟩
      obtain ⟨rv4, how4⟩ := OwS.took H3.out.ows HVA3.out HVO3.out (by have := HEL.out; show q1.es.length < 1000; omega) ht
      obtain ⟨q4, hq4⟩ : ∃ q4 : Vr, q4 = { ({ ({ q1 with ow := claimed w8 q1.ow (100 + q1.es.length) } : Vr) with ow := claimed w9 (claimed w8 q1.ow (100 + q1.es.length)) (2000 + q1.cs.length) } : Vr) with ow := claimed w10 (claimed w9 (claimed w8 q1.ow (100 + q1.es.length)) (2000 + q1.cs.length)) 6, rv := rv4, es := q1.es ++ [⟨ao1, ys.length, cap1, ao1, ys.length, cap1, markOf q1.es.length⟩] } := ⟨_, rfl⟩
      have H4 : Hid (OwC w11 w.heap.size ao0 cap0 xs ⟨G, rb, ra, rc, sb, sa, sc, X, b, x, B⟩ cb kd vv wd da dn dc q4) := by
        rw [hq4]
        exact H3.out.next how4 (fun g hg => claimed_old hg) hkt (fun g hg _ => by
          have h1 := (hids g hg).1
          have h2 := HEL.out
          show claimed w9 (claimed w8 q1.ow (100 + q1.es.length)) (2000 + q1.cs.length) g ≠ 99
          omega)
      have HQ4 : Hid (q4.lv = q.lv ∧ q4.ls = q.ls ∧ q4.wv = q.wv ∧ q4.ws = q.ws ∧ q4.nw = q.nw ∧ q4.cs = q.cs ∧ q4.es = q.es ++ [⟨ao1, ys.length, cap1, ao1, ys.length, cap1, markOf q.es.length⟩] ∧ q4.sr = q.sr ∧ q4.ss = q.ss ∧ q4.sx = q.sx ∧ q4.o = q1.o ∧ q4.v = q1.v) := by
        obtain ⟨r1, r2, r3, r4, r5, r6, r7, r8, r9, r10, r11⟩ := HQ1.out
        rw [hq4]
        exact ⟨r1, r2, r3, r4, r5, r6, by show q1.es ++ _ = _; rw [r7], r8, r9, r10, rfl, rfl⟩
      have HVB4 : Hid (w11.ownsRow w.heap.size 5 1 (.slice ao2 ys.length cap2) ys.length (bys ys)) := Kept.nil_own HVB.out hkt (fun g hg hm => by
        have h1 := (hids g hm).1
        have h2 := HVBO.out g hg
        have h3 := HEL.out
        omega)
      have HVBO4 : Hid (∀ g, (Value.slice ao2 ys.length cap2).ownBlock = some g → q4.ow g = 2000 + q.cs.length) := fun g hg => by
        rw [hq4]
        show claimed w10 _ 6 g = _
        rw [claimed_old (HVB.out.lt g hg).2, HVBO.out g hg, HQ1.out.2.2.2.2.2.1]
      have HB12 : Hid (Below w.heap.size w w11) := HB11.out.trans (hkt.below HB11.out.size (fun g hg => (hids g hg).2))
      have hcl : q.cs.length ≤ 120 := by have := HF.out.l4; omega
      have hnl : nl ≤ 120 := by rw [HQ.out.2.2]; exact hcl
      have H5' : Hid (OwC w11 w.heap.size ao0 cap0 xs ⟨G, rb, ra, rc, sb, sa, sc, X, b, x, B⟩ cb kd vv wd da dn dc { q4 with cs := q4.cs ++ [ys] }) := H4.out.told ys (by rw [HQ4.out.2.2.2.2.2.1]; omega)
      obtain ⟨q5, hq5⟩ : ∃ q5 : Vr, q5 = { q4 with cs := q4.cs ++ [ys] } := ⟨_, rfl⟩
      have H5 : Hid (OwC w11 w.heap.size ao0 cap0 xs ⟨G, rb, ra, rc, sb, sa, sc, X, b, x, B⟩ cb kd vv wd da dn dc q5) := by rw [hq5]; exact H5'.out
      have HQ5 : Hid (q5.lv = .slice lo nl lc ∧ q5.ls.length = nl ∧ q5.wv = .slice wo nl wc ∧ q5.ws.length = nl ∧ q5.nw = nl ∧ q5.cs = q.cs ++ [ys] ∧ q5.es = q.es ++ [⟨ao1, ys.length, cap1, ao1, ys.length, cap1, markOf q.es.length⟩] ∧ q5.sr = q5.sx ∧ q5.ss = q5.sx ∧ q5.o = q1.o ∧ q5.sx = q.sx) := by
        obtain ⟨r1, r2, r3, r4, r5, r6, r7, r8, r9, r10, r11, r12⟩ := HQ4.out
        obtain ⟨t1, t2, t3⟩ := HQ.out
        rw [hq5]
        exact ⟨r1.trans t1, by show q4.ls.length = nl; rw [r2, HF.out.l1, ← t3], r3.trans t2, by show q4.ws.length = nl; rw [r4, HF.out.l2, ← t3], by show q4.nw = nl; rw [r5, HF.out.l3, ← t3], by show q4.cs ++ [ys] = _; rw [r6], r7, by show q4.sr = q4.sx; rw [r8, r10]; exact HF.out.e1, by show q4.ss = q4.sx; rw [r9, r10]; exact HF.out.e2, r11, r10⟩
      have HVBO5 : Hid (∀ g, (Value.slice ao2 ys.length cap2).ownBlock = some g → q5.ow g = 2000 + nl) := fun g hg => by rw [hq5, HQ.out.2.2]; exact HVBO4.out g hg
      clear hbook hids hkt ht how4 hq4 H3 HVA3 HVO3 HVB HVBO HB11 HEL HCL H4 H5' hq5 HQ4 HVBO4
      have HLV : Hid (∀ ob, (w11.alloc ob).ownsRow w.heap.size 32 1 (.slice lo nl lc) nl q5.ls) := fun ob => by
        have h2 := (H5.out.ows.left rfl).1
        rw [HQ5.out.2.1, HQ5.out.1] at h2
        exact Kept.nil_own h2 ((Kept.refl [] w11).alloc ob) (by simp)
      have HSZ : Hid (w.heap.size ≤ w11.heap.size) := H5.out.ows.size
      go_wp2_with (at_builtin; refine wpList_append_own_at _ rfl _ _ 68 rfl w.heap.size 32 i1 (.slice none 0 0) 1 24 Try.underlying68 hi1 hy0 hy1 hy2 rfl (by decide) _ _ _ rfl (HLV.out _) ⟨w11.heap.size, 0, none⟩ 1 1 [.slice ao2 ys.length cap2] rfl rfl (one_cells _ _ _ _) (by simp [Value.oneCell']) ?c3 ?c4 ?c5 ?_)
      case c3 => unfold maxLen; omega
      case c4 => omega
      case c5 => have := HSZ.out; simp; omega
      intro v' w12 hown hgrow hnn hat
      obtain ⟨lo6, lc6, hsh⟩ := own_shape hown
      subst hsh
      have hk12 : Kept (Value.slice lo nl lc).ownBlock.toList w11 w12 := ((Kept.refl _ w11).alloc _).grown hgrow (fun g hg _ => by simp [hg])
      have HCJ : Hid (q5.cs.getD nl [] = ys) := by
        show _ = _
        rw [HQ5.out.2.2.2.2.2.1, HQ.out.2.2]
        simp
      have HL6 : Hid (∀ g, g ∈ (Value.slice lo nl lc).ownBlock.toList → q5.ow g = 7 ∧ w.heap.size ≤ g) := fun g hg => by
        have h1 := (H5.out.ows.left rfl).2
        have h2 := (H5.out.ows.left rfl).1
        rw [HQ5.out.1] at h1 h2
        rw [Option.mem_toList] at hg
        exact ⟨h1 g hg, (h2.lt g hg).1⟩
      have H6' : Hid (OwC w12 w.heap.size ao0 cap0 xs ⟨G, rb, ra, rc, sb, sa, sc, X, b, x, B⟩ cb kd vv wd da dn dc { q5 with ow := claimed w11 q5.ow 7, lv := .slice lo6 (nl + 1) lc6, ls := q5.ls ++ [.slice ao2 ys.length cap2] }) := by
        refine H5.out.next (OwS.lapp H5.out.ows (by rw [HQ5.out.2.1]; exact hown) (by rw [HQ5.out.1]; exact hk12) ?_ (by rw [HQ5.out.2.1, HCJ.out]; exact HVB4.out) (by rw [HQ5.out.2.1]; exact HVBO5.out) ?_) (fun g hg => claimed_old hg) hk12 (fun g hg _ => by rw [(HL6.out g hg).1]; decide)
        · rw [HQ5.out.1]
          rcases hat with h1 | h1
          · exact .inl h1
          · exact .inr (fun g hg => by rw [h1] at hg; cases hg; omega)
        · rw [HQ5.out.2.1, HQ5.out.2.2.2.2.2.1, List.length_append, HQ.out.2.2]
          exact Nat.lt_succ_self _
      obtain ⟨q6, hq6⟩ : ∃ q6 : Vr, q6 = { q5 with ow := claimed w11 q5.ow 7, lv := .slice lo6 (nl + 1) lc6, ls := q5.ls ++ [.slice ao2 ys.length cap2] } := ⟨_, rfl⟩
      have H6 : Hid (OwC w12 w.heap.size ao0 cap0 xs ⟨G, rb, ra, rc, sb, sa, sc, X, b, x, B⟩ cb kd vv wd da dn dc q6) := by rw [hq6]; exact H6'.out
      have HQ6 : Hid (q6.lv = .slice lo6 (nl + 1) lc6 ∧ q6.ls.length = nl + 1 ∧ q6.wv = .slice wo nl wc ∧ q6.ws.length = nl ∧ q6.nw = nl ∧ q6.cs = q.cs ++ [ys] ∧ q6.es = q.es ++ [⟨ao1, ys.length, cap1, ao1, ys.length, cap1, markOf q.es.length⟩] ∧ q6.sr = q6.sx ∧ q6.ss = q6.sx ∧ q6.o = q1.o ∧ q6.sx = q.sx) := by
        obtain ⟨r1, r2, r3, r4, r5, r6, r7, r8, r9, r10, r11⟩ := HQ5.out
        rw [hq6]
        exact ⟨rfl, by show (q5.ls ++ _).length = _; rw [List.length_append, r2]; rfl, r3, r4, r5, r6, r7, r8, r9, r10, r11⟩
      have HB13 : Hid (Below w.heap.size w w12) := HB12.out.trans (hk12.below HB12.out.size (fun g hg => (HL6.out g hg).2))
      clear hown hgrow hnn hat hk12 HL6 H6' hq6 H5 HQ5 HVB4 HVBO5 HB12 HLV HSZ HCJ
      have HWV : Hid (∀ ob, (w12.alloc ob).ownsRow w.heap.size 32 1 (.slice wo nl wc) nl q6.ws) := fun ob => by
        have h2 := (H6.out.ows.want rfl).1
        rw [HQ6.out.2.2.2.1, HQ6.out.2.2.1] at h2
        exact Kept.nil_own h2 ((Kept.refl [] w12).alloc ob) (by simp)
      have HSZ : Hid (w.heap.size ≤ w12.heap.size) := H6.out.ows.size
      go_wp2_with (at_builtin; refine wpList_append_own_at _ rfl _ _ 68 rfl w.heap.size 32 i1 (.slice none 0 0) 1 24 Try.underlying68 hi1 hy0 hy1 hy2 rfl (by decide) _ _ _ rfl (HWV.out _) ⟨w12.heap.size, 0, none⟩ 1 1 [.slice none 0 0] rfl rfl (one_cells _ _ _ _) (by simp [Value.oneCell']) ?c3 ?c4 ?c5 ?_)
      case c3 => unfold maxLen; omega
      case c4 => omega
      case c5 => have := HSZ.out; simp; omega
      intro v' w13 hown hgrow hnn hat
      obtain ⟨wo7, wc7, hsh⟩ := own_shape hown
      subst hsh
      have hk13 : Kept (Value.slice wo nl wc).ownBlock.toList w12 w13 := ((Kept.refl _ w12).alloc _).grown hgrow (fun g hg _ => by simp [hg])
      have HL7 : Hid (∀ g, g ∈ (Value.slice wo nl wc).ownBlock.toList → q6.ow g = 8 ∧ w.heap.size ≤ g) := fun g hg => by
        have h1 := (H6.out.ows.want rfl).2
        have h2 := (H6.out.ows.want rfl).1
        rw [HQ6.out.2.2.1] at h1 h2
        rw [Option.mem_toList] at hg
        exact ⟨h1 g hg, (h2.lt g hg).1⟩
      have H7' : Hid (OwC w13 w.heap.size ao0 cap0 xs ⟨G, rb, ra, rc, sb, sa, sc, X, b, x, B⟩ cb kd vv wd da dn dc { q6 with ow := claimed w12 q6.ow 8, wv := .slice wo7 (nl + 1) wc7, ws := q6.ws ++ [.slice none 0 0] }) := by
        refine H6.out.next (OwS.wapp H6.out.ows (by rw [HQ6.out.2.2.2.1]; exact hown) (by rw [HQ6.out.2.2.1]; exact hk13) ?_) (fun g hg => claimed_old hg) hk13 (fun g hg _ => by rw [(HL7.out g hg).1]; decide)
        rw [HQ6.out.2.2.1]
        rcases hat with h1 | h1
        · exact .inl h1
        · exact .inr (fun g hg => by rw [h1] at hg; cases hg; omega)
      obtain ⟨q7, hq7⟩ : ∃ q7 : Vr, q7 = { q6 with ow := claimed w12 q6.ow 8, wv := .slice wo7 (nl + 1) wc7, ws := q6.ws ++ [.slice none 0 0] } := ⟨_, rfl⟩
      have H7 : Hid (OwC w13 w.heap.size ao0 cap0 xs ⟨G, rb, ra, rc, sb, sa, sc, X, b, x, B⟩ cb kd vv wd da dn dc q7) := by rw [hq7]; exact H7'.out
      have HQ7 : Hid (q7.lv = .slice lo6 (nl + 1) lc6 ∧ q7.ls.length = nl + 1 ∧ q7.wv = .slice wo7 (nl + 1) wc7 ∧ q7.ws.length = nl + 1 ∧ q7.nw = nl ∧ q7.cs = q.cs ++ [ys] ∧ q7.es = q.es ++ [⟨ao1, ys.length, cap1, ao1, ys.length, cap1, markOf q.es.length⟩] ∧ q7.sr = q7.sx ∧ q7.ss = q7.sx ∧ q7.o = q1.o ∧ q7.sx = q.sx ∧ q7.ws.getD nl (.slice none 0 0) = .slice none 0 0) := by
        obtain ⟨r1, r2, r3, r4, r5, r6, r7, r8, r9, r10, r11⟩ := HQ6.out
        rw [hq7]
        exact ⟨r1, r2, rfl, by show (q6.ws ++ _).length = _; rw [List.length_append, r4]; rfl, r5, r6, r7, r8, r9, r10, r11, by show (q6.ws ++ [_]).getD nl _ = _; rw [← r4]; simp⟩
      have HB14 : Hid (Below w.heap.size w w13) := HB13.out.trans (hk13.below HB13.out.size (fun g hg => (HL7.out g hg).2))
      clear hown hgrow hnn hat hk13 HL7 H7' hq7 H6 HQ6 HB13 HWV HSZ
      have hyb : w13.cell? ⟨x, 1, none⟩ = some (.bool q7.o.isNone) := (H7.out.ows.pr rfl).1.wd.c1
      have hyd : w13.cell? ⟨x, 0, none⟩ = some q7.v := (H7.out.ows.pr rfl).1.wd.c0
      rw [HQ7.out.2.2.2.2.2.2.2.2.2.1] at hyb
      have hxl : x < w13.heap.size := World.block_lt_of_cell? _ _ hyd
      cases ho : q1.o with
      | none =>
        rw [ho] at hyb
        simp only [Option.isNone_none] at hyb
        have hy0' : ys = [] := by rw [HYS.out, ho]; rfl
        obtain ⟨q9, hq9⟩ : ∃ q9 : Vr, q9 = { q7 with nw := q7.nw + 1 } := ⟨_, rfl⟩
        have H9 : Hid (OwC w13 w.heap.size ao0 cap0 xs ⟨G, rb, ra, rc, sb, sa, sc, X, b, x, B⟩ cb kd vv wd da dn dc q9) := by
          rw [hq9]
          refine ⟨OwS.wok H7.out.ows (by rw [HQ7.out.2.2.2.2.1, HQ7.out.2.2.2.1]; omega) (by rw [HQ7.out.2.2.2.2.1, HQ7.out.2.2.2.2.2.1, List.length_append, HQ.out.2.2]; exact Nat.lt_succ_self _) ?_, H7.out.ocb, H7.out.c0, H7.out.c1, H7.out.c2, H7.out.c3⟩
          rw [HQ7.out.2.2.2.2.1, HQ7.out.2.2.2.2.2.2.2.2.2.2.2]
          have e : q7.cs.getD nl [] = [] := by rw [HQ7.out.2.2.2.2.2.1, HQ.out.2.2, hy0']; simp
          rw [e]
          exact ⟨none, 0, rfl, Sl.nil _ _, by simp⟩
        have HQ9 : Hid (q9.lv = .slice lo6 (nl + 1) lc6 ∧ q9.ls.length = nl + 1 ∧ q9.wv = .slice wo7 (nl + 1) wc7 ∧ q9.ws.length = nl + 1 ∧ q9.nw = nl + 1 ∧ q9.cs = q.cs ++ [ys] ∧ q9.es = q.es ++ [⟨ao1, ys.length, cap1, ao1, ys.length, cap1, markOf q.es.length⟩] ∧ q9.sr = q9.sx ∧ q9.ss = q9.sx ∧ q9.o = q1.o ∧ q9.sx = q.sx) := by
          obtain ⟨r1, r2, r3, r4, r5, r6, r7, r8, r9, r10, r11, r12⟩ := HQ7.out
          rw [hq9]
          exact ⟨r1, r2, r3, r4, by show q7.nw + 1 = _; rw [r5], r6, r7, r8, r9, r10, r11⟩
        obtain ⟨wo8, hwo8⟩ : ∃ wo8 : Option Addr, wo8 = wo7 := ⟨_, rfl⟩
        have HQ9' := HQ9
        clear HQ9
        have HQ9 : Hid (q9.lv = (.slice lo6 (nl + 1) lc6) ∧ q9.ls.length = nl + 1 ∧ q9.wv = (.slice wo8 (nl + 1) wc7) ∧ q9.ws.length = nl + 1 ∧ q9.nw = nl + 1 ∧ q9.cs = q.cs ++ [ys] ∧ q9.es = q.es ++ [⟨ao1, ys.length, cap1, ao1, ys.length, cap1, markOf q.es.length⟩] ∧ q9.sr = q.sx ∧ q9.ss = q.sx ∧ q9.sx = q.sx ∧ q9.o = q1.o) := by
          obtain ⟨r1, r2, r3, r4, r5, r6, r7, r8, r9, r10, r11⟩ := HQ9'.out
          rw [hwo8]
          exact ⟨r1, r2, r3, r4, r5, r6, r7, r8.trans r11, r9.trans r11, r11, r10⟩
        have HB15 : Hid (Below w.heap.size w w13) := HB14.out
        clear hq9 H7 HQ7 HQ9' hyd hxl HB14 hy0'
        by_cases hk3 : kd = 3
        · subst hk3
          have c0 := H9.out.c0
          have c1 := H9.out.c1
          go_wp2_with (fail)
          rw [← hwo8]
          generalize w13 = w15 at H9 HB15 c0 c1 ⊢
          clear hyb hwo8
          refine (takeraw_st (H9.out.ows.rf rfl).1 vv).mono ?_
          rintro e w16 ⟨⟨ad, cd, rfl, hfr⟩, hk16, hrf16⟩
          obtain ⟨rs, hrs⟩ : ∃ rs, rs = (stRaw xs q.sx vv).1 := ⟨_, rfl⟩
          have HRS : Hid ((stRaw xs q.sx vv).1 = rs) := hrs.symm
          have HRL : Hid (rs.length ≤ 200000) := by show _ ≤ _; rw [hrs]; exact Nat.le_trans (stRaw_le xs q.sx vv) (by rw [HIN.out.len]; exact hn0)
          clear hrs
          have e16 : q9.sx = q.sx := HQ9.out.2.2.2.2.2.2.2.2.2.1
          rw [e16, HRS.out] at hfr ⊢
          rw [e16] at hrf16
          obtain ⟨q10, hq10⟩ : ∃ q10 : Vr, q10 = { q9 with ow := claimed w15 q9.ow (3000 + (nl + 1)), sx := (stRaw xs q.sx vv).2 } := ⟨_, rfl⟩
          have H10 : Hid (OwC w16 w.heap.size ao0 cap0 xs ⟨G, rb, ra, rc, sb, sa, sc, X, b, x, B⟩ cb 3 vv wd da dn dc q10) := by
            rw [hq10]
            exact H9.out.next (OwS.xgo H9.out.ows hk16 _ hrf16) (fun g hg => claimed_old hg) hk16 (fun g hg _ => by simp at hg; subst hg; rw [(H9.out.ows.rf rfl).2.1]; decide)
          have HQ10 : Hid (q10.lv = (.slice lo6 (nl + 1) lc6) ∧ q10.ls.length = nl + 1 ∧ q10.wv = (.slice wo8 (nl + 1) wc7) ∧ q10.ws.length = nl + 1 ∧ q10.nw = nl + 1 ∧ q10.cs = q.cs ++ [ys] ∧ q10.es = q.es ++ [⟨ao1, ys.length, cap1, ao1, ys.length, cap1, markOf q.es.length⟩] ∧ q10.sr = q.sx ∧ q10.ss = q.sx ∧ q10.sx = (stRaw xs q.sx vv).2 ∧ q10.o = q1.o) := by
            obtain ⟨r1, r2, r3, r4, r5, r6, r7, r8, r9, r10, r11⟩ := HQ9.out
            rw [hq10]
            exact ⟨r1, r2, r3, r4, r5, r6, r7, r8, r9, rfl, r11⟩
          have HDS : Hid (Sl w16 ad rs ∧ ∀ a', ad = some a' → q10.ow a'.block = 3000 + (nl + 1) ∧ w.heap.size ≤ a'.block ∧ a'.block < w16.heap.size) := ⟨hfr.1, fun a' ha => ⟨by rw [hq10]; exact claimed_new (hfr.2.2.2 a' ha).1, by have := (hfr.2.2.2 a' ha).1; have := H9.out.ows.size; omega, (hfr.2.2.2 a' ha).2.1⟩⟩
          have HB16 : Hid (Below w.heap.size w w16) := HB15.out.trans (hk16.below HB15.out.size (fun g hg => by simp at hg; subst hg; exact (H9.out.ows.rf rfl).2.2))
          have d1 := H10.out.c1
          clear hfr hk16 hrf16 hq10 H9 HQ9 HB15 c0 c1 e16
          go_wp2_with (fail)
          refine (raw_ow (H10.out.ows.r rfl).1 vv).mono ?_
          rintro e w17 ⟨⟨vm, rfl, hvm⟩, hk17, hrd17⟩
          have e17 : q10.sr = q.sx := HQ10.out.2.2.2.2.2.2.2.1
          rw [e17, HRS.out] at hvm
          rw [e17] at hrd17
          obtain ⟨am, cm, hsh⟩ := own_shape hvm
          subst hsh
          obtain ⟨q11, hq11⟩ : ∃ q11 : Vr, q11 = { q10 with ow := claimed w16 q10.ow (100 + (q.es.length + 1)), sr := (stRaw xs q.sx vv).2 } := ⟨_, rfl⟩
          have H11 : Hid (OwC w17 w.heap.size ao0 cap0 xs ⟨G, rb, ra, rc, sb, sa, sc, X, b, x, B⟩ cb 3 vv wd da dn dc q11) := by
            rw [hq11]
            exact H10.out.next (OwS.rgo H10.out.ows hk17 _ hrd17) (fun g hg => claimed_old hg) hk17 (fun g hg _ => by simp at hg; subst hg; rw [(H10.out.ows.r rfl).2.1]; decide)
          have HQ11 : Hid (q11.lv = (.slice lo6 (nl + 1) lc6) ∧ q11.ls.length = nl + 1 ∧ q11.wv = (.slice wo8 (nl + 1) wc7) ∧ q11.ws.length = nl + 1 ∧ q11.nw = nl + 1 ∧ q11.cs = q.cs ++ [ys] ∧ q11.es = q.es ++ [⟨ao1, ys.length, cap1, ao1, ys.length, cap1, markOf q.es.length⟩] ∧ q11.sr = (stRaw xs q.sx vv).2 ∧ q11.ss = q.sx ∧ q11.sx = (stRaw xs q.sx vv).2 ∧ q11.o = q1.o) := by
            obtain ⟨r1, r2, r3, r4, r5, r6, r7, r8, r9, r10, r11⟩ := HQ10.out
            rw [hq11]
            exact ⟨r1, r2, r3, r4, r5, r6, r7, rfl, r9, r10, r11⟩
          have HVM : Hid (w17.ownsRow w.heap.size 5 1 (.slice am rs.length cm) rs.length (bys rs) ∧ ∀ g, (Value.slice am rs.length cm).ownBlock = some g → q11.ow g = 100 + (q.es.length + 1)) := ⟨own_base hvm H10.out.ows.size, fun g hg => by rw [hq11]; exact claimed_new (hvm.lt g hg).1⟩
          have HDS1 : Hid (Sl w17 ad rs ∧ ∀ a', ad = some a' → q11.ow a'.block = 3000 + (nl + 1) ∧ w.heap.size ≤ a'.block ∧ a'.block < w17.heap.size) := by
            refine ⟨HDS.out.1.kept hk17 (fun _ a' ha hm => ?_), fun a' ha => ⟨by rw [hq11]; show claimed _ _ _ _ = _; rw [claimed_old (HDS.out.2 a' ha).2.2]; exact (HDS.out.2 a' ha).1, (HDS.out.2 a' ha).2.1, by have := (HDS.out.2 a' ha).2.2; have := hk17.size; omega⟩⟩
            have h1 := (HDS.out.2 a' ha).1
            have h2 := (H10.out.ows.r rfl).2.1
            simp only [List.mem_singleton] at hm
            rw [hm] at h1
            have h3 : q10.ow rb = 1 := h2
            have h4 : q10.ow rb = 3000 + (nl + 1) := h1
            omega
          have HB17 : Hid (Below w.heap.size w w17) := HB16.out.trans (hk17.below HB16.out.size (fun g hg => by simp at hg; subst hg; exact (H10.out.ows.r rfl).2.2.1))
          have f1 := H11.out.c1
          clear hvm hk17 hrd17 hq11 H10 HQ10 HB16 HDS d1 e17
          go_wp2_with (fail)
          refine (raw_ow (H11.out.ows.s rfl).1 vv).mono ?_
          rintro e w18 ⟨⟨vo, rfl, hvo⟩, hk18, hrd18⟩
          have e18 : q11.ss = q.sx := HQ11.out.2.2.2.2.2.2.2.2.1
          rw [e18, HRS.out] at hvo
          rw [e18] at hrd18
          obtain ⟨an, cn, hsh⟩ := own_shape hvo
          subst hsh
          obtain ⟨q12, hq12⟩ : ∃ q12 : Vr, q12 = { q11 with ow := claimed w17 q11.ow (2000 + (nl + 1)), ss := (stRaw xs q.sx vv).2 } := ⟨_, rfl⟩
          have H12 : Hid (OwC w18 w.heap.size ao0 cap0 xs ⟨G, rb, ra, rc, sb, sa, sc, X, b, x, B⟩ cb 3 vv wd da dn dc q12) := by
            rw [hq12]
            exact H11.out.next (OwS.sgo H11.out.ows hk18 _ hrd18) (fun g hg => claimed_old hg) hk18 (fun g hg _ => by simp at hg; subst hg; rw [(H11.out.ows.s rfl).2.1]; decide)
          have HQ12 : Hid (q12.lv = (.slice lo6 (nl + 1) lc6) ∧ q12.ls.length = nl + 1 ∧ q12.wv = (.slice wo8 (nl + 1) wc7) ∧ q12.ws.length = nl + 1 ∧ q12.nw = nl + 1 ∧ q12.cs = q.cs ++ [ys] ∧ q12.es = q.es ++ [⟨ao1, ys.length, cap1, ao1, ys.length, cap1, markOf q.es.length⟩] ∧ q12.sr = (stRaw xs q.sx vv).2 ∧ q12.ss = (stRaw xs q.sx vv).2 ∧ q12.sx = (stRaw xs q.sx vv).2 ∧ q12.o = q1.o) := by
            obtain ⟨r1, r2, r3, r4, r5, r6, r7, r8, r9, r10, r11⟩ := HQ11.out
            rw [hq12]
            exact ⟨r1, r2, r3, r4, r5, r6, r7, r8, rfl, r10, r11⟩
          have hsb : q11.ow sb = 2 := (H11.out.ows.s rfl).2.1
          have HVM2 : Hid (w18.ownsRow w.heap.size 5 1 (.slice am rs.length cm) rs.length (bys rs) ∧ ∀ g, (Value.slice am rs.length cm).ownBlock = some g → q12.ow g = 100 + (q.es.length + 1)) := ⟨Kept.nil_own HVM.out.1 hk18 (fun g hg hm => by
              have h1 := HVM.out.2 g hg
              simp only [List.mem_singleton] at hm
              have h4 : g = sb := hm
              rw [h4, hsb] at h1
              omega), fun g hg => by rw [hq12]; show claimed _ _ _ _ = _; rw [claimed_old (HVM.out.1.lt g hg).2]; exact HVM.out.2 g hg⟩
          have HVO : Hid (w18.ownsRow w.heap.size 5 1 (.slice an rs.length cn) rs.length (bys rs) ∧ ∀ g, (Value.slice an rs.length cn).ownBlock = some g → q12.ow g = 2000 + (nl + 1)) := ⟨own_base hvo H11.out.ows.size, fun g hg => by rw [hq12]; exact claimed_new (hvo.lt g hg).1⟩
          have HDS2 : Hid (Sl w18 ad rs ∧ ∀ a', ad = some a' → q12.ow a'.block = 3000 + (nl + 1) ∧ w.heap.size ≤ a'.block ∧ a'.block < w18.heap.size) := by
            refine ⟨HDS1.out.1.kept hk18 (fun _ a' ha hm => ?_), fun a' ha => ⟨by rw [hq12]; show claimed _ _ _ _ = _; rw [claimed_old (HDS1.out.2 a' ha).2.2]; exact (HDS1.out.2 a' ha).1, (HDS1.out.2 a' ha).2.1, by have := (HDS1.out.2 a' ha).2.2; have := hk18.size; omega⟩⟩
            have h1 := (HDS1.out.2 a' ha).1
            simp only [List.mem_singleton] at hm
            have h4 : a'.block = sb := hm
            rw [h4, hsb] at h1
            omega
          have HB18 : Hid (Below w.heap.size w w18) := HB17.out.trans (hk18.below HB17.out.size (fun g hg => by simp at hg; subst hg; exact (H11.out.ows.s rfl).2.2.1))
          clear hvo hk18 hrd18 hq12 H11 HQ11 HB17 HDS1 HVM f1 e18 hsb
          go_wp2_with (fail)
          refine (bytes_any am ad rs.length cm rs.length cd rs rs _ rfl rfl (by have := HRL.out; omega) (own_sl2 HVM2.out.1) HDS2.out.1).mono ?_
          rintro e w' ⟨rfl, n19, rfl⟩
          simp only [decide_true]
          go_wp2_with (fail)
          refine (bytes_any an ad rs.length cn rs.length cd rs rs _ rfl rfl (by have := HRL.out; omega) (own_sl2 (Kept.nil_own HVO.out.1 ((Kept.refl [] w18).drewN n19) (by simp))) (HDS2.out.1.kept ((Kept.refl [] w18).drewN n19) (by simp))).mono ?_
          rintro e w' ⟨rfl, n20, rfl⟩
          simp only [decide_true]
          have hk19 : Kept [] w18 ((w18.drewN n19).drewN n20) := ((Kept.refl [] w18).drewN n19).drewN n20
          have H13 : Hid (OwC ((w18.drewN n19).drewN n20) w.heap.size ao0 cap0 xs ⟨G, rb, ra, rc, sb, sa, sc, X, b, x, B⟩ cb 3 vv wd da dn dc q12) := H12.out.quiet hk19
          have HVM3 : Hid (((w18.drewN n19).drewN n20).ownsRow w.heap.size 5 1 (.slice am rs.length cm) rs.length (bys rs)) := Kept.nil_own HVM2.out.1 hk19 (by simp)
          have HVO3 : Hid (((w18.drewN n19).drewN n20).ownsRow w.heap.size 5 1 (.slice an rs.length cn) rs.length (bys rs)) := Kept.nil_own HVO.out.1 hk19 (by simp)
          have HDS3 : Hid (Sl ((w18.drewN n19).drewN n20) ad rs) := HDS2.out.1.kept hk19 (by simp)
          have HB19 : Hid (Below w.heap.size w ((w18.drewN n19).drewN n20)) := HB18.out.trans (hk19.below HB18.out.size (by simp))
          have HMO : Hid (∀ g, (Value.slice am rs.length cm).ownBlock = some g → q12.ow g = 100 + (q.es.length + 1)) := HVM2.out.2
          have HOO : Hid (∀ g, (Value.slice an rs.length cn).ownBlock = some g → q12.ow g = 2000 + (nl + 1)) := HVO.out.2
          have HDO : Hid (∀ a', ad = some a' → q12.ow a'.block = 3000 + (nl + 1) ∧ w.heap.size ≤ a'.block ∧ a'.block < w18.heap.size) := HDS2.out.2
          have hsz19 : w18.heap.size = ((w18.drewN n19).drewN n20).heap.size := rfl
          rw [hsz19] at HDO
          generalize (w18.drewN n19).drewN n20 = w20 at H13 HVM3 HVO3 HDS3 HB19 HDO hk19 ⊢
          clear hk19 hsz19 H12 HVM2 HVO HDS2 HB18
          go_wp2_with (fail)
          have hbook := (H13.out.ows.book (fun _ _ => rfl)).1
          have hel : q12.es.length = q.es.length + 1 := by rw [HQ12.out.2.2.2.2.2.2.1]; simp
          have hel2 : q.es.length ≤ 120 := by have := HF.out.l5; omega
          refine (bktake_ok hbook.bk (by show q12.es.length ≤ 1000; omega) am rs.length cm rs HVM3.out (by have := HRL.out; omega) (fun e => by
            have h1 : q12.ow B = 100 + (q.es.length + 1) := HMO.out _ e
            have h2 : q12.ow B = 5 := hbook.oB
            omega) (fun g hg e => by
            have h1 := HMO.out _ hg
            have h3 : q12.ow g = 6 := hbook.oR g e
            omega) H13.out.ows.size).mono ?_
          rintro e w21 ⟨rfl, ht⟩
          have hkt : Kept (B :: q12.rv.ownBlock.toList ++ (Value.slice am rs.length cm).ownBlock.toList) w20 w21 := by obtain ⟨_, _, _, h, _⟩ := ht; exact h
          have hids : ∀ g, g ∈ B :: q12.rv.ownBlock.toList ++ (Value.slice am rs.length cm).ownBlock.toList → (q12.ow g = 5 ∨ q12.ow g = 6 ∨ q12.ow g = 100 + (q.es.length + 1)) ∧ w.heap.size ≤ g := fun g hg => by
            simp only [List.cons_append, List.mem_cons, List.mem_append, Option.mem_toList] at hg
            rcases hg with rfl | hg | hg
            · exact ⟨.inl hbook.oB, (H13.out.ows.book (fun _ _ => rfl)).2⟩
            · exact ⟨.inr (.inl (hbook.oR g hg)), (hbook.bk.own.lt g hg).1⟩
            · exact ⟨.inr (.inr (HMO.out g hg)), (HVM3.out.lt g hg).1⟩
          obtain ⟨rv13, how13⟩ := OwS.took H13.out.ows HVM3.out (by rw [hel]; exact HMO.out) (by omega) ht
          obtain ⟨q13, hq13⟩ : ∃ q13 : Vr, q13 = { q12 with ow := claimed w20 q12.ow 6, rv := rv13, es := q12.es ++ [⟨am, rs.length, cm, am, rs.length, cm, markOf q12.es.length⟩] } := ⟨_, rfl⟩
          have H14' : Hid (OwC w21 w.heap.size ao0 cap0 xs ⟨G, rb, ra, rc, sb, sa, sc, X, b, x, B⟩ cb 3 vv wd da dn dc q13) := by
            rw [hq13]
            exact H13.out.next how13 (fun g hg => claimed_old hg) hkt (fun g hg _ => by have h1 := (hids g hg).1; omega)
          have HQ13 : Hid (q13.lv = (.slice lo6 (nl + 1) lc6) ∧ q13.ls.length = nl + 1 ∧ q13.wv = (.slice wo8 (nl + 1) wc7) ∧ q13.ws.length = nl + 1 ∧ q13.nw = nl + 1 ∧ q13.cs = q.cs ++ [ys] ∧ q13.es = q.es ++ [⟨ao1, ys.length, cap1, ao1, ys.length, cap1, markOf q.es.length⟩] ++ [⟨am, rs.length, cm, am, rs.length, cm, markOf (q.es.length + 1)⟩] ∧ q13.sr = (stRaw xs q.sx vv).2 ∧ q13.ss = (stRaw xs q.sx vv).2 ∧ q13.sx = (stRaw xs q.sx vv).2 ∧ q13.o = q1.o) := by
            obtain ⟨r1, r2, r3, r4, r5, r6, r7, r8, r9, r10, r11⟩ := HQ12.out
            rw [hq13]
            exact ⟨r1, r2, r3, r4, r5, r6, by show q12.es ++ _ = _; rw [hel, r7], r8, r9, r10, r11⟩
          have HVO4 : Hid (w21.ownsRow w.heap.size 5 1 (.slice an rs.length cn) rs.length (bys rs)) := Kept.nil_own HVO3.out hkt (fun g hg hm => by
            have h1 := (hids g hm).1
            have h2 := HOO.out g hg
            omega)
          have HOO4 : Hid (∀ g, (Value.slice an rs.length cn).ownBlock = some g → q13.ow g = 2000 + (nl + 1)) := fun g hg => by
            rw [hq13]
            show claimed w20 _ 6 g = _
            rw [claimed_old (HVO3.out.lt g hg).2, HOO.out g hg]
          have HDS4 : Hid (Sl w21 ad rs) := HDS3.out.kept hkt (fun _ a' ha hm => by
            have h1 := (hids _ hm).1
            have h2 := (HDO.out a' ha).1
            omega)
          have HDO4 : Hid (∀ a', ad = some a' → q13.ow a'.block = 3000 + (nl + 1) ∧ w.heap.size ≤ a'.block ∧ a'.block < w21.heap.size) := fun a' ha => ⟨by rw [hq13]; show claimed w20 _ 6 _ = _; rw [claimed_old (HDO.out a' ha).2.2]; exact (HDO.out a' ha).1, (HDO.out a' ha).2.1, by have := (HDO.out a' ha).2.2; have := hkt.size; omega⟩
          have HB20 : Hid (Below w.heap.size w w21) := HB19.out.trans (hkt.below HB19.out.size (fun g hg => (hids g hg).2))
          have H14'' := H14'.out.told rs (by rw [HQ13.out.2.2.2.2.2.1, List.length_append]; simp; omega)
          obtain ⟨q14, hq14⟩ : ∃ q14 : Vr, q14 = { q13 with cs := q13.cs ++ [rs] } := ⟨_, rfl⟩
          have H14 : Hid (OwC w21 w.heap.size ao0 cap0 xs ⟨G, rb, ra, rc, sb, sa, sc, X, b, x, B⟩ cb 3 vv wd da dn dc q14) := by rw [hq14]; exact H14''
          have HQ14 : Hid (q14.lv = (.slice lo6 (nl + 1) lc6) ∧ q14.ls.length = nl + 1 ∧ q14.wv = (.slice wo8 (nl + 1) wc7) ∧ q14.ws.length = nl + 1 ∧ q14.nw = nl + 1 ∧ q14.cs = q.cs ++ [ys] ++ [rs] ∧ q14.es = q.es ++ [⟨ao1, ys.length, cap1, ao1, ys.length, cap1, markOf q.es.length⟩] ++ [⟨am, rs.length, cm, am, rs.length, cm, markOf (q.es.length + 1)⟩] ∧ q14.sr = (stRaw xs q.sx vv).2 ∧ q14.ss = (stRaw xs q.sx vv).2 ∧ q14.sx = (stRaw xs q.sx vv).2 ∧ q14.o = q1.o) := by
            obtain ⟨r1, r2, r3, r4, r5, r6, r7, r8, r9, r10, r11⟩ := HQ13.out
            rw [hq14]
            exact ⟨r1, r2, r3, r4, r5, by show q13.cs ++ _ = _; rw [r6], r7, r8, r9, r10, r11⟩
          have HOO5 : Hid (∀ g, (Value.slice an rs.length cn).ownBlock = some g → q14.ow g = 2000 + (nl + 1)) := by rw [hq14]; exact HOO4.out
          have HDO5 : Hid (∀ a', ad = some a' → q14.ow a'.block = 3000 + (nl + 1) ∧ w.heap.size ≤ a'.block ∧ a'.block < w21.heap.size) := by rw [hq14]; exact HDO4.out
          clear hbook hids hkt ht how13 hq13 hq14 H13 H14' H14'' HVM3 HVO3 HDS3 HB19 HMO HOO HDO HOO4 HDO4 HQ12 HQ13 hel
          have HLV : Hid (∀ ob, (w21.alloc ob).ownsRow w.heap.size 32 1 (.slice lo6 (nl + 1) lc6) (nl + 1) q14.ls) := fun ob => by
            have h2 := (H14.out.ows.left rfl).1
            rw [HQ14.out.2.1, HQ14.out.1] at h2
            exact Kept.nil_own h2 ((Kept.refl [] w21).alloc ob) (by simp)
          have HSZ : Hid (w.heap.size ≤ w21.heap.size) := H14.out.ows.size
          go_wp2_with (at_builtin; refine wpList_append_own_at _ rfl _ _ 68 rfl w.heap.size 32 i1 (.slice none 0 0) 1 24 Try.underlying68 hi1 hy0 hy1 hy2 rfl (by decide) _ _ _ rfl (HLV.out _) ⟨w21.heap.size, 0, none⟩ 1 1 [.slice an rs.length cn] rfl rfl (one_cells _ _ _ _) (by simp [Value.oneCell']) ?c3 ?c4 ?c5 ?_)
          case c3 => unfold maxLen; omega
          case c4 => omega
          case c5 => have := HSZ.out; simp; omega
          intro v' w22 hown hgrow hnn hat
          obtain ⟨lo9, lc9, hsh⟩ := own_shape hown
          subst hsh
          have hk22 : Kept (Value.slice lo6 (nl + 1) lc6).ownBlock.toList w21 w22 := ((Kept.refl _ w21).alloc _).grown hgrow (fun g hg _ => by simp [hg])
          have HCJ : Hid (q14.cs.getD (nl + 1) [] = rs ∧ q14.cs.length = nl + 2) := by
            rw [HQ14.out.2.2.2.2.2.1, HQ.out.2.2]
            exact ⟨by simp, by simp⟩
          have HL6 : Hid (∀ g, g ∈ (Value.slice lo6 (nl + 1) lc6).ownBlock.toList → q14.ow g = 7 ∧ w.heap.size ≤ g) := fun g hg => by
            have h1 := (H14.out.ows.left rfl).2
            have h2 := (H14.out.ows.left rfl).1
            rw [HQ14.out.1] at h1 h2
            rw [Option.mem_toList] at hg
            exact ⟨h1 g hg, (h2.lt g hg).1⟩
          obtain ⟨q15, hq15⟩ : ∃ q15 : Vr, q15 = { q14 with ow := claimed w21 q14.ow 7, lv := .slice lo9 (nl + 1 + 1) lc9, ls := q14.ls ++ [.slice an rs.length cn] } := ⟨_, rfl⟩
          have H15 : Hid (OwC w22 w.heap.size ao0 cap0 xs ⟨G, rb, ra, rc, sb, sa, sc, X, b, x, B⟩ cb 3 vv wd da dn dc q15) := by
            rw [hq15]
            refine H14.out.next (OwS.lapp H14.out.ows (by rw [HQ14.out.2.1]; exact hown) (by rw [HQ14.out.1]; exact hk22) ?_ (by rw [HQ14.out.2.1, HCJ.out.1]; exact HVO4.out) (by rw [HQ14.out.2.1]; exact HOO5.out) (by rw [HQ14.out.2.1, HCJ.out.2]; omega)) (fun g hg => claimed_old hg) hk22 (fun g hg _ => by rw [(HL6.out g hg).1]; decide)
            rw [HQ14.out.1]
            rcases hat with h1 | h1
            · exact .inl h1
            · exact .inr (fun g hg => by rw [h1] at hg; cases hg; omega)
          have HQ15 : Hid (q15.lv = (.slice lo9 (nl + 1 + 1) lc9) ∧ q15.ls.length = nl + 1 + 1 ∧ q15.wv = (.slice wo8 (nl + 1) wc7) ∧ q15.ws.length = nl + 1 ∧ q15.nw = nl + 1 ∧ q15.cs = q.cs ++ [ys] ++ [rs] ∧ q15.es = q.es ++ [⟨ao1, ys.length, cap1, ao1, ys.length, cap1, markOf q.es.length⟩] ++ [⟨am, rs.length, cm, am, rs.length, cm, markOf (q.es.length + 1)⟩] ∧ q15.sr = (stRaw xs q.sx vv).2 ∧ q15.ss = (stRaw xs q.sx vv).2 ∧ q15.sx = (stRaw xs q.sx vv).2 ∧ q15.o = q1.o) := by
            obtain ⟨r1, r2, r3, r4, r5, r6, r7, r8, r9, r10, r11⟩ := HQ14.out
            rw [hq15]
            exact ⟨rfl, by show (q14.ls ++ _).length = _; rw [List.length_append, r2]; rfl, r3, r4, r5, r6, r7, r8, r9, r10, r11⟩
          have HDS5 : Hid (Sl w22 ad rs) := HDS4.out.kept hk22 (fun _ a' ha hm => by
            have h1 := (HL6.out _ hm).1
            have h2 := (HDO5.out a' ha).1
            omega)
          have HDO6 : Hid (∀ a', ad = some a' → q15.ow a'.block = 3000 + (nl + 1) ∧ w.heap.size ≤ a'.block ∧ a'.block < w22.heap.size) := fun a' ha => ⟨by rw [hq15]; show claimed w21 _ 7 _ = _; rw [claimed_old (HDO5.out a' ha).2.2]; exact (HDO5.out a' ha).1, (HDO5.out a' ha).2.1, by have := (HDO5.out a' ha).2.2; have := hk22.size; omega⟩
          have HB21 : Hid (Below w.heap.size w w22) := HB20.out.trans (hk22.below HB20.out.size (fun g hg => (HL6.out g hg).2))
          clear hown hgrow hnn hat hk22 HL6 hq15 H14 HQ14 HVO4 HOO5 HB20 HLV HSZ HDS4 HDO5
          have HWV : Hid (∀ ob, (w22.alloc ob).ownsRow w.heap.size 32 1 (.slice wo8 (nl + 1) wc7) (nl + 1) q15.ws) := fun ob => by
            have h2 := (H15.out.ows.want rfl).1
            rw [HQ15.out.2.2.2.1, HQ15.out.2.2.1] at h2
            exact Kept.nil_own h2 ((Kept.refl [] w22).alloc ob) (by simp)
          have HSZ : Hid (w.heap.size ≤ w22.heap.size) := H15.out.ows.size
          go_wp2_with (at_builtin; refine wpList_append_own_at _ rfl _ _ 68 rfl w.heap.size 32 i1 (.slice none 0 0) 1 24 Try.underlying68 hi1 hy0 hy1 hy2 rfl (by decide) _ _ _ rfl (HWV.out _) ⟨w22.heap.size, 0, none⟩ 1 1 [.slice ad rs.length cd] rfl rfl (one_cells _ _ _ _) (by simp [Value.oneCell']) ?c3 ?c4 ?c5 ?_)
          case c3 => unfold maxLen; omega
          case c4 => omega
          case c5 => have := HSZ.out; simp; omega
          intro v' w23 hown hgrow hnn hat
          obtain ⟨wo9, wc9, hsh⟩ := own_shape hown
          subst hsh
          have hk23 : Kept (Value.slice wo8 (nl + 1) wc7).ownBlock.toList w22 w23 := ((Kept.refl _ w22).alloc _).grown hgrow (fun g hg _ => by simp [hg])
          have HL7 : Hid (∀ g, g ∈ (Value.slice wo8 (nl + 1) wc7).ownBlock.toList → q15.ow g = 8 ∧ w.heap.size ≤ g) := fun g hg => by
            have h1 := (H15.out.ows.want rfl).2
            have h2 := (H15.out.ows.want rfl).1
            rw [HQ15.out.2.2.1] at h1 h2
            rw [Option.mem_toList] at hg
            exact ⟨h1 g hg, (h2.lt g hg).1⟩
          have H16 : Hid (OwC w23 w.heap.size ao0 cap0 xs ⟨G, rb, ra, rc, sb, sa, sc, X, b, x, B⟩ cb 3 vv wd da dn dc { q15 with ow := claimed w22 q15.ow 8, wv := .slice wo9 (nl + 1 + 1) wc9, ws := q15.ws ++ [.slice ad rs.length cd] }) := by
            refine H15.out.next (OwS.wapp H15.out.ows (by rw [HQ15.out.2.2.2.1]; exact hown) (by rw [HQ15.out.2.2.1]; exact hk23) ?_) (fun g hg => claimed_old hg) hk23 (fun g hg _ => by rw [(HL7.out g hg).1]; decide)
            rw [HQ15.out.2.2.1]
            rcases hat with h1 | h1
            · exact .inl h1
            · exact .inr (fun g hg => by rw [h1] at hg; cases hg; omega)
          obtain ⟨q16, hq16⟩ : ∃ q16 : Vr, q16 = { ({ q15 with ow := claimed w22 q15.ow 8, wv := .slice wo9 (nl + 1 + 1) wc9, ws := q15.ws ++ [.slice ad rs.length cd] } : Vr) with nw := q15.nw + 1 } := ⟨_, rfl⟩
          have H17 : Hid (OwC w23 w.heap.size ao0 cap0 xs ⟨G, rb, ra, rc, sb, sa, sc, X, b, x, B⟩ cb 3 vv wd da dn dc q16) := by
            rw [hq16]
            refine ⟨OwS.wok H16.out.ows ?_ ?_ ?_, H16.out.ocb, H16.out.c0, H16.out.c1, H16.out.c2, H16.out.c3⟩
            · show q15.nw < (q15.ws ++ [_]).length
              rw [List.length_append, HQ15.out.2.2.2.2.1, HQ15.out.2.2.2.1]
              exact Nat.lt_succ_self _
            · show q15.nw < q15.cs.length
              rw [HQ15.out.2.2.2.2.1, HQ15.out.2.2.2.2.2.1, HQ.out.2.2]
              simp
            · show WantIt _ _ (claimed w22 q15.ow 8) q15.nw ((q15.ws ++ [_]).getD q15.nw (.slice none 0 0)) (q15.cs.getD q15.nw [])
              have e1 : (q15.ws ++ [Value.slice ad rs.length cd]).getD (nl + 1) (.slice none 0 0) = .slice ad rs.length cd := by rw [← HQ15.out.2.2.2.1]; simp
              have e2 : q15.cs.getD (nl + 1) [] = rs := by rw [HQ15.out.2.2.2.2.2.1, HQ.out.2.2]; simp
              rw [HQ15.out.2.2.2.2.1, e1, e2]
              refine ⟨ad, cd, rfl, HDS5.out.kept hk23 (fun _ a' ha hm => ?_), fun a' ha => ⟨?_, (HDO6.out a' ha).2.1, ?_⟩⟩
              · have h1 := (HL7.out _ hm).1
                have h2 := (HDO6.out a' ha).1
                omega
              · rw [claimed_old (HDO6.out a' ha).2.2]
                exact (HDO6.out a' ha).1
              · have := (HDO6.out a' ha).2.2
                have := hk23.size
                omega
          have HQ16 : Hid (q16.lv = (.slice lo9 (nl + 1 + 1) lc9) ∧ q16.ls.length = nl + 1 + 1 ∧ q16.wv = (.slice wo9 (nl + 1 + 1) wc9) ∧ q16.ws.length = nl + 1 + 1 ∧ q16.nw = nl + 1 + 1 ∧ q16.cs = q.cs ++ [ys] ++ [rs] ∧ q16.es = q.es ++ [⟨ao1, ys.length, cap1, ao1, ys.length, cap1, markOf q.es.length⟩] ++ [⟨am, rs.length, cm, am, rs.length, cm, markOf (q.es.length + 1)⟩] ∧ q16.sr = (stRaw xs q.sx vv).2 ∧ q16.ss = (stRaw xs q.sx vv).2 ∧ q16.sx = (stRaw xs q.sx vv).2 ∧ q16.o = q1.o) := by
            obtain ⟨r1, r2, r3, r4, r5, r6, r7, r8, r9, r10, r11⟩ := HQ15.out
            rw [hq16]
            exact ⟨r1, r2, rfl, by show (q15.ws ++ _).length = _; rw [List.length_append, r4]; rfl, by show q15.nw + 1 = _; rw [r5], r6, r7, r8, r9, r10, r11⟩
          have HB22 : Hid (Below w.heap.size w w23) := HB21.out.trans (hk23.below HB21.out.size (fun g hg => (HL7.out g hg).2))
          have HFIN : Hid (OwL w w23 ao0 cap0 xs ⟨G, rb, ra, rc, sb, sa, sc, X, b, x, B⟩ q16 (k + 1)) := by
            obtain ⟨r1, r2, r3, r4, r5, r6, r7, r8, r9, r10, r11⟩ := HQ16.out
            have hcn : q16.cs.length = nl + 1 + 1 := by rw [r6, HQ.out.2.2]; simp
            have hl4 := HF.out.l4
            have hl5 := HF.out.l5
            have hnc := HQ.out.2.2
            refine ⟨H17.out.ows, by rw [r8, r10], by rw [r9, r10], by rw [r2, hcn], by rw [r4, hcn], by rw [r5, hcn], by omega, by rw [r7]; simp; omega, by rw [r11]; exact HOL1.out, fun j hj => ?_, fun j hj => ?_, by omega, HB22.out⟩
            · rw [r6]
              exact getD_two HF.out.m1 hyl (by have := HRL.out; omega) j
            · rw [r7]
              exact getD_two2 HF.out.m2 hyl (by have := HRL.out; show rs.length ≤ _; omega) j
          clear hown hgrow hnn hat hk23 HL7 hq16 H15 H16 H17 HQ15 HB21 HB22 HWV HSZ HDS5 HDO6 HCJ HRS HRL
          have HLW : Hid (q16.lv = .slice lo9 (nl + 1 + 1) lc9 ∧ q16.wv = .slice wo9 (nl + 1 + 1) wc9 ∧ nl + 1 + 1 = q16.cs.length) := ⟨HQ16.out.1, HQ16.out.2.2.1, by rw [HQ16.out.2.2.2.2.2.1, HQ.out.2.2]; simp⟩
          clear HQ16
          go_wp2_with (fail)
          refine (lwrote_any (HFIN.out.ows.pr rfl).1.wr (HFIN.out.ows.pr rfl).1.wd HFIN.out.short).mono ?_
          rintro e w30 ⟨rfl, hk30⟩
          have HFI1 : Hid (OwL w w30 ao0 cap0 xs ⟨G, rb, ra, rc, sb, sa, sc, X, b, x, B⟩ q16 (k + 1)) := HFIN.out.quiet hk30
          clear hk30 HFIN
          go_wp2_with (fail)
          refine (bkstill_ok (HFI1.out.ows.book (fun _ _ => rfl)).1.bk (by have := HFI1.out.l5; omega) (fun i hi' => ((HFI1.out.ows.book (fun _ _ => rfl)).1.en i hi').toR (Nat.le_trans (HFI1.out.m2 i hi') (by omega)))).mono ?_
          rintro e w31 ⟨rfl, hk31⟩
          have HFI2 : Hid (OwL w w31 ao0 cap0 xs ⟨G, rb, ra, rc, sb, sa, sc, X, b, x, B⟩ q16 (k + 1)) := HFI1.out.quiet hk31
          clear hk31 HFI1
          go_wp2_with (fail)
          refine (bytes_any (some ⟨G, 0, none⟩) ao0 n0 (n0 + 70) n0 cap0 xs xs _ HIN.out.len HIN.out.len (by omega) (HFI2.out.ows.given rfl).1 (HIN.out.sl.kept (Kept.of_below HFI2.out.below) (by simp))).mono ?_
          rintro e w' ⟨rfl, n32, rfl⟩
          simp only [decide_true]
          have HFI3 : Hid (OwL w (w31.drewN n32) ao0 cap0 xs ⟨G, rb, ra, rc, sb, sa, sc, X, b, x, B⟩ q16 (k + 1)) := HFI2.out.quiet ((Kept.refl [] w31).drewN n32)
          clear HFI2
          go_wp2
          go_roundw
          case rel => exact ⟨k + 1, q16, lo9, wo9, nl + 1 + 1, lc9, wc9, by omega, by omega, rfl, rfl, by go_num, HLW, HFI3⟩
          case measure => simp [intOf]; omega
        by_cases hk4 : kd = 4
        · subst hk4
          clear hk3
          have c0 := H9.out.c0
          have c1 := H9.out.c1
          go_wp2_with (fail)
          rw [← hwo8]
          generalize w13 = w15 at H9 HB15 c0 c1 ⊢
          clear hyb hwo8
          refine (taketext_st (H9.out.ows.rf rfl).1 vv).mono ?_
          rintro e w16 ⟨⟨ad, cd, rfl, hfr⟩, hk16, hrf16⟩
          obtain ⟨rs, hrs⟩ : ∃ rs, rs = (stText xs q.sx vv).1 := ⟨_, rfl⟩
          have HRS : Hid ((stText xs q.sx vv).1 = rs) := hrs.symm
          have HRL : Hid (rs.length ≤ 200000) := by show _ ≤ _; rw [hrs]; exact Nat.le_trans (stText_le xs q.sx vv) (by rw [HIN.out.len]; exact hn0)
          clear hrs
          have e16 : q9.sx = q.sx := HQ9.out.2.2.2.2.2.2.2.2.2.1
          rw [e16, HRS.out] at hfr ⊢
          rw [e16] at hrf16
          obtain ⟨q10, hq10⟩ : ∃ q10 : Vr, q10 = { q9 with ow := claimed w15 q9.ow (3000 + (nl + 1)), sx := (stText xs q.sx vv).2 } := ⟨_, rfl⟩
          have H10 : Hid (OwC w16 w.heap.size ao0 cap0 xs ⟨G, rb, ra, rc, sb, sa, sc, X, b, x, B⟩ cb 4 vv wd da dn dc q10) := by
            rw [hq10]
            exact H9.out.next (OwS.xgo H9.out.ows hk16 _ hrf16) (fun g hg => claimed_old hg) hk16 (fun g hg _ => by simp at hg; subst hg; rw [(H9.out.ows.rf rfl).2.1]; decide)
          have HQ10 : Hid (q10.lv = (.slice lo6 (nl + 1) lc6) ∧ q10.ls.length = nl + 1 ∧ q10.wv = (.slice wo8 (nl + 1) wc7) ∧ q10.ws.length = nl + 1 ∧ q10.nw = nl + 1 ∧ q10.cs = q.cs ++ [ys] ∧ q10.es = q.es ++ [⟨ao1, ys.length, cap1, ao1, ys.length, cap1, markOf q.es.length⟩] ∧ q10.sr = q.sx ∧ q10.ss = q.sx ∧ q10.sx = (stText xs q.sx vv).2 ∧ q10.o = q1.o) := by
            obtain ⟨r1, r2, r3, r4, r5, r6, r7, r8, r9, r10, r11⟩ := HQ9.out
            rw [hq10]
            exact ⟨r1, r2, r3, r4, r5, r6, r7, r8, r9, rfl, r11⟩
          have HDS : Hid (Sl w16 ad rs ∧ ∀ a', ad = some a' → q10.ow a'.block = 3000 + (nl + 1) ∧ w.heap.size ≤ a'.block ∧ a'.block < w16.heap.size) := ⟨hfr.1, fun a' ha => ⟨by rw [hq10]; exact claimed_new (hfr.2.2.2 a' ha).1, by have := (hfr.2.2.2 a' ha).1; have := H9.out.ows.size; omega, (hfr.2.2.2 a' ha).2.1⟩⟩
          have HB16 : Hid (Below w.heap.size w w16) := HB15.out.trans (hk16.below HB15.out.size (fun g hg => by simp at hg; subst hg; exact (H9.out.ows.rf rfl).2.2))
          have d1 := H10.out.c1
          clear hfr hk16 hrf16 hq10 H9 HQ9 HB15 c0 c1 e16
          go_wp2_with (fail)
          refine (text_ow (H10.out.ows.r rfl).1 vv).mono ?_
          rintro e w17 ⟨⟨vm, rfl, hvm⟩, hk17, hrd17⟩
          have e17 : q10.sr = q.sx := HQ10.out.2.2.2.2.2.2.2.1
          rw [e17, HRS.out] at hvm
          rw [e17] at hrd17
          obtain ⟨am, cm, hsh⟩ := own_shape hvm
          subst hsh
          obtain ⟨q11, hq11⟩ : ∃ q11 : Vr, q11 = { q10 with ow := claimed w16 q10.ow (100 + (q.es.length + 1)), sr := (stText xs q.sx vv).2 } := ⟨_, rfl⟩
          have H11 : Hid (OwC w17 w.heap.size ao0 cap0 xs ⟨G, rb, ra, rc, sb, sa, sc, X, b, x, B⟩ cb 4 vv wd da dn dc q11) := by
            rw [hq11]
            exact H10.out.next (OwS.rgo H10.out.ows hk17 _ hrd17) (fun g hg => claimed_old hg) hk17 (fun g hg _ => by simp at hg; subst hg; rw [(H10.out.ows.r rfl).2.1]; decide)
          have HQ11 : Hid (q11.lv = (.slice lo6 (nl + 1) lc6) ∧ q11.ls.length = nl + 1 ∧ q11.wv = (.slice wo8 (nl + 1) wc7) ∧ q11.ws.length = nl + 1 ∧ q11.nw = nl + 1 ∧ q11.cs = q.cs ++ [ys] ∧ q11.es = q.es ++ [⟨ao1, ys.length, cap1, ao1, ys.length, cap1, markOf q.es.length⟩] ∧ q11.sr = (stText xs q.sx vv).2 ∧ q11.ss = q.sx ∧ q11.sx = (stText xs q.sx vv).2 ∧ q11.o = q1.o) := by
            obtain ⟨r1, r2, r3, r4, r5, r6, r7, r8, r9, r10, r11⟩ := HQ10.out
            rw [hq11]
            exact ⟨r1, r2, r3, r4, r5, r6, r7, rfl, r9, r10, r11⟩
          have HVM : Hid (w17.ownsRow w.heap.size 5 1 (.slice am rs.length cm) rs.length (bys rs) ∧ ∀ g, (Value.slice am rs.length cm).ownBlock = some g → q11.ow g = 100 + (q.es.length + 1)) := ⟨own_base hvm H10.out.ows.size, fun g hg => by rw [hq11]; exact claimed_new (hvm.lt g hg).1⟩
          have HDS1 : Hid (Sl w17 ad rs ∧ ∀ a', ad = some a' → q11.ow a'.block = 3000 + (nl + 1) ∧ w.heap.size ≤ a'.block ∧ a'.block < w17.heap.size) := by
            refine ⟨HDS.out.1.kept hk17 (fun _ a' ha hm => ?_), fun a' ha => ⟨by rw [hq11]; show claimed _ _ _ _ = _; rw [claimed_old (HDS.out.2 a' ha).2.2]; exact (HDS.out.2 a' ha).1, (HDS.out.2 a' ha).2.1, by have := (HDS.out.2 a' ha).2.2; have := hk17.size; omega⟩⟩
            have h1 := (HDS.out.2 a' ha).1
            have h2 := (H10.out.ows.r rfl).2.1
            simp only [List.mem_singleton] at hm
            rw [hm] at h1
            have h3 : q10.ow rb = 1 := h2
            have h4 : q10.ow rb = 3000 + (nl + 1) := h1
            omega
          have HB17 : Hid (Below w.heap.size w w17) := HB16.out.trans (hk17.below HB16.out.size (fun g hg => by simp at hg; subst hg; exact (H10.out.ows.r rfl).2.2.1))
          have f1 := H11.out.c1
          clear hvm hk17 hrd17 hq11 H10 HQ10 HB16 HDS d1 e17
          go_wp2_with (fail)
          refine (text_ow (H11.out.ows.s rfl).1 vv).mono ?_
          rintro e w18 ⟨⟨vo, rfl, hvo⟩, hk18, hrd18⟩
          have e18 : q11.ss = q.sx := HQ11.out.2.2.2.2.2.2.2.2.1
          rw [e18, HRS.out] at hvo
          rw [e18] at hrd18
          obtain ⟨an, cn, hsh⟩ := own_shape hvo
          subst hsh
          obtain ⟨q12, hq12⟩ : ∃ q12 : Vr, q12 = { q11 with ow := claimed w17 q11.ow (2000 + (nl + 1)), ss := (stText xs q.sx vv).2 } := ⟨_, rfl⟩
          have H12 : Hid (OwC w18 w.heap.size ao0 cap0 xs ⟨G, rb, ra, rc, sb, sa, sc, X, b, x, B⟩ cb 4 vv wd da dn dc q12) := by
            rw [hq12]
            exact H11.out.next (OwS.sgo H11.out.ows hk18 _ hrd18) (fun g hg => claimed_old hg) hk18 (fun g hg _ => by simp at hg; subst hg; rw [(H11.out.ows.s rfl).2.1]; decide)
          have HQ12 : Hid (q12.lv = (.slice lo6 (nl + 1) lc6) ∧ q12.ls.length = nl + 1 ∧ q12.wv = (.slice wo8 (nl + 1) wc7) ∧ q12.ws.length = nl + 1 ∧ q12.nw = nl + 1 ∧ q12.cs = q.cs ++ [ys] ∧ q12.es = q.es ++ [⟨ao1, ys.length, cap1, ao1, ys.length, cap1, markOf q.es.length⟩] ∧ q12.sr = (stText xs q.sx vv).2 ∧ q12.ss = (stText xs q.sx vv).2 ∧ q12.sx = (stText xs q.sx vv).2 ∧ q12.o = q1.o) := by
            obtain ⟨r1, r2, r3, r4, r5, r6, r7, r8, r9, r10, r11⟩ := HQ11.out
            rw [hq12]
            exact ⟨r1, r2, r3, r4, r5, r6, r7, r8, rfl, r10, r11⟩
          have hsb : q11.ow sb = 2 := (H11.out.ows.s rfl).2.1
          have HVM2 : Hid (w18.ownsRow w.heap.size 5 1 (.slice am rs.length cm) rs.length (bys rs) ∧ ∀ g, (Value.slice am rs.length cm).ownBlock = some g → q12.ow g = 100 + (q.es.length + 1)) := ⟨Kept.nil_own HVM.out.1 hk18 (fun g hg hm => by
              have h1 := HVM.out.2 g hg
              simp only [List.mem_singleton] at hm
              have h4 : g = sb := hm
              rw [h4, hsb] at h1
              omega), fun g hg => by rw [hq12]; show claimed _ _ _ _ = _; rw [claimed_old (HVM.out.1.lt g hg).2]; exact HVM.out.2 g hg⟩
          have HVO : Hid (w18.ownsRow w.heap.size 5 1 (.slice an rs.length cn) rs.length (bys rs) ∧ ∀ g, (Value.slice an rs.length cn).ownBlock = some g → q12.ow g = 2000 + (nl + 1)) := ⟨own_base hvo H11.out.ows.size, fun g hg => by rw [hq12]; exact claimed_new (hvo.lt g hg).1⟩
          have HDS2 : Hid (Sl w18 ad rs ∧ ∀ a', ad = some a' → q12.ow a'.block = 3000 + (nl + 1) ∧ w.heap.size ≤ a'.block ∧ a'.block < w18.heap.size) := by
            refine ⟨HDS1.out.1.kept hk18 (fun _ a' ha hm => ?_), fun a' ha => ⟨by rw [hq12]; show claimed _ _ _ _ = _; rw [claimed_old (HDS1.out.2 a' ha).2.2]; exact (HDS1.out.2 a' ha).1, (HDS1.out.2 a' ha).2.1, by have := (HDS1.out.2 a' ha).2.2; have := hk18.size; omega⟩⟩
            have h1 := (HDS1.out.2 a' ha).1
            simp only [List.mem_singleton] at hm
            have h4 : a'.block = sb := hm
            rw [h4, hsb] at h1
            omega
          have HB18 : Hid (Below w.heap.size w w18) := HB17.out.trans (hk18.below HB17.out.size (fun g hg => by simp at hg; subst hg; exact (H11.out.ows.s rfl).2.2.1))
          clear hvo hk18 hrd18 hq12 H11 HQ11 HB17 HDS1 HVM f1 e18 hsb
          go_wp2_with (fail)
          refine (bytes_any am ad rs.length cm rs.length cd rs rs _ rfl rfl (by have := HRL.out; omega) (own_sl2 HVM2.out.1) HDS2.out.1).mono ?_
          rintro e w' ⟨rfl, n19, rfl⟩
          simp only [decide_true]
          go_wp2_with (fail)
          refine (bytes_any an ad rs.length cn rs.length cd rs rs _ rfl rfl (by have := HRL.out; omega) (own_sl2 (Kept.nil_own HVO.out.1 ((Kept.refl [] w18).drewN n19) (by simp))) (HDS2.out.1.kept ((Kept.refl [] w18).drewN n19) (by simp))).mono ?_
          rintro e w' ⟨rfl, n20, rfl⟩
          simp only [decide_true]
          have hk19 : Kept [] w18 ((w18.drewN n19).drewN n20) := ((Kept.refl [] w18).drewN n19).drewN n20
          have H13 : Hid (OwC ((w18.drewN n19).drewN n20) w.heap.size ao0 cap0 xs ⟨G, rb, ra, rc, sb, sa, sc, X, b, x, B⟩ cb 4 vv wd da dn dc q12) := H12.out.quiet hk19
          have HVM3 : Hid (((w18.drewN n19).drewN n20).ownsRow w.heap.size 5 1 (.slice am rs.length cm) rs.length (bys rs)) := Kept.nil_own HVM2.out.1 hk19 (by simp)
          have HVO3 : Hid (((w18.drewN n19).drewN n20).ownsRow w.heap.size 5 1 (.slice an rs.length cn) rs.length (bys rs)) := Kept.nil_own HVO.out.1 hk19 (by simp)
          have HDS3 : Hid (Sl ((w18.drewN n19).drewN n20) ad rs) := HDS2.out.1.kept hk19 (by simp)
          have HB19 : Hid (Below w.heap.size w ((w18.drewN n19).drewN n20)) := HB18.out.trans (hk19.below HB18.out.size (by simp))
          have HMO : Hid (∀ g, (Value.slice am rs.length cm).ownBlock = some g → q12.ow g = 100 + (q.es.length + 1)) := HVM2.out.2
          have HOO : Hid (∀ g, (Value.slice an rs.length cn).ownBlock = some g → q12.ow g = 2000 + (nl + 1)) := HVO.out.2
          have HDO : Hid (∀ a', ad = some a' → q12.ow a'.block = 3000 + (nl + 1) ∧ w.heap.size ≤ a'.block ∧ a'.block < w18.heap.size) := HDS2.out.2
          have hsz19 : w18.heap.size = ((w18.drewN n19).drewN n20).heap.size := rfl
          rw [hsz19] at HDO
          generalize (w18.drewN n19).drewN n20 = w20 at H13 HVM3 HVO3 HDS3 HB19 HDO hk19 ⊢
          clear hk19 hsz19 H12 HVM2 HVO HDS2 HB18
          go_wp2_with (fail)
          have hbook := (H13.out.ows.book (fun _ _ => rfl)).1
          have hel : q12.es.length = q.es.length + 1 := by rw [HQ12.out.2.2.2.2.2.2.1]; simp
          have hel2 : q.es.length ≤ 120 := by have := HF.out.l5; omega
          refine (bktake_ok hbook.bk (by show q12.es.length ≤ 1000; omega) am rs.length cm rs HVM3.out (by have := HRL.out; omega) (fun e => by
            have h1 : q12.ow B = 100 + (q.es.length + 1) := HMO.out _ e
            have h2 : q12.ow B = 5 := hbook.oB
            omega) (fun g hg e => by
            have h1 := HMO.out _ hg
            have h3 : q12.ow g = 6 := hbook.oR g e
            omega) H13.out.ows.size).mono ?_
          rintro e w21 ⟨rfl, ht⟩
          have hkt : Kept (B :: q12.rv.ownBlock.toList ++ (Value.slice am rs.length cm).ownBlock.toList) w20 w21 := by obtain ⟨_, _, _, h, _⟩ := ht; exact h
          have hids : ∀ g, g ∈ B :: q12.rv.ownBlock.toList ++ (Value.slice am rs.length cm).ownBlock.toList → (q12.ow g = 5 ∨ q12.ow g = 6 ∨ q12.ow g = 100 + (q.es.length + 1)) ∧ w.heap.size ≤ g := fun g hg => by
            simp only [List.cons_append, List.mem_cons, List.mem_append, Option.mem_toList] at hg
            rcases hg with rfl | hg | hg
            · exact ⟨.inl hbook.oB, (H13.out.ows.book (fun _ _ => rfl)).2⟩
            · exact ⟨.inr (.inl (hbook.oR g hg)), (hbook.bk.own.lt g hg).1⟩
            · exact ⟨.inr (.inr (HMO.out g hg)), (HVM3.out.lt g hg).1⟩
          obtain ⟨rv13, how13⟩ := OwS.took H13.out.ows HVM3.out (by rw [hel]; exact HMO.out) (by omega) ht
          obtain ⟨q13, hq13⟩ : ∃ q13 : Vr, q13 = { q12 with ow := claimed w20 q12.ow 6, rv := rv13, es := q12.es ++ [⟨am, rs.length, cm, am, rs.length, cm, markOf q12.es.length⟩] } := ⟨_, rfl⟩
          have H14' : Hid (OwC w21 w.heap.size ao0 cap0 xs ⟨G, rb, ra, rc, sb, sa, sc, X, b, x, B⟩ cb 4 vv wd da dn dc q13) := by
            rw [hq13]
            exact H13.out.next how13 (fun g hg => claimed_old hg) hkt (fun g hg _ => by have h1 := (hids g hg).1; omega)
          have HQ13 : Hid (q13.lv = (.slice lo6 (nl + 1) lc6) ∧ q13.ls.length = nl + 1 ∧ q13.wv = (.slice wo8 (nl + 1) wc7) ∧ q13.ws.length = nl + 1 ∧ q13.nw = nl + 1 ∧ q13.cs = q.cs ++ [ys] ∧ q13.es = q.es ++ [⟨ao1, ys.length, cap1, ao1, ys.length, cap1, markOf q.es.length⟩] ++ [⟨am, rs.length, cm, am, rs.length, cm, markOf (q.es.length + 1)⟩] ∧ q13.sr = (stText xs q.sx vv).2 ∧ q13.ss = (stText xs q.sx vv).2 ∧ q13.sx = (stText xs q.sx vv).2 ∧ q13.o = q1.o) := by
            obtain ⟨r1, r2, r3, r4, r5, r6, r7, r8, r9, r10, r11⟩ := HQ12.out
            rw [hq13]
            exact ⟨r1, r2, r3, r4, r5, r6, by show q12.es ++ _ = _; rw [hel, r7], r8, r9, r10, r11⟩
          have HVO4 : Hid (w21.ownsRow w.heap.size 5 1 (.slice an rs.length cn) rs.length (bys rs)) := Kept.nil_own HVO3.out hkt (fun g hg hm => by
            have h1 := (hids g hm).1
            have h2 := HOO.out g hg
            omega)
          have HOO4 : Hid (∀ g, (Value.slice an rs.length cn).ownBlock = some g → q13.ow g = 2000 + (nl + 1)) := fun g hg => by
            rw [hq13]
            show claimed w20 _ 6 g = _
            rw [claimed_old (HVO3.out.lt g hg).2, HOO.out g hg]
          have HDS4 : Hid (Sl w21 ad rs) := HDS3.out.kept hkt (fun _ a' ha hm => by
            have h1 := (hids _ hm).1
            have h2 := (HDO.out a' ha).1
            omega)
          have HDO4 : Hid (∀ a', ad = some a' → q13.ow a'.block = 3000 + (nl + 1) ∧ w.heap.size ≤ a'.block ∧ a'.block < w21.heap.size) := fun a' ha => ⟨by rw [hq13]; show claimed w20 _ 6 _ = _; rw [claimed_old (HDO.out a' ha).2.2]; exact (HDO.out a' ha).1, (HDO.out a' ha).2.1, by have := (HDO.out a' ha).2.2; have := hkt.size; omega⟩
          have HB20 : Hid (Below w.heap.size w w21) := HB19.out.trans (hkt.below HB19.out.size (fun g hg => (hids g hg).2))
          have H14'' := H14'.out.told rs (by rw [HQ13.out.2.2.2.2.2.1, List.length_append]; simp; omega)
          obtain ⟨q14, hq14⟩ : ∃ q14 : Vr, q14 = { q13 with cs := q13.cs ++ [rs] } := ⟨_, rfl⟩
          have H14 : Hid (OwC w21 w.heap.size ao0 cap0 xs ⟨G, rb, ra, rc, sb, sa, sc, X, b, x, B⟩ cb 4 vv wd da dn dc q14) := by rw [hq14]; exact H14''
          have HQ14 : Hid (q14.lv = (.slice lo6 (nl + 1) lc6) ∧ q14.ls.length = nl + 1 ∧ q14.wv = (.slice wo8 (nl + 1) wc7) ∧ q14.ws.length = nl + 1 ∧ q14.nw = nl + 1 ∧ q14.cs = q.cs ++ [ys] ++ [rs] ∧ q14.es = q.es ++ [⟨ao1, ys.length, cap1, ao1, ys.length, cap1, markOf q.es.length⟩] ++ [⟨am, rs.length, cm, am, rs.length, cm, markOf (q.es.length + 1)⟩] ∧ q14.sr = (stText xs q.sx vv).2 ∧ q14.ss = (stText xs q.sx vv).2 ∧ q14.sx = (stText xs q.sx vv).2 ∧ q14.o = q1.o) := by
            obtain ⟨r1, r2, r3, r4, r5, r6, r7, r8, r9, r10, r11⟩ := HQ13.out
            rw [hq14]
            exact ⟨r1, r2, r3, r4, r5, by show q13.cs ++ _ = _; rw [r6], r7, r8, r9, r10, r11⟩
          have HOO5 : Hid (∀ g, (Value.slice an rs.length cn).ownBlock = some g → q14.ow g = 2000 + (nl + 1)) := by rw [hq14]; exact HOO4.out
          have HDO5 : Hid (∀ a', ad = some a' → q14.ow a'.block = 3000 + (nl + 1) ∧ w.heap.size ≤ a'.block ∧ a'.block < w21.heap.size) := by rw [hq14]; exact HDO4.out
          clear hbook hids hkt ht how13 hq13 hq14 H13 H14' H14'' HVM3 HVO3 HDS3 HB19 HMO HOO HDO HOO4 HDO4 HQ12 HQ13 hel
          have HLV : Hid (∀ ob, (w21.alloc ob).ownsRow w.heap.size 32 1 (.slice lo6 (nl + 1) lc6) (nl + 1) q14.ls) := fun ob => by
            have h2 := (H14.out.ows.left rfl).1
            rw [HQ14.out.2.1, HQ14.out.1] at h2
            exact Kept.nil_own h2 ((Kept.refl [] w21).alloc ob) (by simp)
          have HSZ : Hid (w.heap.size ≤ w21.heap.size) := H14.out.ows.size
          go_wp2_with (at_builtin; refine wpList_append_own_at _ rfl _ _ 68 rfl w.heap.size 32 i1 (.slice none 0 0) 1 24 Try.underlying68 hi1 hy0 hy1 hy2 rfl (by decide) _ _ _ rfl (HLV.out _) ⟨w21.heap.size, 0, none⟩ 1 1 [.slice an rs.length cn] rfl rfl (one_cells _ _ _ _) (by simp [Value.oneCell']) ?c3 ?c4 ?c5 ?_)
          case c3 => unfold maxLen; omega
          case c4 => omega
          case c5 => have := HSZ.out; simp; omega
          intro v' w22 hown hgrow hnn hat
          obtain ⟨lo9, lc9, hsh⟩ := own_shape hown
          subst hsh
          have hk22 : Kept (Value.slice lo6 (nl + 1) lc6).ownBlock.toList w21 w22 := ((Kept.refl _ w21).alloc _).grown hgrow (fun g hg _ => by simp [hg])
          have HCJ : Hid (q14.cs.getD (nl + 1) [] = rs ∧ q14.cs.length = nl + 2) := by
            rw [HQ14.out.2.2.2.2.2.1, HQ.out.2.2]
            exact ⟨by simp, by simp⟩
          have HL6 : Hid (∀ g, g ∈ (Value.slice lo6 (nl + 1) lc6).ownBlock.toList → q14.ow g = 7 ∧ w.heap.size ≤ g) := fun g hg => by
            have h1 := (H14.out.ows.left rfl).2
            have h2 := (H14.out.ows.left rfl).1
            rw [HQ14.out.1] at h1 h2
            rw [Option.mem_toList] at hg
            exact ⟨h1 g hg, (h2.lt g hg).1⟩
          obtain ⟨q15, hq15⟩ : ∃ q15 : Vr, q15 = { q14 with ow := claimed w21 q14.ow 7, lv := .slice lo9 (nl + 1 + 1) lc9, ls := q14.ls ++ [.slice an rs.length cn] } := ⟨_, rfl⟩
          have H15 : Hid (OwC w22 w.heap.size ao0 cap0 xs ⟨G, rb, ra, rc, sb, sa, sc, X, b, x, B⟩ cb 4 vv wd da dn dc q15) := by
            rw [hq15]
            refine H14.out.next (OwS.lapp H14.out.ows (by rw [HQ14.out.2.1]; exact hown) (by rw [HQ14.out.1]; exact hk22) ?_ (by rw [HQ14.out.2.1, HCJ.out.1]; exact HVO4.out) (by rw [HQ14.out.2.1]; exact HOO5.out) (by rw [HQ14.out.2.1, HCJ.out.2]; omega)) (fun g hg => claimed_old hg) hk22 (fun g hg _ => by rw [(HL6.out g hg).1]; decide)
            rw [HQ14.out.1]
            rcases hat with h1 | h1
            · exact .inl h1
            · exact .inr (fun g hg => by rw [h1] at hg; cases hg; omega)
          have HQ15 : Hid (q15.lv = (.slice lo9 (nl + 1 + 1) lc9) ∧ q15.ls.length = nl + 1 + 1 ∧ q15.wv = (.slice wo8 (nl + 1) wc7) ∧ q15.ws.length = nl + 1 ∧ q15.nw = nl + 1 ∧ q15.cs = q.cs ++ [ys] ++ [rs] ∧ q15.es = q.es ++ [⟨ao1, ys.length, cap1, ao1, ys.length, cap1, markOf q.es.length⟩] ++ [⟨am, rs.length, cm, am, rs.length, cm, markOf (q.es.length + 1)⟩] ∧ q15.sr = (stText xs q.sx vv).2 ∧ q15.ss = (stText xs q.sx vv).2 ∧ q15.sx = (stText xs q.sx vv).2 ∧ q15.o = q1.o) := by
            obtain ⟨r1, r2, r3, r4, r5, r6, r7, r8, r9, r10, r11⟩ := HQ14.out
            rw [hq15]
            exact ⟨rfl, by show (q14.ls ++ _).length = _; rw [List.length_append, r2]; rfl, r3, r4, r5, r6, r7, r8, r9, r10, r11⟩
          have HDS5 : Hid (Sl w22 ad rs) := HDS4.out.kept hk22 (fun _ a' ha hm => by
            have h1 := (HL6.out _ hm).1
            have h2 := (HDO5.out a' ha).1
            omega)
          have HDO6 : Hid (∀ a', ad = some a' → q15.ow a'.block = 3000 + (nl + 1) ∧ w.heap.size ≤ a'.block ∧ a'.block < w22.heap.size) := fun a' ha => ⟨by rw [hq15]; show claimed w21 _ 7 _ = _; rw [claimed_old (HDO5.out a' ha).2.2]; exact (HDO5.out a' ha).1, (HDO5.out a' ha).2.1, by have := (HDO5.out a' ha).2.2; have := hk22.size; omega⟩
          have HB21 : Hid (Below w.heap.size w w22) := HB20.out.trans (hk22.below HB20.out.size (fun g hg => (HL6.out g hg).2))
          clear hown hgrow hnn hat hk22 HL6 hq15 H14 HQ14 HVO4 HOO5 HB20 HLV HSZ HDS4 HDO5
          have HWV : Hid (∀ ob, (w22.alloc ob).ownsRow w.heap.size 32 1 (.slice wo8 (nl + 1) wc7) (nl + 1) q15.ws) := fun ob => by
            have h2 := (H15.out.ows.want rfl).1
            rw [HQ15.out.2.2.2.1, HQ15.out.2.2.1] at h2
            exact Kept.nil_own h2 ((Kept.refl [] w22).alloc ob) (by simp)
          have HSZ : Hid (w.heap.size ≤ w22.heap.size) := H15.out.ows.size
          go_wp2_with (at_builtin; refine wpList_append_own_at _ rfl _ _ 68 rfl w.heap.size 32 i1 (.slice none 0 0) 1 24 Try.underlying68 hi1 hy0 hy1 hy2 rfl (by decide) _ _ _ rfl (HWV.out _) ⟨w22.heap.size, 0, none⟩ 1 1 [.slice ad rs.length cd] rfl rfl (one_cells _ _ _ _) (by simp [Value.oneCell']) ?c3 ?c4 ?c5 ?_)
          case c3 => unfold maxLen; omega
          case c4 => omega
          case c5 => have := HSZ.out; simp; omega
          intro v' w23 hown hgrow hnn hat
          obtain ⟨wo9, wc9, hsh⟩ := own_shape hown
          subst hsh
          have hk23 : Kept (Value.slice wo8 (nl + 1) wc7).ownBlock.toList w22 w23 := ((Kept.refl _ w22).alloc _).grown hgrow (fun g hg _ => by simp [hg])
          have HL7 : Hid (∀ g, g ∈ (Value.slice wo8 (nl + 1) wc7).ownBlock.toList → q15.ow g = 8 ∧ w.heap.size ≤ g) := fun g hg => by
            have h1 := (H15.out.ows.want rfl).2
            have h2 := (H15.out.ows.want rfl).1
            rw [HQ15.out.2.2.1] at h1 h2
            rw [Option.mem_toList] at hg
            exact ⟨h1 g hg, (h2.lt g hg).1⟩
          have H16 : Hid (OwC w23 w.heap.size ao0 cap0 xs ⟨G, rb, ra, rc, sb, sa, sc, X, b, x, B⟩ cb 4 vv wd da dn dc { q15 with ow := claimed w22 q15.ow 8, wv := .slice wo9 (nl + 1 + 1) wc9, ws := q15.ws ++ [.slice ad rs.length cd] }) := by
            refine H15.out.next (OwS.wapp H15.out.ows (by rw [HQ15.out.2.2.2.1]; exact hown) (by rw [HQ15.out.2.2.1]; exact hk23) ?_) (fun g hg => claimed_old hg) hk23 (fun g hg _ => by rw [(HL7.out g hg).1]; decide)
            rw [HQ15.out.2.2.1]
            rcases hat with h1 | h1
            · exact .inl h1
            · exact .inr (fun g hg => by rw [h1] at hg; cases hg; omega)
          obtain ⟨q16, hq16⟩ : ∃ q16 : Vr, q16 = { ({ q15 with ow := claimed w22 q15.ow 8, wv := .slice wo9 (nl + 1 + 1) wc9, ws := q15.ws ++ [.slice ad rs.length cd] } : Vr) with nw := q15.nw + 1 } := ⟨_, rfl⟩
          have H17 : Hid (OwC w23 w.heap.size ao0 cap0 xs ⟨G, rb, ra, rc, sb, sa, sc, X, b, x, B⟩ cb 4 vv wd da dn dc q16) := by
            rw [hq16]
            refine ⟨OwS.wok H16.out.ows ?_ ?_ ?_, H16.out.ocb, H16.out.c0, H16.out.c1, H16.out.c2, H16.out.c3⟩
            · show q15.nw < (q15.ws ++ [_]).length
              rw [List.length_append, HQ15.out.2.2.2.2.1, HQ15.out.2.2.2.1]
              exact Nat.lt_succ_self _
            · show q15.nw < q15.cs.length
              rw [HQ15.out.2.2.2.2.1, HQ15.out.2.2.2.2.2.1, HQ.out.2.2]
              simp
            · show WantIt _ _ (claimed w22 q15.ow 8) q15.nw ((q15.ws ++ [_]).getD q15.nw (.slice none 0 0)) (q15.cs.getD q15.nw [])
              have e1 : (q15.ws ++ [Value.slice ad rs.length cd]).getD (nl + 1) (.slice none 0 0) = .slice ad rs.length cd := by rw [← HQ15.out.2.2.2.1]; simp
              have e2 : q15.cs.getD (nl + 1) [] = rs := by rw [HQ15.out.2.2.2.2.2.1, HQ.out.2.2]; simp
              rw [HQ15.out.2.2.2.2.1, e1, e2]
              refine ⟨ad, cd, rfl, HDS5.out.kept hk23 (fun _ a' ha hm => ?_), fun a' ha => ⟨?_, (HDO6.out a' ha).2.1, ?_⟩⟩
              · have h1 := (HL7.out _ hm).1
                have h2 := (HDO6.out a' ha).1
                omega
              · rw [claimed_old (HDO6.out a' ha).2.2]
                exact (HDO6.out a' ha).1
              · have := (HDO6.out a' ha).2.2
                have := hk23.size
                omega
          have HQ16 : Hid (q16.lv = (.slice lo9 (nl + 1 + 1) lc9) ∧ q16.ls.length = nl + 1 + 1 ∧ q16.wv = (.slice wo9 (nl + 1 + 1) wc9) ∧ q16.ws.length = nl + 1 + 1 ∧ q16.nw = nl + 1 + 1 ∧ q16.cs = q.cs ++ [ys] ++ [rs] ∧ q16.es = q.es ++ [⟨ao1, ys.length, cap1, ao1, ys.length, cap1, markOf q.es.length⟩] ++ [⟨am, rs.length, cm, am, rs.length, cm, markOf (q.es.length + 1)⟩] ∧ q16.sr = (stText xs q.sx vv).2 ∧ q16.ss = (stText xs q.sx vv).2 ∧ q16.sx = (stText xs q.sx vv).2 ∧ q16.o = q1.o) := by
            obtain ⟨r1, r2, r3, r4, r5, r6, r7, r8, r9, r10, r11⟩ := HQ15.out
            rw [hq16]
            exact ⟨r1, r2, rfl, by show (q15.ws ++ _).length = _; rw [List.length_append, r4]; rfl, by show q15.nw + 1 = _; rw [r5], r6, r7, r8, r9, r10, r11⟩
          have HB22 : Hid (Below w.heap.size w w23) := HB21.out.trans (hk23.below HB21.out.size (fun g hg => (HL7.out g hg).2))
          have HFIN : Hid (OwL w w23 ao0 cap0 xs ⟨G, rb, ra, rc, sb, sa, sc, X, b, x, B⟩ q16 (k + 1)) := by
            obtain ⟨r1, r2, r3, r4, r5, r6, r7, r8, r9, r10, r11⟩ := HQ16.out
            have hcn : q16.cs.length = nl + 1 + 1 := by rw [r6, HQ.out.2.2]; simp
            have hl4 := HF.out.l4
            have hl5 := HF.out.l5
            have hnc := HQ.out.2.2
            refine ⟨H17.out.ows, by rw [r8, r10], by rw [r9, r10], by rw [r2, hcn], by rw [r4, hcn], by rw [r5, hcn], by omega, by rw [r7]; simp; omega, by rw [r11]; exact HOL1.out, fun j hj => ?_, fun j hj => ?_, by omega, HB22.out⟩
            · rw [r6]
              exact getD_two HF.out.m1 hyl (by have := HRL.out; omega) j
            · rw [r7]
              exact getD_two2 HF.out.m2 hyl (by have := HRL.out; show rs.length ≤ _; omega) j
          clear hown hgrow hnn hat hk23 HL7 hq16 H15 H16 H17 HQ15 HB21 HB22 HWV HSZ HDS5 HDO6 HCJ HRS HRL
          have HLW : Hid (q16.lv = .slice lo9 (nl + 1 + 1) lc9 ∧ q16.wv = .slice wo9 (nl + 1 + 1) wc9 ∧ nl + 1 + 1 = q16.cs.length) := ⟨HQ16.out.1, HQ16.out.2.2.1, by rw [HQ16.out.2.2.2.2.2.1, HQ.out.2.2]; simp⟩
          clear HQ16
          go_wp2_with (fail)
          refine (lwrote_any (HFIN.out.ows.pr rfl).1.wr (HFIN.out.ows.pr rfl).1.wd HFIN.out.short).mono ?_
          rintro e w30 ⟨rfl, hk30⟩
          have HFI1 : Hid (OwL w w30 ao0 cap0 xs ⟨G, rb, ra, rc, sb, sa, sc, X, b, x, B⟩ q16 (k + 1)) := HFIN.out.quiet hk30
          clear hk30 HFIN
          go_wp2_with (fail)
          refine (bkstill_ok (HFI1.out.ows.book (fun _ _ => rfl)).1.bk (by have := HFI1.out.l5; omega) (fun i hi' => ((HFI1.out.ows.book (fun _ _ => rfl)).1.en i hi').toR (Nat.le_trans (HFI1.out.m2 i hi') (by omega)))).mono ?_
          rintro e w31 ⟨rfl, hk31⟩
          have HFI2 : Hid (OwL w w31 ao0 cap0 xs ⟨G, rb, ra, rc, sb, sa, sc, X, b, x, B⟩ q16 (k + 1)) := HFI1.out.quiet hk31
          clear hk31 HFI1
          go_wp2_with (fail)
          refine (bytes_any (some ⟨G, 0, none⟩) ao0 n0 (n0 + 70) n0 cap0 xs xs _ HIN.out.len HIN.out.len (by omega) (HFI2.out.ows.given rfl).1 (HIN.out.sl.kept (Kept.of_below HFI2.out.below) (by simp))).mono ?_
          rintro e w' ⟨rfl, n32, rfl⟩
          simp only [decide_true]
          have HFI3 : Hid (OwL w (w31.drewN n32) ao0 cap0 xs ⟨G, rb, ra, rc, sb, sa, sc, X, b, x, B⟩ q16 (k + 1)) := HFI2.out.quiet ((Kept.refl [] w31).drewN n32)
          clear HFI2
          go_wp2
          go_roundw
          case rel => exact ⟨k + 1, q16, lo9, wo9, nl + 1 + 1, lc9, wc9, by omega, by omega, rfl, rfl, by go_num, HLW, HFI3⟩
          case measure => simp [intOf]; omega
        have b3 : (kd == 3) = false := by simpa using hk3
        have b4 : (kd == 4) = false := by simpa using hk4
        have HK34 : Hid (kd ≠ 3 ∧ kd ≠ 4) := ⟨hk3, hk4⟩
        have c0 := H9.out.c0
        have c1 := H9.out.c1
        have c2 := H9.out.c2
        have c3 := H9.out.c3
        clear hk3 hk4
        go_wp2_with (fail)
        rw [← hwo8]
        generalize w13 = w15 at H9 HB15 c0 c1 c2 c3 ⊢
        clear hyb hwo8
        have e16 : q9.sx = q.sx := HQ9.out.2.2.2.2.2.2.2.2.2.1
        refine (lreadx_any (OwS.two H9.out.ows (by rw [e16]; exact HQ9.out.2.2.2.2.2.2.2.1)) kd vv wd da dn dc HK34.out.1 HK34.out.2).mono ?_
        rintro e w16 ⟨rfl, hk16, ht16⟩
        rw [e16] at ht16
        obtain ⟨q10, hq10⟩ : ∃ q10 : Vr, q10 = { q9 with sr := stStep xs q.sx kd wd, sx := stStep xs q.sx kd wd } := ⟨_, rfl⟩
        have H10 : Hid (OwC w16 w.heap.size ao0 cap0 xs ⟨G, rb, ra, rc, sb, sa, sc, X, b, x, B⟩ cb kd vv wd da dn dc q10) := by
          rw [hq10]
          exact H9.out.next (OwS.rxgo H9.out.ows hk16 ht16) (fun g hg => rfl) hk16 (fun g hg _ => by
            simp at hg
            rcases hg with rfl | rfl
            · rw [(H9.out.ows.r rfl).2.1]; decide
            · rw [(H9.out.ows.rf rfl).2.1]; decide)
        have HQ10 : Hid (q10.lv = (.slice lo6 (nl + 1) lc6) ∧ q10.ls.length = nl + 1 ∧ q10.wv = (.slice wo8 (nl + 1) wc7) ∧ q10.ws.length = nl + 1 ∧ q10.nw = nl + 1 ∧ q10.cs = q.cs ++ [ys] ∧ q10.es = q.es ++ [⟨ao1, ys.length, cap1, ao1, ys.length, cap1, markOf q.es.length⟩] ∧ q10.sr = stStep xs q.sx kd wd ∧ q10.ss = q.sx ∧ q10.sx = stStep xs q.sx kd wd ∧ q10.o = q1.o) := by
          obtain ⟨r1, r2, r3, r4, r5, r6, r7, r8, r9, r10, r11⟩ := HQ9.out
          rw [hq10]
          exact ⟨r1, r2, r3, r4, r5, r6, r7, rfl, r9, rfl, r11⟩
        have HB16 : Hid (Below w.heap.size w w16) := HB15.out.trans (hk16.below HB15.out.size (fun g hg => by
          simp at hg
          rcases hg with rfl | rfl
          · exact (H9.out.ows.r rfl).2.2.1
          · exact (H9.out.ows.rf rfl).2.2))
        have d0 := H10.out.c0
        have d1 := H10.out.c1
        have d2 := H10.out.c2
        have d3 := H10.out.c3
        clear hk16 ht16 hq10 H9 HQ9 HB15 c0 c1 c2 c3 e16
        go_wp2_with (fail)
        have e17 : q10.ss = q.sx := HQ10.out.2.2.2.2.2.2.2.2.1
        refine (again_any (H10.out.ows.s rfl).1 kd vv wd da dn dc).mono ?_
        rintro e w17 ⟨rfl, hk17, hrd17⟩
        rw [e17] at hrd17
        obtain ⟨q11, hq11⟩ : ∃ q11 : Vr, q11 = { q10 with ow := claimed w16 q10.ow 98, ss := stStep xs q.sx kd wd } := ⟨_, rfl⟩
        have H11 : Hid (OwC w17 w.heap.size ao0 cap0 xs ⟨G, rb, ra, rc, sb, sa, sc, X, b, x, B⟩ cb kd vv wd da dn dc q11) := by
          rw [hq11]
          exact H10.out.next (OwS.sgo H10.out.ows hk17 _ hrd17) (fun g hg => claimed_old hg) hk17 (fun g hg _ => by simp at hg; subst hg; rw [(H10.out.ows.s rfl).2.1]; decide)
        have HQ11 : Hid (q11.lv = (.slice lo6 (nl + 1) lc6) ∧ q11.ls.length = nl + 1 ∧ q11.wv = (.slice wo8 (nl + 1) wc7) ∧ q11.ws.length = nl + 1 ∧ q11.nw = nl + 1 ∧ q11.cs = q.cs ++ [ys] ∧ q11.es = q.es ++ [⟨ao1, ys.length, cap1, ao1, ys.length, cap1, markOf q.es.length⟩] ∧ q11.sr = stStep xs q.sx kd wd ∧ q11.ss = stStep xs q.sx kd wd ∧ q11.sx = stStep xs q.sx kd wd ∧ q11.o = q1.o) := by
          obtain ⟨r1, r2, r3, r4, r5, r6, r7, r8, r9, r10, r11⟩ := HQ10.out
          rw [hq11]
          exact ⟨r1, r2, r3, r4, r5, r6, r7, r8, rfl, r10, r11⟩
        have HB17 : Hid (Below w.heap.size w w17) := HB16.out.trans (hk17.below HB16.out.size (fun g hg => by simp at hg; subst hg; exact (H10.out.ows.s rfl).2.2.1))
        have HFIN : Hid (OwL w w17 ao0 cap0 xs ⟨G, rb, ra, rc, sb, sa, sc, X, b, x, B⟩ q11 (k + 1)) := by
          obtain ⟨r1, r2, r3, r4, r5, r6, r7, r8, r9, r10, r11⟩ := HQ11.out
          have hcn : q11.cs.length = nl + 1 := by rw [r6, HQ.out.2.2]; simp
          have hl4 := HF.out.l4
          have hl5 := HF.out.l5
          have hnc := HQ.out.2.2
          refine ⟨H11.out.ows, by rw [r8, r10], by rw [r9, r10], by rw [r2, hcn], by rw [r4, hcn], by rw [r5, hcn], by omega, by rw [r7]; simp; omega, by rw [r11]; exact HOL1.out, fun j hj => ?_, fun j hj => ?_, by omega, HB17.out⟩
          · rw [r6]
            exact getD_all (getD_one HF.out.m1 hyl) j
          · rw [r7]
            exact getD_all2 (getD_one2 HF.out.m2 (a := ⟨ao1, ys.length, cap1, ao1, ys.length, cap1, markOf q.es.length⟩) hyl) j
        have HLW : Hid (q11.lv = .slice lo6 (nl + 1) lc6 ∧ q11.wv = .slice wo8 (nl + 1) wc7 ∧ nl + 1 = q11.cs.length) := ⟨HQ11.out.1, HQ11.out.2.2.1, by rw [HQ11.out.2.2.2.2.2.1, HQ.out.2.2]; simp⟩
        clear hk17 hrd17 hq11 H10 HQ10 HQ11 HB16 HB17 H11 d0 d1 d2 d3 e17 b3 b4 HK34
        go_wp2_with (fail)
        refine (lwrote_any (HFIN.out.ows.pr rfl).1.wr (HFIN.out.ows.pr rfl).1.wd HFIN.out.short).mono ?_
        rintro e w30 ⟨rfl, hk30⟩
        have HFI1 : Hid (OwL w w30 ao0 cap0 xs ⟨G, rb, ra, rc, sb, sa, sc, X, b, x, B⟩ q11 (k + 1)) := HFIN.out.quiet hk30
        clear hk30 HFIN
        go_wp2_with (fail)
        refine (bkstill_ok (HFI1.out.ows.book (fun _ _ => rfl)).1.bk (by have := HFI1.out.l5; omega) (fun i hi' => ((HFI1.out.ows.book (fun _ _ => rfl)).1.en i hi').toR (Nat.le_trans (HFI1.out.m2 i hi') (by omega)))).mono ?_
        rintro e w31 ⟨rfl, hk31⟩
        have HFI2 : Hid (OwL w w31 ao0 cap0 xs ⟨G, rb, ra, rc, sb, sa, sc, X, b, x, B⟩ q11 (k + 1)) := HFI1.out.quiet hk31
        clear hk31 HFI1
        go_wp2_with (fail)
        refine (bytes_any (some ⟨G, 0, none⟩) ao0 n0 (n0 + 70) n0 cap0 xs xs _ HIN.out.len HIN.out.len (by omega) (HFI2.out.ows.given rfl).1 (HIN.out.sl.kept (Kept.of_below HFI2.out.below) (by simp))).mono ?_
        rintro e w' ⟨rfl, n32, rfl⟩
        simp only [decide_true]
        have HFI3 : Hid (OwL w (w31.drewN n32) ao0 cap0 xs ⟨G, rb, ra, rc, sb, sa, sc, X, b, x, B⟩ q11 (k + 1)) := HFI2.out.quiet ((Kept.refl [] w31).drewN n32)
        clear HFI2
        go_wp2
        go_roundw
        case rel => exact ⟨k + 1, q11, lo6, wo8, nl + 1, lc6, wc7, by omega, by omega, rfl, rfl, by go_num, HLW, HFI3⟩
        case measure => simp [intOf]; omega
      | some zs =>
        rw [ho] at hyb
        simp only [Option.isNone_some] at hyb
        have hzy : ys = zs := by rw [HYS.out, ho]; rfl
        subst hzy
        have hwd : WdS w13 x w.heap.size q7.v (some ys) := by
          have h1 := (H7.out.ows.pr rfl).1.wd
          rw [HQ7.out.2.2.2.2.2.2.2.2.2.1, ho] at h1
          exact h1
        obtain ⟨yo, yc, hyv⟩ := own_shape hwd.own'
        have HYO : Hid (w13.ownsRow w.heap.size 5 1 (.slice yo ys.length yc) ys.length (bys ys)) := by have := hwd.own'; rw [hyv] at this; exact this
        rw [hyv] at hyd
        obtain ⟨wg, hwo7, hwg, hwf⟩ : ∃ wg, wo7 = some ⟨wg, 0, none⟩ ∧ (∃ u, w13.cell? ⟨wg, nl, none⟩ = some u) ∧ w13.frozen? ⟨wg, nl, none⟩ = false := by
          have h1 := (H7.out.ows.want rfl).1
          rw [HQ7.out.2.2.1, HQ7.out.2.2.2.1] at h1
          rcases h1.2 with ⟨e1, e2⟩ | ⟨g', cap', cur, e1, _, hg', _, _, hcs, _⟩
          · omega
          · cases e1
            refine ⟨g', rfl, ?_, frozen_of_row _ _ _ _ _ hg'⟩
            rw [cell_of_row _ _ _ _ _ _ hg']
            have hnl2 : nl < cur.size := by rw [hcs]; omega
            exact ⟨cur[nl], by rw [Array.getElem?_eq_getElem hnl2]⟩
        subst hwo7
        obtain ⟨uw, hwg⟩ := hwg
        have HWG : Hid (q7.ow wg = 8 ∧ wg < w13.heap.size) := by
          have h1 := (H7.out.ows.want rfl)
          rw [HQ7.out.2.2.1, HQ7.out.2.2.2.1] at h1
          exact ⟨h1.2 wg rfl, (h1.1.lt wg rfl).2⟩
        -- what the new row leaves
        have HWN : Hid (∀ w14 a14 c14, Kept [] w13 w14 → Sl w14 a14 ys → (∀ a', a14 = some a' → w13.heap.size ≤ a'.block ∧ a'.block < w14.heap.size) → ∃ q9 : Vr, OwC (w14.setCell ⟨wg, nl, none⟩ (.slice a14 ys.length c14)) w.heap.size ao0 cap0 xs ⟨G, rb, ra, rc, sb, sa, sc, X, b, x, B⟩ cb kd vv wd da dn dc q9 ∧ (q9.lv = .slice lo6 (nl + 1) lc6 ∧ q9.ls.length = nl + 1 ∧ q9.wv = .slice (some ⟨wg, 0, none⟩) (nl + 1) wc7 ∧ q9.ws.length = nl + 1 ∧ q9.nw = nl + 1 ∧ q9.cs = q.cs ++ [ys] ∧ q9.es = q.es ++ [⟨ao1, ys.length, cap1, ao1, ys.length, cap1, markOf q.es.length⟩] ∧ q9.sr = q9.sx ∧ q9.ss = q9.sx ∧ q9.o = q1.o ∧ q9.sx = q.sx) ∧ Below w.heap.size w (w14.setCell ⟨wg, nl, none⟩ (.slice a14 ys.length c14))) := by
          intro w14 a14 c14 hk hsl hfr
          have f8 := H7.out.fresh hk (3000 + nl)
          have hwv : ({ q7 with ow := claimed w13 q7.ow (3000 + nl) } : Vr).wv = .slice (some ⟨wg, 0, none⟩) (nl + 1) wc7 := HQ7.out.2.2.1
          have hset := OwS.wset f8.ows (nv := .slice a14 ys.length c14) (j := nl) hwv (by show nl < q7.ws.length; rw [HQ7.out.2.2.2.1]; omega) (by show q7.nw ≤ nl; rw [HQ7.out.2.2.2.2.1]; exact Nat.le_refl _)
          have hks : Kept [wg] w14 (w14.setCell ⟨wg, nl, none⟩ (.slice a14 ys.length c14)) := (Kept.refl [wg] w14).setCell (by simp) _
          have g9 := f8.next hset (fun g hg => rfl) hks (fun g hg _ => by
            simp at hg
            subst hg
            show claimed w13 q7.ow (3000 + nl) g ≠ 99
            rw [claimed_old HWG.out.2, HWG.out.1]
            decide)
          refine ⟨{ ({ ({ q7 with ow := claimed w13 q7.ow (3000 + nl) } : Vr) with ws := q7.ws.set nl (.slice a14 ys.length c14) } : Vr) with nw := q7.nw + 1 }, ⟨OwS.wok g9.ows ?_ ?_ ?_, g9.ocb, g9.c0, g9.c1, g9.c2, g9.c3⟩, ?_, ?_⟩
          · show q7.nw < (q7.ws.set nl _).length
            rw [List.length_set, HQ7.out.2.2.2.2.1, HQ7.out.2.2.2.1]
            omega
          · show q7.nw < q7.cs.length
            rw [HQ7.out.2.2.2.2.1, HQ7.out.2.2.2.2.2.1, List.length_append, HQ.out.2.2]
            exact Nat.lt_succ_self _
          · show WantIt _ _ (claimed w13 q7.ow (3000 + nl)) q7.nw ((q7.ws.set nl (.slice a14 ys.length c14)).getD q7.nw (.slice none 0 0)) (q7.cs.getD q7.nw [])
            have e : q7.cs.getD nl [] = ys := by rw [HQ7.out.2.2.2.2.2.1, HQ.out.2.2]; simp
            have e2 : (q7.ws.set nl (.slice a14 ys.length c14)).getD nl (.slice none 0 0) = .slice a14 ys.length c14 := by
              have h3 : nl < q7.ws.length := by rw [HQ7.out.2.2.2.1]; omega
              simp [List.getElem?_set_self h3]
            rw [HQ7.out.2.2.2.2.1, e, e2]
            refine ⟨a14, c14, rfl, hsl.kept hks (fun _ a' ha => ?_), fun a' ha => ⟨claimed_new (hfr a' ha).1, ?_, ?_⟩⟩
            · have h1 := (hfr a' ha).1
              have h2 := HWG.out.2
              simp only [List.mem_singleton]
              omega
            · have h1 := (hfr a' ha).1
              have h2 := H7.out.ows.size
              omega
            · have h1 := (hfr a' ha).2
              have h2 := hks.size
              omega
          · obtain ⟨r1, r2, r3, r4, r5, r6, r7, r8, r9, r10, r11, r12⟩ := HQ7.out
            exact ⟨r1, r2, r3, by show (q7.ws.set nl _).length = _; rw [List.length_set]; exact r4, by show q7.nw + 1 = _; rw [r5], r6, r7, r8, r9, r10, r11⟩
          · have h1 := (H7.out.ows.want rfl).1
            rw [HQ7.out.2.2.1] at h1
            have h2 := (h1.lt wg rfl).1
            exact (HB14.out.trans (hk.below HB14.out.size (by simp))).trans (hks.below (by have := HB14.out.size; have := hk.size; omega) (by simpa using h2))
        have HBS : Hid (w.heap.size ≤ w13.heap.size) := H7.out.ows.size
        have hwl := HWG.out.2
        have hidx : ((nl : Int) + 1 - 1) = (nl : Int) := by omega
        have HYP : Hid (yo = none → ys.length = 0 ∧ yc = 0) := fun e => by
          rcases HYO.out.2 with ⟨e1, e2⟩ | ⟨g', cap', cur, e1, _⟩
          · injection e1 with _ a1 a2
            exact ⟨a1, a2⟩
          · cases e1
            cases e
        have HSR : Hid (Sl (w13.alloc (.cells #[] 5)) yo ys) := (own_sl2 HYO.out).kept ((Kept.refl [] w13).alloc _) (by simp)
        go_wp2_with (at_builtin; refine wpList_append_copy _ rfl _ _ rfl w13.heap.size rfl (World.ownsRow_made w13 #[] 0 (Nat.le_refl _) (by decide) rfl) yo ys.length yc ys rfl HSR.out rfl HYP.out (by omega) ?_)
        intro g14 c14 w14 hkg hsl14 hg14 hg14'
        have hk14 : Kept [] w13 w14 := ((Kept.refl [] w13).alloc _).trans hkg (fun i hi' hlt' => by simp at hi'; omega)
        obtain ⟨q9, h9, hq9, hb9⟩ := HWN.out w14 (some ⟨g14, 0, none⟩) c14 hk14 hsl14 (fun a' ha => by cases ha; exact ⟨hg14, hg14'⟩)
        have hwg14 := hk14.cellOf hwg (by simp)
        have hwf14 := (hk14.frozen (p := ⟨wg, nl, none⟩) hwl (by simp)).trans hwf
        have hcw : cb ≠ wg := fun e => by
          have h1 := H7.out.ocb
          rw [e, HWG.out.1] at h1
          omega
        have g0 := hk14.cellOf H7.out.c0 (by simp)
        have g1 := hk14.cellOf H7.out.c1 (by simp)
        have g2 := hk14.cellOf H7.out.c2 (by simp)
        have g3 := hk14.cellOf H7.out.c3 (by simp)
        obtain ⟨wo8, hwo8⟩ : ∃ wo8 : Option Addr, wo8 = some ⟨wg, 0, none⟩ := ⟨_, rfl⟩
        rw [← hwo8] at hq9
        have H9 : Hid (OwC (w14.setCell ⟨wg, nl, none⟩ (.slice (some ⟨g14, 0, none⟩) ys.length c14)) w.heap.size ao0 cap0 xs ⟨G, rb, ra, rc, sb, sa, sc, X, b, x, B⟩ cb kd vv wd da dn dc q9) := h9
        have HQ9 : Hid (q9.lv = (.slice lo6 (nl + 1) lc6) ∧ q9.ls.length = nl + 1 ∧ q9.wv = (.slice wo8 (nl + 1) wc7) ∧ q9.ws.length = nl + 1 ∧ q9.nw = nl + 1 ∧ q9.cs = q.cs ++ [ys] ∧ q9.es = q.es ++ [⟨ao1, ys.length, cap1, ao1, ys.length, cap1, markOf q.es.length⟩] ∧ q9.sr = q.sx ∧ q9.ss = q.sx ∧ q9.sx = q.sx ∧ q9.o = q1.o) := by
          obtain ⟨r1, r2, r3, r4, r5, r6, r7, r8, r9, r10, r11⟩ := hq9
          exact ⟨r1, r2, r3, r4, r5, r6, r7, r8.trans r11, r9.trans r11, r11, r10⟩
        have HB15 : Hid (Below w.heap.size w (w14.setCell ⟨wg, nl, none⟩ (.slice (some ⟨g14, 0, none⟩) ys.length c14))) := hb9
        clear hkg hk14 h9 hq9 hb9 hwd hyv HYO HWN H7 HQ7 hyb hyd HB14 hsl14 HSR HYP
        by_cases hk3 : kd = 3
        · subst hk3
          have c0 := H9.out.c0
          have c1 := H9.out.c1
          go_wp2_with (fail)
          rw [← hwo8]
          clear g0 g1 g2 g3
          generalize w14.setCell _ _ = w15 at H9 HB15 c0 c1 ⊢
          clear hwg14 hwf14 hwo8
          refine (takeraw_st (H9.out.ows.rf rfl).1 vv).mono ?_
          rintro e w16 ⟨⟨ad, cd, rfl, hfr⟩, hk16, hrf16⟩
          obtain ⟨rs, hrs⟩ : ∃ rs, rs = (stRaw xs q.sx vv).1 := ⟨_, rfl⟩
          have HRS : Hid ((stRaw xs q.sx vv).1 = rs) := hrs.symm
          have HRL : Hid (rs.length ≤ 200000) := by show _ ≤ _; rw [hrs]; exact Nat.le_trans (stRaw_le xs q.sx vv) (by rw [HIN.out.len]; exact hn0)
          clear hrs
          have e16 : q9.sx = q.sx := HQ9.out.2.2.2.2.2.2.2.2.2.1
          rw [e16, HRS.out] at hfr ⊢
          rw [e16] at hrf16
          obtain ⟨q10, hq10⟩ : ∃ q10 : Vr, q10 = { q9 with ow := claimed w15 q9.ow (3000 + (nl + 1)), sx := (stRaw xs q.sx vv).2 } := ⟨_, rfl⟩
          have H10 : Hid (OwC w16 w.heap.size ao0 cap0 xs ⟨G, rb, ra, rc, sb, sa, sc, X, b, x, B⟩ cb 3 vv wd da dn dc q10) := by
            rw [hq10]
            exact H9.out.next (OwS.xgo H9.out.ows hk16 _ hrf16) (fun g hg => claimed_old hg) hk16 (fun g hg _ => by simp at hg; subst hg; rw [(H9.out.ows.rf rfl).2.1]; decide)
          have HQ10 : Hid (q10.lv = (.slice lo6 (nl + 1) lc6) ∧ q10.ls.length = nl + 1 ∧ q10.wv = (.slice wo8 (nl + 1) wc7) ∧ q10.ws.length = nl + 1 ∧ q10.nw = nl + 1 ∧ q10.cs = q.cs ++ [ys] ∧ q10.es = q.es ++ [⟨ao1, ys.length, cap1, ao1, ys.length, cap1, markOf q.es.length⟩] ∧ q10.sr = q.sx ∧ q10.ss = q.sx ∧ q10.sx = (stRaw xs q.sx vv).2 ∧ q10.o = q1.o) := by
            obtain ⟨r1, r2, r3, r4, r5, r6, r7, r8, r9, r10, r11⟩ := HQ9.out
            rw [hq10]
            exact ⟨r1, r2, r3, r4, r5, r6, r7, r8, r9, rfl, r11⟩
          have HDS : Hid (Sl w16 ad rs ∧ ∀ a', ad = some a' → q10.ow a'.block = 3000 + (nl + 1) ∧ w.heap.size ≤ a'.block ∧ a'.block < w16.heap.size) := ⟨hfr.1, fun a' ha => ⟨by rw [hq10]; exact claimed_new (hfr.2.2.2 a' ha).1, by have := (hfr.2.2.2 a' ha).1; have := H9.out.ows.size; omega, (hfr.2.2.2 a' ha).2.1⟩⟩
          have HB16 : Hid (Below w.heap.size w w16) := HB15.out.trans (hk16.below HB15.out.size (fun g hg => by simp at hg; subst hg; exact (H9.out.ows.rf rfl).2.2))
          have d1 := H10.out.c1
          clear hfr hk16 hrf16 hq10 H9 HQ9 HB15 c0 c1 e16
          go_wp2_with (fail)
          refine (raw_ow (H10.out.ows.r rfl).1 vv).mono ?_
          rintro e w17 ⟨⟨vm, rfl, hvm⟩, hk17, hrd17⟩
          have e17 : q10.sr = q.sx := HQ10.out.2.2.2.2.2.2.2.1
          rw [e17, HRS.out] at hvm
          rw [e17] at hrd17
          obtain ⟨am, cm, hsh⟩ := own_shape hvm
          subst hsh
          obtain ⟨q11, hq11⟩ : ∃ q11 : Vr, q11 = { q10 with ow := claimed w16 q10.ow (100 + (q.es.length + 1)), sr := (stRaw xs q.sx vv).2 } := ⟨_, rfl⟩
          have H11 : Hid (OwC w17 w.heap.size ao0 cap0 xs ⟨G, rb, ra, rc, sb, sa, sc, X, b, x, B⟩ cb 3 vv wd da dn dc q11) := by
            rw [hq11]
            exact H10.out.next (OwS.rgo H10.out.ows hk17 _ hrd17) (fun g hg => claimed_old hg) hk17 (fun g hg _ => by simp at hg; subst hg; rw [(H10.out.ows.r rfl).2.1]; decide)
          have HQ11 : Hid (q11.lv = (.slice lo6 (nl + 1) lc6) ∧ q11.ls.length = nl + 1 ∧ q11.wv = (.slice wo8 (nl + 1) wc7) ∧ q11.ws.length = nl + 1 ∧ q11.nw = nl + 1 ∧ q11.cs = q.cs ++ [ys] ∧ q11.es = q.es ++ [⟨ao1, ys.length, cap1, ao1, ys.length, cap1, markOf q.es.length⟩] ∧ q11.sr = (stRaw xs q.sx vv).2 ∧ q11.ss = q.sx ∧ q11.sx = (stRaw xs q.sx vv).2 ∧ q11.o = q1.o) := by
            obtain ⟨r1, r2, r3, r4, r5, r6, r7, r8, r9, r10, r11⟩ := HQ10.out
            rw [hq11]
            exact ⟨r1, r2, r3, r4, r5, r6, r7, rfl, r9, r10, r11⟩
          have HVM : Hid (w17.ownsRow w.heap.size 5 1 (.slice am rs.length cm) rs.length (bys rs) ∧ ∀ g, (Value.slice am rs.length cm).ownBlock = some g → q11.ow g = 100 + (q.es.length + 1)) := ⟨own_base hvm H10.out.ows.size, fun g hg => by rw [hq11]; exact claimed_new (hvm.lt g hg).1⟩
          have HDS1 : Hid (Sl w17 ad rs ∧ ∀ a', ad = some a' → q11.ow a'.block = 3000 + (nl + 1) ∧ w.heap.size ≤ a'.block ∧ a'.block < w17.heap.size) := by
            refine ⟨HDS.out.1.kept hk17 (fun _ a' ha hm => ?_), fun a' ha => ⟨by rw [hq11]; show claimed _ _ _ _ = _; rw [claimed_old (HDS.out.2 a' ha).2.2]; exact (HDS.out.2 a' ha).1, (HDS.out.2 a' ha).2.1, by have := (HDS.out.2 a' ha).2.2; have := hk17.size; omega⟩⟩
            have h1 := (HDS.out.2 a' ha).1
            have h2 := (H10.out.ows.r rfl).2.1
            simp only [List.mem_singleton] at hm
            rw [hm] at h1
            have h3 : q10.ow rb = 1 := h2
            have h4 : q10.ow rb = 3000 + (nl + 1) := h1
            omega
          have HB17 : Hid (Below w.heap.size w w17) := HB16.out.trans (hk17.below HB16.out.size (fun g hg => by simp at hg; subst hg; exact (H10.out.ows.r rfl).2.2.1))
          have f1 := H11.out.c1
          clear hvm hk17 hrd17 hq11 H10 HQ10 HB16 HDS d1 e17
          go_wp2_with (fail)
          refine (raw_ow (H11.out.ows.s rfl).1 vv).mono ?_
          rintro e w18 ⟨⟨vo, rfl, hvo⟩, hk18, hrd18⟩
          have e18 : q11.ss = q.sx := HQ11.out.2.2.2.2.2.2.2.2.1
          rw [e18, HRS.out] at hvo
          rw [e18] at hrd18
          obtain ⟨an, cn, hsh⟩ := own_shape hvo
          subst hsh
          obtain ⟨q12, hq12⟩ : ∃ q12 : Vr, q12 = { q11 with ow := claimed w17 q11.ow (2000 + (nl + 1)), ss := (stRaw xs q.sx vv).2 } := ⟨_, rfl⟩
          have H12 : Hid (OwC w18 w.heap.size ao0 cap0 xs ⟨G, rb, ra, rc, sb, sa, sc, X, b, x, B⟩ cb 3 vv wd da dn dc q12) := by
            rw [hq12]
            exact H11.out.next (OwS.sgo H11.out.ows hk18 _ hrd18) (fun g hg => claimed_old hg) hk18 (fun g hg _ => by simp at hg; subst hg; rw [(H11.out.ows.s rfl).2.1]; decide)
          have HQ12 : Hid (q12.lv = (.slice lo6 (nl + 1) lc6) ∧ q12.ls.length = nl + 1 ∧ q12.wv = (.slice wo8 (nl + 1) wc7) ∧ q12.ws.length = nl + 1 ∧ q12.nw = nl + 1 ∧ q12.cs = q.cs ++ [ys] ∧ q12.es = q.es ++ [⟨ao1, ys.length, cap1, ao1, ys.length, cap1, markOf q.es.length⟩] ∧ q12.sr = (stRaw xs q.sx vv).2 ∧ q12.ss = (stRaw xs q.sx vv).2 ∧ q12.sx = (stRaw xs q.sx vv).2 ∧ q12.o = q1.o) := by
            obtain ⟨r1, r2, r3, r4, r5, r6, r7, r8, r9, r10, r11⟩ := HQ11.out
            rw [hq12]
            exact ⟨r1, r2, r3, r4, r5, r6, r7, r8, rfl, r10, r11⟩
          have hsb : q11.ow sb = 2 := (H11.out.ows.s rfl).2.1
          have HVM2 : Hid (w18.ownsRow w.heap.size 5 1 (.slice am rs.length cm) rs.length (bys rs) ∧ ∀ g, (Value.slice am rs.length cm).ownBlock = some g → q12.ow g = 100 + (q.es.length + 1)) := ⟨Kept.nil_own HVM.out.1 hk18 (fun g hg hm => by
              have h1 := HVM.out.2 g hg
              simp only [List.mem_singleton] at hm
              have h4 : g = sb := hm
              rw [h4, hsb] at h1
              omega), fun g hg => by rw [hq12]; show claimed _ _ _ _ = _; rw [claimed_old (HVM.out.1.lt g hg).2]; exact HVM.out.2 g hg⟩
          have HVO : Hid (w18.ownsRow w.heap.size 5 1 (.slice an rs.length cn) rs.length (bys rs) ∧ ∀ g, (Value.slice an rs.length cn).ownBlock = some g → q12.ow g = 2000 + (nl + 1)) := ⟨own_base hvo H11.out.ows.size, fun g hg => by rw [hq12]; exact claimed_new (hvo.lt g hg).1⟩
          have HDS2 : Hid (Sl w18 ad rs ∧ ∀ a', ad = some a' → q12.ow a'.block = 3000 + (nl + 1) ∧ w.heap.size ≤ a'.block ∧ a'.block < w18.heap.size) := by
            refine ⟨HDS1.out.1.kept hk18 (fun _ a' ha hm => ?_), fun a' ha => ⟨by rw [hq12]; show claimed _ _ _ _ = _; rw [claimed_old (HDS1.out.2 a' ha).2.2]; exact (HDS1.out.2 a' ha).1, (HDS1.out.2 a' ha).2.1, by have := (HDS1.out.2 a' ha).2.2; have := hk18.size; omega⟩⟩
            have h1 := (HDS1.out.2 a' ha).1
            simp only [List.mem_singleton] at hm
            have h4 : a'.block = sb := hm
            rw [h4, hsb] at h1
            omega
          have HB18 : Hid (Below w.heap.size w w18) := HB17.out.trans (hk18.below HB17.out.size (fun g hg => by simp at hg; subst hg; exact (H11.out.ows.s rfl).2.2.1))
          clear hvo hk18 hrd18 hq12 H11 HQ11 HB17 HDS1 HVM f1 e18 hsb
          go_wp2_with (fail)
          refine (bytes_any am ad rs.length cm rs.length cd rs rs _ rfl rfl (by have := HRL.out; omega) (own_sl2 HVM2.out.1) HDS2.out.1).mono ?_
          rintro e w' ⟨rfl, n19, rfl⟩
          simp only [decide_true]
          go_wp2_with (fail)
          refine (bytes_any an ad rs.length cn rs.length cd rs rs _ rfl rfl (by have := HRL.out; omega) (own_sl2 (Kept.nil_own HVO.out.1 ((Kept.refl [] w18).drewN n19) (by simp))) (HDS2.out.1.kept ((Kept.refl [] w18).drewN n19) (by simp))).mono ?_
          rintro e w' ⟨rfl, n20, rfl⟩
          simp only [decide_true]
          have hk19 : Kept [] w18 ((w18.drewN n19).drewN n20) := ((Kept.refl [] w18).drewN n19).drewN n20
          have H13 : Hid (OwC ((w18.drewN n19).drewN n20) w.heap.size ao0 cap0 xs ⟨G, rb, ra, rc, sb, sa, sc, X, b, x, B⟩ cb 3 vv wd da dn dc q12) := H12.out.quiet hk19
          have HVM3 : Hid (((w18.drewN n19).drewN n20).ownsRow w.heap.size 5 1 (.slice am rs.length cm) rs.length (bys rs)) := Kept.nil_own HVM2.out.1 hk19 (by simp)
          have HVO3 : Hid (((w18.drewN n19).drewN n20).ownsRow w.heap.size 5 1 (.slice an rs.length cn) rs.length (bys rs)) := Kept.nil_own HVO.out.1 hk19 (by simp)
          have HDS3 : Hid (Sl ((w18.drewN n19).drewN n20) ad rs) := HDS2.out.1.kept hk19 (by simp)
          have HB19 : Hid (Below w.heap.size w ((w18.drewN n19).drewN n20)) := HB18.out.trans (hk19.below HB18.out.size (by simp))
          have HMO : Hid (∀ g, (Value.slice am rs.length cm).ownBlock = some g → q12.ow g = 100 + (q.es.length + 1)) := HVM2.out.2
          have HOO : Hid (∀ g, (Value.slice an rs.length cn).ownBlock = some g → q12.ow g = 2000 + (nl + 1)) := HVO.out.2
          have HDO : Hid (∀ a', ad = some a' → q12.ow a'.block = 3000 + (nl + 1) ∧ w.heap.size ≤ a'.block ∧ a'.block < w18.heap.size) := HDS2.out.2
          have hsz19 : w18.heap.size = ((w18.drewN n19).drewN n20).heap.size := rfl
          rw [hsz19] at HDO
          generalize (w18.drewN n19).drewN n20 = w20 at H13 HVM3 HVO3 HDS3 HB19 HDO hk19 ⊢
          clear hk19 hsz19 H12 HVM2 HVO HDS2 HB18
          go_wp2_with (fail)
          have hbook := (H13.out.ows.book (fun _ _ => rfl)).1
          have hel : q12.es.length = q.es.length + 1 := by rw [HQ12.out.2.2.2.2.2.2.1]; simp
          have hel2 : q.es.length ≤ 120 := by have := HF.out.l5; omega
          refine (bktake_ok hbook.bk (by show q12.es.length ≤ 1000; omega) am rs.length cm rs HVM3.out (by have := HRL.out; omega) (fun e => by
            have h1 : q12.ow B = 100 + (q.es.length + 1) := HMO.out _ e
            have h2 : q12.ow B = 5 := hbook.oB
            omega) (fun g hg e => by
            have h1 := HMO.out _ hg
            have h3 : q12.ow g = 6 := hbook.oR g e
            omega) H13.out.ows.size).mono ?_
          rintro e w21 ⟨rfl, ht⟩
          have hkt : Kept (B :: q12.rv.ownBlock.toList ++ (Value.slice am rs.length cm).ownBlock.toList) w20 w21 := by obtain ⟨_, _, _, h, _⟩ := ht; exact h
          have hids : ∀ g, g ∈ B :: q12.rv.ownBlock.toList ++ (Value.slice am rs.length cm).ownBlock.toList → (q12.ow g = 5 ∨ q12.ow g = 6 ∨ q12.ow g = 100 + (q.es.length + 1)) ∧ w.heap.size ≤ g := fun g hg => by
            simp only [List.cons_append, List.mem_cons, List.mem_append, Option.mem_toList] at hg
            rcases hg with rfl | hg | hg
            · exact ⟨.inl hbook.oB, (H13.out.ows.book (fun _ _ => rfl)).2⟩
            · exact ⟨.inr (.inl (hbook.oR g hg)), (hbook.bk.own.lt g hg).1⟩
            · exact ⟨.inr (.inr (HMO.out g hg)), (HVM3.out.lt g hg).1⟩
          obtain ⟨rv13, how13⟩ := OwS.took H13.out.ows HVM3.out (by rw [hel]; exact HMO.out) (by omega) ht
          obtain ⟨q13, hq13⟩ : ∃ q13 : Vr, q13 = { q12 with ow := claimed w20 q12.ow 6, rv := rv13, es := q12.es ++ [⟨am, rs.length, cm, am, rs.length, cm, markOf q12.es.length⟩] } := ⟨_, rfl⟩
          have H14' : Hid (OwC w21 w.heap.size ao0 cap0 xs ⟨G, rb, ra, rc, sb, sa, sc, X, b, x, B⟩ cb 3 vv wd da dn dc q13) := by
            rw [hq13]
            exact H13.out.next how13 (fun g hg => claimed_old hg) hkt (fun g hg _ => by have h1 := (hids g hg).1; omega)
          have HQ13 : Hid (q13.lv = (.slice lo6 (nl + 1) lc6) ∧ q13.ls.length = nl + 1 ∧ q13.wv = (.slice wo8 (nl + 1) wc7) ∧ q13.ws.length = nl + 1 ∧ q13.nw = nl + 1 ∧ q13.cs = q.cs ++ [ys] ∧ q13.es = q.es ++ [⟨ao1, ys.length, cap1, ao1, ys.length, cap1, markOf q.es.length⟩] ++ [⟨am, rs.length, cm, am, rs.length, cm, markOf (q.es.length + 1)⟩] ∧ q13.sr = (stRaw xs q.sx vv).2 ∧ q13.ss = (stRaw xs q.sx vv).2 ∧ q13.sx = (stRaw xs q.sx vv).2 ∧ q13.o = q1.o) := by
            obtain ⟨r1, r2, r3, r4, r5, r6, r7, r8, r9, r10, r11⟩ := HQ12.out
            rw [hq13]
            exact ⟨r1, r2, r3, r4, r5, r6, by show q12.es ++ _ = _; rw [hel, r7], r8, r9, r10, r11⟩
          have HVO4 : Hid (w21.ownsRow w.heap.size 5 1 (.slice an rs.length cn) rs.length (bys rs)) := Kept.nil_own HVO3.out hkt (fun g hg hm => by
            have h1 := (hids g hm).1
            have h2 := HOO.out g hg
            omega)
          have HOO4 : Hid (∀ g, (Value.slice an rs.length cn).ownBlock = some g → q13.ow g = 2000 + (nl + 1)) := fun g hg => by
            rw [hq13]
            show claimed w20 _ 6 g = _
            rw [claimed_old (HVO3.out.lt g hg).2, HOO.out g hg]
          have HDS4 : Hid (Sl w21 ad rs) := HDS3.out.kept hkt (fun _ a' ha hm => by
            have h1 := (hids _ hm).1
            have h2 := (HDO.out a' ha).1
            omega)
          have HDO4 : Hid (∀ a', ad = some a' → q13.ow a'.block = 3000 + (nl + 1) ∧ w.heap.size ≤ a'.block ∧ a'.block < w21.heap.size) := fun a' ha => ⟨by rw [hq13]; show claimed w20 _ 6 _ = _; rw [claimed_old (HDO.out a' ha).2.2]; exact (HDO.out a' ha).1, (HDO.out a' ha).2.1, by have := (HDO.out a' ha).2.2; have := hkt.size; omega⟩
          have HB20 : Hid (Below w.heap.size w w21) := HB19.out.trans (hkt.below HB19.out.size (fun g hg => (hids g hg).2))
          have H14'' := H14'.out.told rs (by rw [HQ13.out.2.2.2.2.2.1, List.length_append]; simp; omega)
          obtain ⟨q14, hq14⟩ : ∃ q14 : Vr, q14 = { q13 with cs := q13.cs ++ [rs] } := ⟨_, rfl⟩
          have H14 : Hid (OwC w21 w.heap.size ao0 cap0 xs ⟨G, rb, ra, rc, sb, sa, sc, X, b, x, B⟩ cb 3 vv wd da dn dc q14) := by rw [hq14]; exact H14''
          have HQ14 : Hid (q14.lv = (.slice lo6 (nl + 1) lc6) ∧ q14.ls.length = nl + 1 ∧ q14.wv = (.slice wo8 (nl + 1) wc7) ∧ q14.ws.length = nl + 1 ∧ q14.nw = nl + 1 ∧ q14.cs = q.cs ++ [ys] ++ [rs] ∧ q14.es = q.es ++ [⟨ao1, ys.length, cap1, ao1, ys.length, cap1, markOf q.es.length⟩] ++ [⟨am, rs.length, cm, am, rs.length, cm, markOf (q.es.length + 1)⟩] ∧ q14.sr = (stRaw xs q.sx vv).2 ∧ q14.ss = (stRaw xs q.sx vv).2 ∧ q14.sx = (stRaw xs q.sx vv).2 ∧ q14.o = q1.o) := by
            obtain ⟨r1, r2, r3, r4, r5, r6, r7, r8, r9, r10, r11⟩ := HQ13.out
            rw [hq14]
            exact ⟨r1, r2, r3, r4, r5, by show q13.cs ++ _ = _; rw [r6], r7, r8, r9, r10, r11⟩
          have HOO5 : Hid (∀ g, (Value.slice an rs.length cn).ownBlock = some g → q14.ow g = 2000 + (nl + 1)) := by rw [hq14]; exact HOO4.out
          have HDO5 : Hid (∀ a', ad = some a' → q14.ow a'.block = 3000 + (nl + 1) ∧ w.heap.size ≤ a'.block ∧ a'.block < w21.heap.size) := by rw [hq14]; exact HDO4.out
          clear hbook hids hkt ht how13 hq13 hq14 H13 H14' H14'' HVM3 HVO3 HDS3 HB19 HMO HOO HDO HOO4 HDO4 HQ12 HQ13 hel
          have HLV : Hid (∀ ob, (w21.alloc ob).ownsRow w.heap.size 32 1 (.slice lo6 (nl + 1) lc6) (nl + 1) q14.ls) := fun ob => by
            have h2 := (H14.out.ows.left rfl).1
            rw [HQ14.out.2.1, HQ14.out.1] at h2
            exact Kept.nil_own h2 ((Kept.refl [] w21).alloc ob) (by simp)
          have HSZ : Hid (w.heap.size ≤ w21.heap.size) := H14.out.ows.size
          go_wp2_with (at_builtin; refine wpList_append_own_at _ rfl _ _ 68 rfl w.heap.size 32 i1 (.slice none 0 0) 1 24 Try.underlying68 hi1 hy0 hy1 hy2 rfl (by decide) _ _ _ rfl (HLV.out _) ⟨w21.heap.size, 0, none⟩ 1 1 [.slice an rs.length cn] rfl rfl (one_cells _ _ _ _) (by simp [Value.oneCell']) ?c3 ?c4 ?c5 ?_)
          case c3 => unfold maxLen; omega
          case c4 => omega
          case c5 => have := HSZ.out; simp; omega
          intro v' w22 hown hgrow hnn hat
          obtain ⟨lo9, lc9, hsh⟩ := own_shape hown
          subst hsh
          have hk22 : Kept (Value.slice lo6 (nl + 1) lc6).ownBlock.toList w21 w22 := ((Kept.refl _ w21).alloc _).grown hgrow (fun g hg _ => by simp [hg])
          have HCJ : Hid (q14.cs.getD (nl + 1) [] = rs ∧ q14.cs.length = nl + 2) := by
            rw [HQ14.out.2.2.2.2.2.1, HQ.out.2.2]
            exact ⟨by simp, by simp⟩
          have HL6 : Hid (∀ g, g ∈ (Value.slice lo6 (nl + 1) lc6).ownBlock.toList → q14.ow g = 7 ∧ w.heap.size ≤ g) := fun g hg => by
            have h1 := (H14.out.ows.left rfl).2
            have h2 := (H14.out.ows.left rfl).1
            rw [HQ14.out.1] at h1 h2
            rw [Option.mem_toList] at hg
            exact ⟨h1 g hg, (h2.lt g hg).1⟩
          obtain ⟨q15, hq15⟩ : ∃ q15 : Vr, q15 = { q14 with ow := claimed w21 q14.ow 7, lv := .slice lo9 (nl + 1 + 1) lc9, ls := q14.ls ++ [.slice an rs.length cn] } := ⟨_, rfl⟩
          have H15 : Hid (OwC w22 w.heap.size ao0 cap0 xs ⟨G, rb, ra, rc, sb, sa, sc, X, b, x, B⟩ cb 3 vv wd da dn dc q15) := by
            rw [hq15]
            refine H14.out.next (OwS.lapp H14.out.ows (by rw [HQ14.out.2.1]; exact hown) (by rw [HQ14.out.1]; exact hk22) ?_ (by rw [HQ14.out.2.1, HCJ.out.1]; exact HVO4.out) (by rw [HQ14.out.2.1]; exact HOO5.out) (by rw [HQ14.out.2.1, HCJ.out.2]; omega)) (fun g hg => claimed_old hg) hk22 (fun g hg _ => by rw [(HL6.out g hg).1]; decide)
            rw [HQ14.out.1]
            rcases hat with h1 | h1
            · exact .inl h1
            · exact .inr (fun g hg => by rw [h1] at hg; cases hg; omega)
          have HQ15 : Hid (q15.lv = (.slice lo9 (nl + 1 + 1) lc9) ∧ q15.ls.length = nl + 1 + 1 ∧ q15.wv = (.slice wo8 (nl + 1) wc7) ∧ q15.ws.length = nl + 1 ∧ q15.nw = nl + 1 ∧ q15.cs = q.cs ++ [ys] ++ [rs] ∧ q15.es = q.es ++ [⟨ao1, ys.length, cap1, ao1, ys.length, cap1, markOf q.es.length⟩] ++ [⟨am, rs.length, cm, am, rs.length, cm, markOf (q.es.length + 1)⟩] ∧ q15.sr = (stRaw xs q.sx vv).2 ∧ q15.ss = (stRaw xs q.sx vv).2 ∧ q15.sx = (stRaw xs q.sx vv).2 ∧ q15.o = q1.o) := by
            obtain ⟨r1, r2, r3, r4, r5, r6, r7, r8, r9, r10, r11⟩ := HQ14.out
            rw [hq15]
            exact ⟨rfl, by show (q14.ls ++ _).length = _; rw [List.length_append, r2]; rfl, r3, r4, r5, r6, r7, r8, r9, r10, r11⟩
          have HDS5 : Hid (Sl w22 ad rs) := HDS4.out.kept hk22 (fun _ a' ha hm => by
            have h1 := (HL6.out _ hm).1
            have h2 := (HDO5.out a' ha).1
            omega)
          have HDO6 : Hid (∀ a', ad = some a' → q15.ow a'.block = 3000 + (nl + 1) ∧ w.heap.size ≤ a'.block ∧ a'.block < w22.heap.size) := fun a' ha => ⟨by rw [hq15]; show claimed w21 _ 7 _ = _; rw [claimed_old (HDO5.out a' ha).2.2]; exact (HDO5.out a' ha).1, (HDO5.out a' ha).2.1, by have := (HDO5.out a' ha).2.2; have := hk22.size; omega⟩
          have HB21 : Hid (Below w.heap.size w w22) := HB20.out.trans (hk22.below HB20.out.size (fun g hg => (HL6.out g hg).2))
          clear hown hgrow hnn hat hk22 HL6 hq15 H14 HQ14 HVO4 HOO5 HB20 HLV HSZ HDS4 HDO5
          have HWV : Hid (∀ ob, (w22.alloc ob).ownsRow w.heap.size 32 1 (.slice wo8 (nl + 1) wc7) (nl + 1) q15.ws) := fun ob => by
            have h2 := (H15.out.ows.want rfl).1
            rw [HQ15.out.2.2.2.1, HQ15.out.2.2.1] at h2
            exact Kept.nil_own h2 ((Kept.refl [] w22).alloc ob) (by simp)
          have HSZ : Hid (w.heap.size ≤ w22.heap.size) := H15.out.ows.size
          go_wp2_with (at_builtin; refine wpList_append_own_at _ rfl _ _ 68 rfl w.heap.size 32 i1 (.slice none 0 0) 1 24 Try.underlying68 hi1 hy0 hy1 hy2 rfl (by decide) _ _ _ rfl (HWV.out _) ⟨w22.heap.size, 0, none⟩ 1 1 [.slice ad rs.length cd] rfl rfl (one_cells _ _ _ _) (by simp [Value.oneCell']) ?c3 ?c4 ?c5 ?_)
          case c3 => unfold maxLen; omega
          case c4 => omega
          case c5 => have := HSZ.out; simp; omega
          intro v' w23 hown hgrow hnn hat
          obtain ⟨wo9, wc9, hsh⟩ := own_shape hown
          subst hsh
          have hk23 : Kept (Value.slice wo8 (nl + 1) wc7).ownBlock.toList w22 w23 := ((Kept.refl _ w22).alloc _).grown hgrow (fun g hg _ => by simp [hg])
          have HL7 : Hid (∀ g, g ∈ (Value.slice wo8 (nl + 1) wc7).ownBlock.toList → q15.ow g = 8 ∧ w.heap.size ≤ g) := fun g hg => by
            have h1 := (H15.out.ows.want rfl).2
            have h2 := (H15.out.ows.want rfl).1
            rw [HQ15.out.2.2.1] at h1 h2
            rw [Option.mem_toList] at hg
            exact ⟨h1 g hg, (h2.lt g hg).1⟩
          have H16 : Hid (OwC w23 w.heap.size ao0 cap0 xs ⟨G, rb, ra, rc, sb, sa, sc, X, b, x, B⟩ cb 3 vv wd da dn dc { q15 with ow := claimed w22 q15.ow 8, wv := .slice wo9 (nl + 1 + 1) wc9, ws := q15.ws ++ [.slice ad rs.length cd] }) := by
            refine H15.out.next (OwS.wapp H15.out.ows (by rw [HQ15.out.2.2.2.1]; exact hown) (by rw [HQ15.out.2.2.1]; exact hk23) ?_) (fun g hg => claimed_old hg) hk23 (fun g hg _ => by rw [(HL7.out g hg).1]; decide)
            rw [HQ15.out.2.2.1]
            rcases hat with h1 | h1
            · exact .inl h1
            · exact .inr (fun g hg => by rw [h1] at hg; cases hg; omega)
          obtain ⟨q16, hq16⟩ : ∃ q16 : Vr, q16 = { ({ q15 with ow := claimed w22 q15.ow 8, wv := .slice wo9 (nl + 1 + 1) wc9, ws := q15.ws ++ [.slice ad rs.length cd] } : Vr) with nw := q15.nw + 1 } := ⟨_, rfl⟩
          have H17 : Hid (OwC w23 w.heap.size ao0 cap0 xs ⟨G, rb, ra, rc, sb, sa, sc, X, b, x, B⟩ cb 3 vv wd da dn dc q16) := by
            rw [hq16]
            refine ⟨OwS.wok H16.out.ows ?_ ?_ ?_, H16.out.ocb, H16.out.c0, H16.out.c1, H16.out.c2, H16.out.c3⟩
            · show q15.nw < (q15.ws ++ [_]).length
              rw [List.length_append, HQ15.out.2.2.2.2.1, HQ15.out.2.2.2.1]
              exact Nat.lt_succ_self _
            · show q15.nw < q15.cs.length
              rw [HQ15.out.2.2.2.2.1, HQ15.out.2.2.2.2.2.1, HQ.out.2.2]
              simp
            · show WantIt _ _ (claimed w22 q15.ow 8) q15.nw ((q15.ws ++ [_]).getD q15.nw (.slice none 0 0)) (q15.cs.getD q15.nw [])
              have e1 : (q15.ws ++ [Value.slice ad rs.length cd]).getD (nl + 1) (.slice none 0 0) = .slice ad rs.length cd := by rw [← HQ15.out.2.2.2.1]; simp
              have e2 : q15.cs.getD (nl + 1) [] = rs := by rw [HQ15.out.2.2.2.2.2.1, HQ.out.2.2]; simp
              rw [HQ15.out.2.2.2.2.1, e1, e2]
              refine ⟨ad, cd, rfl, HDS5.out.kept hk23 (fun _ a' ha hm => ?_), fun a' ha => ⟨?_, (HDO6.out a' ha).2.1, ?_⟩⟩
              · have h1 := (HL7.out _ hm).1
                have h2 := (HDO6.out a' ha).1
                omega
              · rw [claimed_old (HDO6.out a' ha).2.2]
                exact (HDO6.out a' ha).1
              · have := (HDO6.out a' ha).2.2
                have := hk23.size
                omega
          have HQ16 : Hid (q16.lv = (.slice lo9 (nl + 1 + 1) lc9) ∧ q16.ls.length = nl + 1 + 1 ∧ q16.wv = (.slice wo9 (nl + 1 + 1) wc9) ∧ q16.ws.length = nl + 1 + 1 ∧ q16.nw = nl + 1 + 1 ∧ q16.cs = q.cs ++ [ys] ++ [rs] ∧ q16.es = q.es ++ [⟨ao1, ys.length, cap1, ao1, ys.length, cap1, markOf q.es.length⟩] ++ [⟨am, rs.length, cm, am, rs.length, cm, markOf (q.es.length + 1)⟩] ∧ q16.sr = (stRaw xs q.sx vv).2 ∧ q16.ss = (stRaw xs q.sx vv).2 ∧ q16.sx = (stRaw xs q.sx vv).2 ∧ q16.o = q1.o) := by
            obtain ⟨r1, r2, r3, r4, r5, r6, r7, r8, r9, r10, r11⟩ := HQ15.out
            rw [hq16]
            exact ⟨r1, r2, rfl, by show (q15.ws ++ _).length = _; rw [List.length_append, r4]; rfl, by show q15.nw + 1 = _; rw [r5], r6, r7, r8, r9, r10, r11⟩
          have HB22 : Hid (Below w.heap.size w w23) := HB21.out.trans (hk23.below HB21.out.size (fun g hg => (HL7.out g hg).2))
          have HFIN : Hid (OwL w w23 ao0 cap0 xs ⟨G, rb, ra, rc, sb, sa, sc, X, b, x, B⟩ q16 (k + 1)) := by
            obtain ⟨r1, r2, r3, r4, r5, r6, r7, r8, r9, r10, r11⟩ := HQ16.out
            have hcn : q16.cs.length = nl + 1 + 1 := by rw [r6, HQ.out.2.2]; simp
            have hl4 := HF.out.l4
            have hl5 := HF.out.l5
            have hnc := HQ.out.2.2
            refine ⟨H17.out.ows, by rw [r8, r10], by rw [r9, r10], by rw [r2, hcn], by rw [r4, hcn], by rw [r5, hcn], by omega, by rw [r7]; simp; omega, by rw [r11]; exact HOL1.out, fun j hj => ?_, fun j hj => ?_, by omega, HB22.out⟩
            · rw [r6]
              exact getD_two HF.out.m1 hyl (by have := HRL.out; omega) j
            · rw [r7]
              exact getD_two2 HF.out.m2 hyl (by have := HRL.out; show rs.length ≤ _; omega) j
          clear hown hgrow hnn hat hk23 HL7 hq16 H15 H16 H17 HQ15 HB21 HB22 HWV HSZ HDS5 HDO6 HCJ HRS HRL
          have HLW : Hid (q16.lv = .slice lo9 (nl + 1 + 1) lc9 ∧ q16.wv = .slice wo9 (nl + 1 + 1) wc9 ∧ nl + 1 + 1 = q16.cs.length) := ⟨HQ16.out.1, HQ16.out.2.2.1, by rw [HQ16.out.2.2.2.2.2.1, HQ.out.2.2]; simp⟩
          clear HQ16
          go_wp2_with (fail)
          refine (lwrote_any (HFIN.out.ows.pr rfl).1.wr (HFIN.out.ows.pr rfl).1.wd HFIN.out.short).mono ?_
          rintro e w30 ⟨rfl, hk30⟩
          have HFI1 : Hid (OwL w w30 ao0 cap0 xs ⟨G, rb, ra, rc, sb, sa, sc, X, b, x, B⟩ q16 (k + 1)) := HFIN.out.quiet hk30
          clear hk30 HFIN
          go_wp2_with (fail)
          refine (bkstill_ok (HFI1.out.ows.book (fun _ _ => rfl)).1.bk (by have := HFI1.out.l5; omega) (fun i hi' => ((HFI1.out.ows.book (fun _ _ => rfl)).1.en i hi').toR (Nat.le_trans (HFI1.out.m2 i hi') (by omega)))).mono ?_
          rintro e w31 ⟨rfl, hk31⟩
          have HFI2 : Hid (OwL w w31 ao0 cap0 xs ⟨G, rb, ra, rc, sb, sa, sc, X, b, x, B⟩ q16 (k + 1)) := HFI1.out.quiet hk31
          clear hk31 HFI1
          go_wp2_with (fail)
          refine (bytes_any (some ⟨G, 0, none⟩) ao0 n0 (n0 + 70) n0 cap0 xs xs _ HIN.out.len HIN.out.len (by omega) (HFI2.out.ows.given rfl).1 (HIN.out.sl.kept (Kept.of_below HFI2.out.below) (by simp))).mono ?_
          rintro e w' ⟨rfl, n32, rfl⟩
          simp only [decide_true]
          have HFI3 : Hid (OwL w (w31.drewN n32) ao0 cap0 xs ⟨G, rb, ra, rc, sb, sa, sc, X, b, x, B⟩ q16 (k + 1)) := HFI2.out.quiet ((Kept.refl [] w31).drewN n32)
          clear HFI2
          go_wp2
          go_roundw
          case rel => exact ⟨k + 1, q16, lo9, wo9, nl + 1 + 1, lc9, wc9, by omega, by omega, rfl, rfl, by go_num, HLW, HFI3⟩
          case measure => simp [intOf]; omega
        by_cases hk4 : kd = 4
        · subst hk4
          clear hk3
          have c0 := H9.out.c0
          have c1 := H9.out.c1
          go_wp2_with (fail)
          rw [← hwo8]
          clear g0 g1 g2 g3
          generalize w14.setCell _ _ = w15 at H9 HB15 c0 c1 ⊢
          clear hwg14 hwf14 hwo8
          refine (taketext_st (H9.out.ows.rf rfl).1 vv).mono ?_
          rintro e w16 ⟨⟨ad, cd, rfl, hfr⟩, hk16, hrf16⟩
          obtain ⟨rs, hrs⟩ : ∃ rs, rs = (stText xs q.sx vv).1 := ⟨_, rfl⟩
          have HRS : Hid ((stText xs q.sx vv).1 = rs) := hrs.symm
          have HRL : Hid (rs.length ≤ 200000) := by show _ ≤ _; rw [hrs]; exact Nat.le_trans (stText_le xs q.sx vv) (by rw [HIN.out.len]; exact hn0)
          clear hrs
          have e16 : q9.sx = q.sx := HQ9.out.2.2.2.2.2.2.2.2.2.1
          rw [e16, HRS.out] at hfr ⊢
          rw [e16] at hrf16
          obtain ⟨q10, hq10⟩ : ∃ q10 : Vr, q10 = { q9 with ow := claimed w15 q9.ow (3000 + (nl + 1)), sx := (stText xs q.sx vv).2 } := ⟨_, rfl⟩
          have H10 : Hid (OwC w16 w.heap.size ao0 cap0 xs ⟨G, rb, ra, rc, sb, sa, sc, X, b, x, B⟩ cb 4 vv wd da dn dc q10) := by
            rw [hq10]
            exact H9.out.next (OwS.xgo H9.out.ows hk16 _ hrf16) (fun g hg => claimed_old hg) hk16 (fun g hg _ => by simp at hg; subst hg; rw [(H9.out.ows.rf rfl).2.1]; decide)
          have HQ10 : Hid (q10.lv = (.slice lo6 (nl + 1) lc6) ∧ q10.ls.length = nl + 1 ∧ q10.wv = (.slice wo8 (nl + 1) wc7) ∧ q10.ws.length = nl + 1 ∧ q10.nw = nl + 1 ∧ q10.cs = q.cs ++ [ys] ∧ q10.es = q.es ++ [⟨ao1, ys.length, cap1, ao1, ys.length, cap1, markOf q.es.length⟩] ∧ q10.sr = q.sx ∧ q10.ss = q.sx ∧ q10.sx = (stText xs q.sx vv).2 ∧ q10.o = q1.o) := by
            obtain ⟨r1, r2, r3, r4, r5, r6, r7, r8, r9, r10, r11⟩ := HQ9.out
            rw [hq10]
            exact ⟨r1, r2, r3, r4, r5, r6, r7, r8, r9, rfl, r11⟩
          have HDS : Hid (Sl w16 ad rs ∧ ∀ a', ad = some a' → q10.ow a'.block = 3000 + (nl + 1) ∧ w.heap.size ≤ a'.block ∧ a'.block < w16.heap.size) := ⟨hfr.1, fun a' ha => ⟨by rw [hq10]; exact claimed_new (hfr.2.2.2 a' ha).1, by have := (hfr.2.2.2 a' ha).1; have := H9.out.ows.size; omega, (hfr.2.2.2 a' ha).2.1⟩⟩
          have HB16 : Hid (Below w.heap.size w w16) := HB15.out.trans (hk16.below HB15.out.size (fun g hg => by simp at hg; subst hg; exact (H9.out.ows.rf rfl).2.2))
          have d1 := H10.out.c1
          clear hfr hk16 hrf16 hq10 H9 HQ9 HB15 c0 c1 e16
          go_wp2_with (fail)
          refine (text_ow (H10.out.ows.r rfl).1 vv).mono ?_
          rintro e w17 ⟨⟨vm, rfl, hvm⟩, hk17, hrd17⟩
          have e17 : q10.sr = q.sx := HQ10.out.2.2.2.2.2.2.2.1
          rw [e17, HRS.out] at hvm
          rw [e17] at hrd17
          obtain ⟨am, cm, hsh⟩ := own_shape hvm
          subst hsh
          obtain ⟨q11, hq11⟩ : ∃ q11 : Vr, q11 = { q10 with ow := claimed w16 q10.ow (100 + (q.es.length + 1)), sr := (stText xs q.sx vv).2 } := ⟨_, rfl⟩
          have H11 : Hid (OwC w17 w.heap.size ao0 cap0 xs ⟨G, rb, ra, rc, sb, sa, sc, X, b, x, B⟩ cb 4 vv wd da dn dc q11) := by
            rw [hq11]
            exact H10.out.next (OwS.rgo H10.out.ows hk17 _ hrd17) (fun g hg => claimed_old hg) hk17 (fun g hg _ => by simp at hg; subst hg; rw [(H10.out.ows.r rfl).2.1]; decide)
          have HQ11 : Hid (q11.lv = (.slice lo6 (nl + 1) lc6) ∧ q11.ls.length = nl + 1 ∧ q11.wv = (.slice wo8 (nl + 1) wc7) ∧ q11.ws.length = nl + 1 ∧ q11.nw = nl + 1 ∧ q11.cs = q.cs ++ [ys] ∧ q11.es = q.es ++ [⟨ao1, ys.length, cap1, ao1, ys.length, cap1, markOf q.es.length⟩] ∧ q11.sr = (stText xs q.sx vv).2 ∧ q11.ss = q.sx ∧ q11.sx = (stText xs q.sx vv).2 ∧ q11.o = q1.o) := by
            obtain ⟨r1, r2, r3, r4, r5, r6, r7, r8, r9, r10, r11⟩ := HQ10.out
            rw [hq11]
            exact ⟨r1, r2, r3, r4, r5, r6, r7, rfl, r9, r10, r11⟩
          have HVM : Hid (w17.ownsRow w.heap.size 5 1 (.slice am rs.length cm) rs.length (bys rs) ∧ ∀ g, (Value.slice am rs.length cm).ownBlock = some g → q11.ow g = 100 + (q.es.length + 1)) := ⟨own_base hvm H10.out.ows.size, fun g hg => by rw [hq11]; exact claimed_new (hvm.lt g hg).1⟩
          have HDS1 : Hid (Sl w17 ad rs ∧ ∀ a', ad = some a' → q11.ow a'.block = 3000 + (nl + 1) ∧ w.heap.size ≤ a'.block ∧ a'.block < w17.heap.size) := by
            refine ⟨HDS.out.1.kept hk17 (fun _ a' ha hm => ?_), fun a' ha => ⟨by rw [hq11]; show claimed _ _ _ _ = _; rw [claimed_old (HDS.out.2 a' ha).2.2]; exact (HDS.out.2 a' ha).1, (HDS.out.2 a' ha).2.1, by have := (HDS.out.2 a' ha).2.2; have := hk17.size; omega⟩⟩
            have h1 := (HDS.out.2 a' ha).1
            have h2 := (H10.out.ows.r rfl).2.1
            simp only [List.mem_singleton] at hm
            rw [hm] at h1
            have h3 : q10.ow rb = 1 := h2
            have h4 : q10.ow rb = 3000 + (nl + 1) := h1
            omega
          have HB17 : Hid (Below w.heap.size w w17) := HB16.out.trans (hk17.below HB16.out.size (fun g hg => by simp at hg; subst hg; exact (H10.out.ows.r rfl).2.2.1))
          have f1 := H11.out.c1
          clear hvm hk17 hrd17 hq11 H10 HQ10 HB16 HDS d1 e17
          go_wp2_with (fail)
          refine (text_ow (H11.out.ows.s rfl).1 vv).mono ?_
          rintro e w18 ⟨⟨vo, rfl, hvo⟩, hk18, hrd18⟩
          have e18 : q11.ss = q.sx := HQ11.out.2.2.2.2.2.2.2.2.1
          rw [e18, HRS.out] at hvo
          rw [e18] at hrd18
          obtain ⟨an, cn, hsh⟩ := own_shape hvo
          subst hsh
          obtain ⟨q12, hq12⟩ : ∃ q12 : Vr, q12 = { q11 with ow := claimed w17 q11.ow (2000 + (nl + 1)), ss := (stText xs q.sx vv).2 } := ⟨_, rfl⟩
          have H12 : Hid (OwC w18 w.heap.size ao0 cap0 xs ⟨G, rb, ra, rc, sb, sa, sc, X, b, x, B⟩ cb 4 vv wd da dn dc q12) := by
            rw [hq12]
            exact H11.out.next (OwS.sgo H11.out.ows hk18 _ hrd18) (fun g hg => claimed_old hg) hk18 (fun g hg _ => by simp at hg; subst hg; rw [(H11.out.ows.s rfl).2.1]; decide)
          have HQ12 : Hid (q12.lv = (.slice lo6 (nl + 1) lc6) ∧ q12.ls.length = nl + 1 ∧ q12.wv = (.slice wo8 (nl + 1) wc7) ∧ q12.ws.length = nl + 1 ∧ q12.nw = nl + 1 ∧ q12.cs = q.cs ++ [ys] ∧ q12.es = q.es ++ [⟨ao1, ys.length, cap1, ao1, ys.length, cap1, markOf q.es.length⟩] ∧ q12.sr = (stText xs q.sx vv).2 ∧ q12.ss = (stText xs q.sx vv).2 ∧ q12.sx = (stText xs q.sx vv).2 ∧ q12.o = q1.o) := by
            obtain ⟨r1, r2, r3, r4, r5, r6, r7, r8, r9, r10, r11⟩ := HQ11.out
            rw [hq12]
            exact ⟨r1, r2, r3, r4, r5, r6, r7, r8, rfl, r10, r11⟩
          have hsb : q11.ow sb = 2 := (H11.out.ows.s rfl).2.1
          have HVM2 : Hid (w18.ownsRow w.heap.size 5 1 (.slice am rs.length cm) rs.length (bys rs) ∧ ∀ g, (Value.slice am rs.length cm).ownBlock = some g → q12.ow g = 100 + (q.es.length + 1)) := ⟨Kept.nil_own HVM.out.1 hk18 (fun g hg hm => by
              have h1 := HVM.out.2 g hg
              simp only [List.mem_singleton] at hm
              have h4 : g = sb := hm
              rw [h4, hsb] at h1
              omega), fun g hg => by rw [hq12]; show claimed _ _ _ _ = _; rw [claimed_old (HVM.out.1.lt g hg).2]; exact HVM.out.2 g hg⟩
          have HVO : Hid (w18.ownsRow w.heap.size 5 1 (.slice an rs.length cn) rs.length (bys rs) ∧ ∀ g, (Value.slice an rs.length cn).ownBlock = some g → q12.ow g = 2000 + (nl + 1)) := ⟨own_base hvo H11.out.ows.size, fun g hg => by rw [hq12]; exact claimed_new (hvo.lt g hg).1⟩
          have HDS2 : Hid (Sl w18 ad rs ∧ ∀ a', ad = some a' → q12.ow a'.block = 3000 + (nl + 1) ∧ w.heap.size ≤ a'.block ∧ a'.block < w18.heap.size) := by
            refine ⟨HDS1.out.1.kept hk18 (fun _ a' ha hm => ?_), fun a' ha => ⟨by rw [hq12]; show claimed _ _ _ _ = _; rw [claimed_old (HDS1.out.2 a' ha).2.2]; exact (HDS1.out.2 a' ha).1, (HDS1.out.2 a' ha).2.1, by have := (HDS1.out.2 a' ha).2.2; have := hk18.size; omega⟩⟩
            have h1 := (HDS1.out.2 a' ha).1
            simp only [List.mem_singleton] at hm
            have h4 : a'.block = sb := hm
            rw [h4, hsb] at h1
            omega
          have HB18 : Hid (Below w.heap.size w w18) := HB17.out.trans (hk18.below HB17.out.size (fun g hg => by simp at hg; subst hg; exact (H11.out.ows.s rfl).2.2.1))
          clear hvo hk18 hrd18 hq12 H11 HQ11 HB17 HDS1 HVM f1 e18 hsb
          go_wp2_with (fail)
          refine (bytes_any am ad rs.length cm rs.length cd rs rs _ rfl rfl (by have := HRL.out; omega) (own_sl2 HVM2.out.1) HDS2.out.1).mono ?_
          rintro e w' ⟨rfl, n19, rfl⟩
          simp only [decide_true]
          go_wp2_with (fail)
          refine (bytes_any an ad rs.length cn rs.length cd rs rs _ rfl rfl (by have := HRL.out; omega) (own_sl2 (Kept.nil_own HVO.out.1 ((Kept.refl [] w18).drewN n19) (by simp))) (HDS2.out.1.kept ((Kept.refl [] w18).drewN n19) (by simp))).mono ?_
          rintro e w' ⟨rfl, n20, rfl⟩
          simp only [decide_true]
          have hk19 : Kept [] w18 ((w18.drewN n19).drewN n20) := ((Kept.refl [] w18).drewN n19).drewN n20
          have H13 : Hid (OwC ((w18.drewN n19).drewN n20) w.heap.size ao0 cap0 xs ⟨G, rb, ra, rc, sb, sa, sc, X, b, x, B⟩ cb 4 vv wd da dn dc q12) := H12.out.quiet hk19
          have HVM3 : Hid (((w18.drewN n19).drewN n20).ownsRow w.heap.size 5 1 (.slice am rs.length cm) rs.length (bys rs)) := Kept.nil_own HVM2.out.1 hk19 (by simp)
          have HVO3 : Hid (((w18.drewN n19).drewN n20).ownsRow w.heap.size 5 1 (.slice an rs.length cn) rs.length (bys rs)) := Kept.nil_own HVO.out.1 hk19 (by simp)
          have HDS3 : Hid (Sl ((w18.drewN n19).drewN n20) ad rs) := HDS2.out.1.kept hk19 (by simp)
          have HB19 : Hid (Below w.heap.size w ((w18.drewN n19).drewN n20)) := HB18.out.trans (hk19.below HB18.out.size (by simp))
          have HMO : Hid (∀ g, (Value.slice am rs.length cm).ownBlock = some g → q12.ow g = 100 + (q.es.length + 1)) := HVM2.out.2
          have HOO : Hid (∀ g, (Value.slice an rs.length cn).ownBlock = some g → q12.ow g = 2000 + (nl + 1)) := HVO.out.2
          have HDO : Hid (∀ a', ad = some a' → q12.ow a'.block = 3000 + (nl + 1) ∧ w.heap.size ≤ a'.block ∧ a'.block < w18.heap.size) := HDS2.out.2
          have hsz19 : w18.heap.size = ((w18.drewN n19).drewN n20).heap.size := rfl
          rw [hsz19] at HDO
          generalize (w18.drewN n19).drewN n20 = w20 at H13 HVM3 HVO3 HDS3 HB19 HDO hk19 ⊢
          clear hk19 hsz19 H12 HVM2 HVO HDS2 HB18
          go_wp2_with (fail)
          have hbook := (H13.out.ows.book (fun _ _ => rfl)).1
          have hel : q12.es.length = q.es.length + 1 := by rw [HQ12.out.2.2.2.2.2.2.1]; simp
          have hel2 : q.es.length ≤ 120 := by have := HF.out.l5; omega
          refine (bktake_ok hbook.bk (by show q12.es.length ≤ 1000; omega) am rs.length cm rs HVM3.out (by have := HRL.out; omega) (fun e => by
            have h1 : q12.ow B = 100 + (q.es.length + 1) := HMO.out _ e
            have h2 : q12.ow B = 5 := hbook.oB
            omega) (fun g hg e => by
            have h1 := HMO.out _ hg
            have h3 : q12.ow g = 6 := hbook.oR g e
            omega) H13.out.ows.size).mono ?_
          rintro e w21 ⟨rfl, ht⟩
          have hkt : Kept (B :: q12.rv.ownBlock.toList ++ (Value.slice am rs.length cm).ownBlock.toList) w20 w21 := by obtain ⟨_, _, _, h, _⟩ := ht; exact h
          have hids : ∀ g, g ∈ B :: q12.rv.ownBlock.toList ++ (Value.slice am rs.length cm).ownBlock.toList → (q12.ow g = 5 ∨ q12.ow g = 6 ∨ q12.ow g = 100 + (q.es.length + 1)) ∧ w.heap.size ≤ g := fun g hg => by
            simp only [List.cons_append, List.mem_cons, List.mem_append, Option.mem_toList] at hg
            rcases hg with rfl | hg | hg
            · exact ⟨.inl hbook.oB, (H13.out.ows.book (fun _ _ => rfl)).2⟩
            · exact ⟨.inr (.inl (hbook.oR g hg)), (hbook.bk.own.lt g hg).1⟩
            · exact ⟨.inr (.inr (HMO.out g hg)), (HVM3.out.lt g hg).1⟩
          obtain ⟨rv13, how13⟩ := OwS.took H13.out.ows HVM3.out (by rw [hel]; exact HMO.out) (by omega) ht
          obtain ⟨q13, hq13⟩ : ∃ q13 : Vr, q13 = { q12 with ow := claimed w20 q12.ow 6, rv := rv13, es := q12.es ++ [⟨am, rs.length, cm, am, rs.length, cm, markOf q12.es.length⟩] } := ⟨_, rfl⟩
          have H14' : Hid (OwC w21 w.heap.size ao0 cap0 xs ⟨G, rb, ra, rc, sb, sa, sc, X, b, x, B⟩ cb 4 vv wd da dn dc q13) := by
            rw [hq13]
            exact H13.out.next how13 (fun g hg => claimed_old hg) hkt (fun g hg _ => by have h1 := (hids g hg).1; omega)
          have HQ13 : Hid (q13.lv = (.slice lo6 (nl + 1) lc6) ∧ q13.ls.length = nl + 1 ∧ q13.wv = (.slice wo8 (nl + 1) wc7) ∧ q13.ws.length = nl + 1 ∧ q13.nw = nl + 1 ∧ q13.cs = q.cs ++ [ys] ∧ q13.es = q.es ++ [⟨ao1, ys.length, cap1, ao1, ys.length, cap1, markOf q.es.length⟩] ++ [⟨am, rs.length, cm, am, rs.length, cm, markOf (q.es.length + 1)⟩] ∧ q13.sr = (stText xs q.sx vv).2 ∧ q13.ss = (stText xs q.sx vv).2 ∧ q13.sx = (stText xs q.sx vv).2 ∧ q13.o = q1.o) := by
            obtain ⟨r1, r2, r3, r4, r5, r6, r7, r8, r9, r10, r11⟩ := HQ12.out
            rw [hq13]
            exact ⟨r1, r2, r3, r4, r5, r6, by show q12.es ++ _ = _; rw [hel, r7], r8, r9, r10, r11⟩
          have HVO4 : Hid (w21.ownsRow w.heap.size 5 1 (.slice an rs.length cn) rs.length (bys rs)) := Kept.nil_own HVO3.out hkt (fun g hg hm => by
            have h1 := (hids g hm).1
            have h2 := HOO.out g hg
            omega)
          have HOO4 : Hid (∀ g, (Value.slice an rs.length cn).ownBlock = some g → q13.ow g = 2000 + (nl + 1)) := fun g hg => by
            rw [hq13]
            show claimed w20 _ 6 g = _
            rw [claimed_old (HVO3.out.lt g hg).2, HOO.out g hg]
          have HDS4 : Hid (Sl w21 ad rs) := HDS3.out.kept hkt (fun _ a' ha hm => by
            have h1 := (hids _ hm).1
            have h2 := (HDO.out a' ha).1
            omega)
          have HDO4 : Hid (∀ a', ad = some a' → q13.ow a'.block = 3000 + (nl + 1) ∧ w.heap.size ≤ a'.block ∧ a'.block < w21.heap.size) := fun a' ha => ⟨by rw [hq13]; show claimed w20 _ 6 _ = _; rw [claimed_old (HDO.out a' ha).2.2]; exact (HDO.out a' ha).1, (HDO.out a' ha).2.1, by have := (HDO.out a' ha).2.2; have := hkt.size; omega⟩
          have HB20 : Hid (Below w.heap.size w w21) := HB19.out.trans (hkt.below HB19.out.size (fun g hg => (hids g hg).2))
          have H14'' := H14'.out.told rs (by rw [HQ13.out.2.2.2.2.2.1, List.length_append]; simp; omega)
          obtain ⟨q14, hq14⟩ : ∃ q14 : Vr, q14 = { q13 with cs := q13.cs ++ [rs] } := ⟨_, rfl⟩
          have H14 : Hid (OwC w21 w.heap.size ao0 cap0 xs ⟨G, rb, ra, rc, sb, sa, sc, X, b, x, B⟩ cb 4 vv wd da dn dc q14) := by rw [hq14]; exact H14''
          have HQ14 : Hid (q14.lv = (.slice lo6 (nl + 1) lc6) ∧ q14.ls.length = nl + 1 ∧ q14.wv = (.slice wo8 (nl + 1) wc7) ∧ q14.ws.length = nl + 1 ∧ q14.nw = nl + 1 ∧ q14.cs = q.cs ++ [ys] ++ [rs] ∧ q14.es = q.es ++ [⟨ao1, ys.length, cap1, ao1, ys.length, cap1, markOf q.es.length⟩] ++ [⟨am, rs.length, cm, am, rs.length, cm, markOf (q.es.length + 1)⟩] ∧ q14.sr = (stText xs q.sx vv).2 ∧ q14.ss = (stText xs q.sx vv).2 ∧ q14.sx = (stText xs q.sx vv).2 ∧ q14.o = q1.o) := by
            obtain ⟨r1, r2, r3, r4, r5, r6, r7, r8, r9, r10, r11⟩ := HQ13.out
            rw [hq14]
            exact ⟨r1, r2, r3, r4, r5, by show q13.cs ++ _ = _; rw [r6], r7, r8, r9, r10, r11⟩
          have HOO5 : Hid (∀ g, (Value.slice an rs.length cn).ownBlock = some g → q14.ow g = 2000 + (nl + 1)) := by rw [hq14]; exact HOO4.out
          have HDO5 : Hid (∀ a', ad = some a' → q14.ow a'.block = 3000 + (nl + 1) ∧ w.heap.size ≤ a'.block ∧ a'.block < w21.heap.size) := by rw [hq14]; exact HDO4.out
          clear hbook hids hkt ht how13 hq13 hq14 H13 H14' H14'' HVM3 HVO3 HDS3 HB19 HMO HOO HDO HOO4 HDO4 HQ12 HQ13 hel
          have HLV : Hid (∀ ob, (w21.alloc ob).ownsRow w.heap.size 32 1 (.slice lo6 (nl + 1) lc6) (nl + 1) q14.ls) := fun ob => by
            have h2 := (H14.out.ows.left rfl).1
            rw [HQ14.out.2.1, HQ14.out.1] at h2
            exact Kept.nil_own h2 ((Kept.refl [] w21).alloc ob) (by simp)
          have HSZ : Hid (w.heap.size ≤ w21.heap.size) := H14.out.ows.size
          go_wp2_with (at_builtin; refine wpList_append_own_at _ rfl _ _ 68 rfl w.heap.size 32 i1 (.slice none 0 0) 1 24 Try.underlying68 hi1 hy0 hy1 hy2 rfl (by decide) _ _ _ rfl (HLV.out _) ⟨w21.heap.size, 0, none⟩ 1 1 [.slice an rs.length cn] rfl rfl (one_cells _ _ _ _) (by simp [Value.oneCell']) ?c3 ?c4 ?c5 ?_)
          case c3 => unfold maxLen; omega
          case c4 => omega
          case c5 => have := HSZ.out; simp; omega
          intro v' w22 hown hgrow hnn hat
          obtain ⟨lo9, lc9, hsh⟩ := own_shape hown
          subst hsh
          have hk22 : Kept (Value.slice lo6 (nl + 1) lc6).ownBlock.toList w21 w22 := ((Kept.refl _ w21).alloc _).grown hgrow (fun g hg _ => by simp [hg])
          have HCJ : Hid (q14.cs.getD (nl + 1) [] = rs ∧ q14.cs.length = nl + 2) := by
            rw [HQ14.out.2.2.2.2.2.1, HQ.out.2.2]
            exact ⟨by simp, by simp⟩
          have HL6 : Hid (∀ g, g ∈ (Value.slice lo6 (nl + 1) lc6).ownBlock.toList → q14.ow g = 7 ∧ w.heap.size ≤ g) := fun g hg => by
            have h1 := (H14.out.ows.left rfl).2
            have h2 := (H14.out.ows.left rfl).1
            rw [HQ14.out.1] at h1 h2
            rw [Option.mem_toList] at hg
            exact ⟨h1 g hg, (h2.lt g hg).1⟩
          obtain ⟨q15, hq15⟩ : ∃ q15 : Vr, q15 = { q14 with ow := claimed w21 q14.ow 7, lv := .slice lo9 (nl + 1 + 1) lc9, ls := q14.ls ++ [.slice an rs.length cn] } := ⟨_, rfl⟩
          have H15 : Hid (OwC w22 w.heap.size ao0 cap0 xs ⟨G, rb, ra, rc, sb, sa, sc, X, b, x, B⟩ cb 4 vv wd da dn dc q15) := by
            rw [hq15]
            refine H14.out.next (OwS.lapp H14.out.ows (by rw [HQ14.out.2.1]; exact hown) (by rw [HQ14.out.1]; exact hk22) ?_ (by rw [HQ14.out.2.1, HCJ.out.1]; exact HVO4.out) (by rw [HQ14.out.2.1]; exact HOO5.out) (by rw [HQ14.out.2.1, HCJ.out.2]; omega)) (fun g hg => claimed_old hg) hk22 (fun g hg _ => by rw [(HL6.out g hg).1]; decide)
            rw [HQ14.out.1]
            rcases hat with h1 | h1
            · exact .inl h1
            · exact .inr (fun g hg => by rw [h1] at hg; cases hg; omega)
          have HQ15 : Hid (q15.lv = (.slice lo9 (nl + 1 + 1) lc9) ∧ q15.ls.length = nl + 1 + 1 ∧ q15.wv = (.slice wo8 (nl + 1) wc7) ∧ q15.ws.length = nl + 1 ∧ q15.nw = nl + 1 ∧ q15.cs = q.cs ++ [ys] ++ [rs] ∧ q15.es = q.es ++ [⟨ao1, ys.length, cap1, ao1, ys.length, cap1, markOf q.es.length⟩] ++ [⟨am, rs.length, cm, am, rs.length, cm, markOf (q.es.length + 1)⟩] ∧ q15.sr = (stText xs q.sx vv).2 ∧ q15.ss = (stText xs q.sx vv).2 ∧ q15.sx = (stText xs q.sx vv).2 ∧ q15.o = q1.o) := by
            obtain ⟨r1, r2, r3, r4, r5, r6, r7, r8, r9, r10, r11⟩ := HQ14.out
            rw [hq15]
            exact ⟨rfl, by show (q14.ls ++ _).length = _; rw [List.length_append, r2]; rfl, r3, r4, r5, r6, r7, r8, r9, r10, r11⟩
          have HDS5 : Hid (Sl w22 ad rs) := HDS4.out.kept hk22 (fun _ a' ha hm => by
            have h1 := (HL6.out _ hm).1
            have h2 := (HDO5.out a' ha).1
            omega)
          have HDO6 : Hid (∀ a', ad = some a' → q15.ow a'.block = 3000 + (nl + 1) ∧ w.heap.size ≤ a'.block ∧ a'.block < w22.heap.size) := fun a' ha => ⟨by rw [hq15]; show claimed w21 _ 7 _ = _; rw [claimed_old (HDO5.out a' ha).2.2]; exact (HDO5.out a' ha).1, (HDO5.out a' ha).2.1, by have := (HDO5.out a' ha).2.2; have := hk22.size; omega⟩
          have HB21 : Hid (Below w.heap.size w w22) := HB20.out.trans (hk22.below HB20.out.size (fun g hg => (HL6.out g hg).2))
          clear hown hgrow hnn hat hk22 HL6 hq15 H14 HQ14 HVO4 HOO5 HB20 HLV HSZ HDS4 HDO5
          have HWV : Hid (∀ ob, (w22.alloc ob).ownsRow w.heap.size 32 1 (.slice wo8 (nl + 1) wc7) (nl + 1) q15.ws) := fun ob => by
            have h2 := (H15.out.ows.want rfl).1
            rw [HQ15.out.2.2.2.1, HQ15.out.2.2.1] at h2
            exact Kept.nil_own h2 ((Kept.refl [] w22).alloc ob) (by simp)
          have HSZ : Hid (w.heap.size ≤ w22.heap.size) := H15.out.ows.size
          go_wp2_with (at_builtin; refine wpList_append_own_at _ rfl _ _ 68 rfl w.heap.size 32 i1 (.slice none 0 0) 1 24 Try.underlying68 hi1 hy0 hy1 hy2 rfl (by decide) _ _ _ rfl (HWV.out _) ⟨w22.heap.size, 0, none⟩ 1 1 [.slice ad rs.length cd] rfl rfl (one_cells _ _ _ _) (by simp [Value.oneCell']) ?c3 ?c4 ?c5 ?_)
          case c3 => unfold maxLen; omega
          case c4 => omega
          case c5 => have := HSZ.out; simp; omega
          intro v' w23 hown hgrow hnn hat
          obtain ⟨wo9, wc9, hsh⟩ := own_shape hown
          subst hsh
          have hk23 : Kept (Value.slice wo8 (nl + 1) wc7).ownBlock.toList w22 w23 := ((Kept.refl _ w22).alloc _).grown hgrow (fun g hg _ => by simp [hg])
          have HL7 : Hid (∀ g, g ∈ (Value.slice wo8 (nl + 1) wc7).ownBlock.toList → q15.ow g = 8 ∧ w.heap.size ≤ g) := fun g hg => by
            have h1 := (H15.out.ows.want rfl).2
            have h2 := (H15.out.ows.want rfl).1
            rw [HQ15.out.2.2.1] at h1 h2
            rw [Option.mem_toList] at hg
            exact ⟨h1 g hg, (h2.lt g hg).1⟩
          have H16 : Hid (OwC w23 w.heap.size ao0 cap0 xs ⟨G, rb, ra, rc, sb, sa, sc, X, b, x, B⟩ cb 4 vv wd da dn dc { q15 with ow := claimed w22 q15.ow 8, wv := .slice wo9 (nl + 1 + 1) wc9, ws := q15.ws ++ [.slice ad rs.length cd] }) := by
            refine H15.out.next (OwS.wapp H15.out.ows (by rw [HQ15.out.2.2.2.1]; exact hown) (by rw [HQ15.out.2.2.1]; exact hk23) ?_) (fun g hg => claimed_old hg) hk23 (fun g hg _ => by rw [(HL7.out g hg).1]; decide)
            rw [HQ15.out.2.2.1]
            rcases hat with h1 | h1
            · exact .inl h1
            · exact .inr (fun g hg => by rw [h1] at hg; cases hg; omega)
          obtain ⟨q16, hq16⟩ : ∃ q16 : Vr, q16 = { ({ q15 with ow := claimed w22 q15.ow 8, wv := .slice wo9 (nl + 1 + 1) wc9, ws := q15.ws ++ [.slice ad rs.length cd] } : Vr) with nw := q15.nw + 1 } := ⟨_, rfl⟩
          have H17 : Hid (OwC w23 w.heap.size ao0 cap0 xs ⟨G, rb, ra, rc, sb, sa, sc, X, b, x, B⟩ cb 4 vv wd da dn dc q16) := by
            rw [hq16]
            refine ⟨OwS.wok H16.out.ows ?_ ?_ ?_, H16.out.ocb, H16.out.c0, H16.out.c1, H16.out.c2, H16.out.c3⟩
            · show q15.nw < (q15.ws ++ [_]).length
              rw [List.length_append, HQ15.out.2.2.2.2.1, HQ15.out.2.2.2.1]
              exact Nat.lt_succ_self _
            · show q15.nw < q15.cs.length
              rw [HQ15.out.2.2.2.2.1, HQ15.out.2.2.2.2.2.1, HQ.out.2.2]
              simp
            · show WantIt _ _ (claimed w22 q15.ow 8) q15.nw ((q15.ws ++ [_]).getD q15.nw (.slice none 0 0)) (q15.cs.getD q15.nw [])
              have e1 : (q15.ws ++ [Value.slice ad rs.length cd]).getD (nl + 1) (.slice none 0 0) = .slice ad rs.length cd := by rw [← HQ15.out.2.2.2.1]; simp
              have e2 : q15.cs.getD (nl + 1) [] = rs := by rw [HQ15.out.2.2.2.2.2.1, HQ.out.2.2]; simp
              rw [HQ15.out.2.2.2.2.1, e1, e2]
              refine ⟨ad, cd, rfl, HDS5.out.kept hk23 (fun _ a' ha hm => ?_), fun a' ha => ⟨?_, (HDO6.out a' ha).2.1, ?_⟩⟩
              · have h1 := (HL7.out _ hm).1
                have h2 := (HDO6.out a' ha).1
                omega
              · rw [claimed_old (HDO6.out a' ha).2.2]
                exact (HDO6.out a' ha).1
              · have := (HDO6.out a' ha).2.2
                have := hk23.size
                omega
          have HQ16 : Hid (q16.lv = (.slice lo9 (nl + 1 + 1) lc9) ∧ q16.ls.length = nl + 1 + 1 ∧ q16.wv = (.slice wo9 (nl + 1 + 1) wc9) ∧ q16.ws.length = nl + 1 + 1 ∧ q16.nw = nl + 1 + 1 ∧ q16.cs = q.cs ++ [ys] ++ [rs] ∧ q16.es = q.es ++ [⟨ao1, ys.length, cap1, ao1, ys.length, cap1, markOf q.es.length⟩] ++ [⟨am, rs.length, cm, am, rs.length, cm, markOf (q.es.length + 1)⟩] ∧ q16.sr = (stText xs q.sx vv).2 ∧ q16.ss = (stText xs q.sx vv).2 ∧ q16.sx = (stText xs q.sx vv).2 ∧ q16.o = q1.o) := by
            obtain ⟨r1, r2, r3, r4, r5, r6, r7, r8, r9, r10, r11⟩ := HQ15.out
            rw [hq16]
            exact ⟨r1, r2, rfl, by show (q15.ws ++ _).length = _; rw [List.length_append, r4]; rfl, by show q15.nw + 1 = _; rw [r5], r6, r7, r8, r9, r10, r11⟩
          have HB22 : Hid (Below w.heap.size w w23) := HB21.out.trans (hk23.below HB21.out.size (fun g hg => (HL7.out g hg).2))
          have HFIN : Hid (OwL w w23 ao0 cap0 xs ⟨G, rb, ra, rc, sb, sa, sc, X, b, x, B⟩ q16 (k + 1)) := by
            obtain ⟨r1, r2, r3, r4, r5, r6, r7, r8, r9, r10, r11⟩ := HQ16.out
            have hcn : q16.cs.length = nl + 1 + 1 := by rw [r6, HQ.out.2.2]; simp
            have hl4 := HF.out.l4
            have hl5 := HF.out.l5
            have hnc := HQ.out.2.2
            refine ⟨H17.out.ows, by rw [r8, r10], by rw [r9, r10], by rw [r2, hcn], by rw [r4, hcn], by rw [r5, hcn], by omega, by rw [r7]; simp; omega, by rw [r11]; exact HOL1.out, fun j hj => ?_, fun j hj => ?_, by omega, HB22.out⟩
            · rw [r6]
              exact getD_two HF.out.m1 hyl (by have := HRL.out; omega) j
            · rw [r7]
              exact getD_two2 HF.out.m2 hyl (by have := HRL.out; show rs.length ≤ _; omega) j
          clear hown hgrow hnn hat hk23 HL7 hq16 H15 H16 H17 HQ15 HB21 HB22 HWV HSZ HDS5 HDO6 HCJ HRS HRL
          have HLW : Hid (q16.lv = .slice lo9 (nl + 1 + 1) lc9 ∧ q16.wv = .slice wo9 (nl + 1 + 1) wc9 ∧ nl + 1 + 1 = q16.cs.length) := ⟨HQ16.out.1, HQ16.out.2.2.1, by rw [HQ16.out.2.2.2.2.2.1, HQ.out.2.2]; simp⟩
          clear HQ16
          go_wp2_with (fail)
          refine (lwrote_any (HFIN.out.ows.pr rfl).1.wr (HFIN.out.ows.pr rfl).1.wd HFIN.out.short).mono ?_
          rintro e w30 ⟨rfl, hk30⟩
          have HFI1 : Hid (OwL w w30 ao0 cap0 xs ⟨G, rb, ra, rc, sb, sa, sc, X, b, x, B⟩ q16 (k + 1)) := HFIN.out.quiet hk30
          clear hk30 HFIN
          go_wp2_with (fail)
          refine (bkstill_ok (HFI1.out.ows.book (fun _ _ => rfl)).1.bk (by have := HFI1.out.l5; omega) (fun i hi' => ((HFI1.out.ows.book (fun _ _ => rfl)).1.en i hi').toR (Nat.le_trans (HFI1.out.m2 i hi') (by omega)))).mono ?_
          rintro e w31 ⟨rfl, hk31⟩
          have HFI2 : Hid (OwL w w31 ao0 cap0 xs ⟨G, rb, ra, rc, sb, sa, sc, X, b, x, B⟩ q16 (k + 1)) := HFI1.out.quiet hk31
          clear hk31 HFI1
          go_wp2_with (fail)
          refine (bytes_any (some ⟨G, 0, none⟩) ao0 n0 (n0 + 70) n0 cap0 xs xs _ HIN.out.len HIN.out.len (by omega) (HFI2.out.ows.given rfl).1 (HIN.out.sl.kept (Kept.of_below HFI2.out.below) (by simp))).mono ?_
          rintro e w' ⟨rfl, n32, rfl⟩
          simp only [decide_true]
          have HFI3 : Hid (OwL w (w31.drewN n32) ao0 cap0 xs ⟨G, rb, ra, rc, sb, sa, sc, X, b, x, B⟩ q16 (k + 1)) := HFI2.out.quiet ((Kept.refl [] w31).drewN n32)
          clear HFI2
          go_wp2
          go_roundw
          case rel => exact ⟨k + 1, q16, lo9, wo9, nl + 1 + 1, lc9, wc9, by omega, by omega, rfl, rfl, by go_num, HLW, HFI3⟩
          case measure => simp [intOf]; omega
        have b3 : (kd == 3) = false := by simpa using hk3
        have b4 : (kd == 4) = false := by simpa using hk4
        have HK34 : Hid (kd ≠ 3 ∧ kd ≠ 4) := ⟨hk3, hk4⟩
        have c0 := H9.out.c0
        have c1 := H9.out.c1
        have c2 := H9.out.c2
        have c3 := H9.out.c3
        clear hk3 hk4
        go_wp2_with (fail)
        rw [← hwo8]
        clear g0 g1 g2 g3
        generalize w14.setCell _ _ = w15 at H9 HB15 c0 c1 c2 c3 ⊢
        clear hwg14 hwf14 hwo8
        have e16 : q9.sx = q.sx := HQ9.out.2.2.2.2.2.2.2.2.2.1
        refine (lreadx_any (OwS.two H9.out.ows (by rw [e16]; exact HQ9.out.2.2.2.2.2.2.2.1)) kd vv wd da dn dc HK34.out.1 HK34.out.2).mono ?_
        rintro e w16 ⟨rfl, hk16, ht16⟩
        rw [e16] at ht16
        obtain ⟨q10, hq10⟩ : ∃ q10 : Vr, q10 = { q9 with sr := stStep xs q.sx kd wd, sx := stStep xs q.sx kd wd } := ⟨_, rfl⟩
        have H10 : Hid (OwC w16 w.heap.size ao0 cap0 xs ⟨G, rb, ra, rc, sb, sa, sc, X, b, x, B⟩ cb kd vv wd da dn dc q10) := by
          rw [hq10]
          exact H9.out.next (OwS.rxgo H9.out.ows hk16 ht16) (fun g hg => rfl) hk16 (fun g hg _ => by
            simp at hg
            rcases hg with rfl | rfl
            · rw [(H9.out.ows.r rfl).2.1]; decide
            · rw [(H9.out.ows.rf rfl).2.1]; decide)
        have HQ10 : Hid (q10.lv = (.slice lo6 (nl + 1) lc6) ∧ q10.ls.length = nl + 1 ∧ q10.wv = (.slice wo8 (nl + 1) wc7) ∧ q10.ws.length = nl + 1 ∧ q10.nw = nl + 1 ∧ q10.cs = q.cs ++ [ys] ∧ q10.es = q.es ++ [⟨ao1, ys.length, cap1, ao1, ys.length, cap1, markOf q.es.length⟩] ∧ q10.sr = stStep xs q.sx kd wd ∧ q10.ss = q.sx ∧ q10.sx = stStep xs q.sx kd wd ∧ q10.o = q1.o) := by
          obtain ⟨r1, r2, r3, r4, r5, r6, r7, r8, r9, r10, r11⟩ := HQ9.out
          rw [hq10]
          exact ⟨r1, r2, r3, r4, r5, r6, r7, rfl, r9, rfl, r11⟩
        have HB16 : Hid (Below w.heap.size w w16) := HB15.out.trans (hk16.below HB15.out.size (fun g hg => by
          simp at hg
          rcases hg with rfl | rfl
          · exact (H9.out.ows.r rfl).2.2.1
          · exact (H9.out.ows.rf rfl).2.2))
        have d0 := H10.out.c0
        have d1 := H10.out.c1
        have d2 := H10.out.c2
        have d3 := H10.out.c3
        clear hk16 ht16 hq10 H9 HQ9 HB15 c0 c1 c2 c3 e16
        go_wp2_with (fail)
        have e17 : q10.ss = q.sx := HQ10.out.2.2.2.2.2.2.2.2.1
        refine (again_any (H10.out.ows.s rfl).1 kd vv wd da dn dc).mono ?_
        rintro e w17 ⟨rfl, hk17, hrd17⟩
        rw [e17] at hrd17
        obtain ⟨q11, hq11⟩ : ∃ q11 : Vr, q11 = { q10 with ow := claimed w16 q10.ow 98, ss := stStep xs q.sx kd wd } := ⟨_, rfl⟩
        have H11 : Hid (OwC w17 w.heap.size ao0 cap0 xs ⟨G, rb, ra, rc, sb, sa, sc, X, b, x, B⟩ cb kd vv wd da dn dc q11) := by
          rw [hq11]
          exact H10.out.next (OwS.sgo H10.out.ows hk17 _ hrd17) (fun g hg => claimed_old hg) hk17 (fun g hg _ => by simp at hg; subst hg; rw [(H10.out.ows.s rfl).2.1]; decide)
        have HQ11 : Hid (q11.lv = (.slice lo6 (nl + 1) lc6) ∧ q11.ls.length = nl + 1 ∧ q11.wv = (.slice wo8 (nl + 1) wc7) ∧ q11.ws.length = nl + 1 ∧ q11.nw = nl + 1 ∧ q11.cs = q.cs ++ [ys] ∧ q11.es = q.es ++ [⟨ao1, ys.length, cap1, ao1, ys.length, cap1, markOf q.es.length⟩] ∧ q11.sr = stStep xs q.sx kd wd ∧ q11.ss = stStep xs q.sx kd wd ∧ q11.sx = stStep xs q.sx kd wd ∧ q11.o = q1.o) := by
          obtain ⟨r1, r2, r3, r4, r5, r6, r7, r8, r9, r10, r11⟩ := HQ10.out
          rw [hq11]
          exact ⟨r1, r2, r3, r4, r5, r6, r7, r8, rfl, r10, r11⟩
        have HB17 : Hid (Below w.heap.size w w17) := HB16.out.trans (hk17.below HB16.out.size (fun g hg => by simp at hg; subst hg; exact (H10.out.ows.s rfl).2.2.1))
        have HFIN : Hid (OwL w w17 ao0 cap0 xs ⟨G, rb, ra, rc, sb, sa, sc, X, b, x, B⟩ q11 (k + 1)) := by
          obtain ⟨r1, r2, r3, r4, r5, r6, r7, r8, r9, r10, r11⟩ := HQ11.out
          have hcn : q11.cs.length = nl + 1 := by rw [r6, HQ.out.2.2]; simp
          have hl4 := HF.out.l4
          have hl5 := HF.out.l5
          have hnc := HQ.out.2.2
          refine ⟨H11.out.ows, by rw [r8, r10], by rw [r9, r10], by rw [r2, hcn], by rw [r4, hcn], by rw [r5, hcn], by omega, by rw [r7]; simp; omega, by rw [r11]; exact HOL1.out, fun j hj => ?_, fun j hj => ?_, by omega, HB17.out⟩
          · rw [r6]
            exact getD_all (getD_one HF.out.m1 hyl) j
          · rw [r7]
            exact getD_all2 (getD_one2 HF.out.m2 (a := ⟨ao1, ys.length, cap1, ao1, ys.length, cap1, markOf q.es.length⟩) hyl) j
        have HLW : Hid (q11.lv = .slice lo6 (nl + 1) lc6 ∧ q11.wv = .slice wo8 (nl + 1) wc7 ∧ nl + 1 = q11.cs.length) := ⟨HQ11.out.1, HQ11.out.2.2.1, by rw [HQ11.out.2.2.2.2.2.1, HQ.out.2.2]; simp⟩
        clear hk17 hrd17 hq11 H10 HQ10 HQ11 HB16 HB17 H11 d0 d1 d2 d3 e17 b3 b4 HK34
        go_wp2_with (fail)
        refine (lwrote_any (HFIN.out.ows.pr rfl).1.wr (HFIN.out.ows.pr rfl).1.wd HFIN.out.short).mono ?_
        rintro e w30 ⟨rfl, hk30⟩
        have HFI1 : Hid (OwL w w30 ao0 cap0 xs ⟨G, rb, ra, rc, sb, sa, sc, X, b, x, B⟩ q11 (k + 1)) := HFIN.out.quiet hk30
        clear hk30 HFIN
        go_wp2_with (fail)
        refine (bkstill_ok (HFI1.out.ows.book (fun _ _ => rfl)).1.bk (by have := HFI1.out.l5; omega) (fun i hi' => ((HFI1.out.ows.book (fun _ _ => rfl)).1.en i hi').toR (Nat.le_trans (HFI1.out.m2 i hi') (by omega)))).mono ?_
        rintro e w31 ⟨rfl, hk31⟩
        have HFI2 : Hid (OwL w w31 ao0 cap0 xs ⟨G, rb, ra, rc, sb, sa, sc, X, b, x, B⟩ q11 (k + 1)) := HFI1.out.quiet hk31
        clear hk31 HFI1
        go_wp2_with (fail)
        refine (bytes_any (some ⟨G, 0, none⟩) ao0 n0 (n0 + 70) n0 cap0 xs xs _ HIN.out.len HIN.out.len (by omega) (HFI2.out.ows.given rfl).1 (HIN.out.sl.kept (Kept.of_below HFI2.out.below) (by simp))).mono ?_
        rintro e w' ⟨rfl, n32, rfl⟩
        simp only [decide_true]
        have HFI3 : Hid (OwL w (w31.drewN n32) ao0 cap0 xs ⟨G, rb, ra, rc, sb, sa, sc, X, b, x, B⟩ q11 (k + 1)) := HFI2.out.quiet ((Kept.refl [] w31).drewN n32)
        clear HFI2
        go_wp2
        go_roundw
        case rel => exact ⟨k + 1, q11, lo6, wo8, nl + 1, lc6, wc7, by omega, by omega, rfl, rfl, by go_num, HLW, HFI3⟩
        case measure => simp [intOf]; omega
    · by_cases hA : k < sn
      · have hB60 : ¬ k < 60 := by omega
        clear hlt
        go_wp2_with (fail)
        refine (bkgrow_ok (HF.out.ows.book (fun _ _ => rfl)).1 HF.out.m2 (by omega) HF.out.ows.size).mono ?_
        rintro e w40 ⟨rfl, hg40⟩
        have HT0 : Hid (OwT w wr ao0 cap0 xs ⟨G, rb, ra, rc, sb, sa, sc, X, b, x, B⟩ q 0 100000000) := ⟨HF.out.ows, HF.out.l1, HF.out.l2, HF.out.l3, by have := HF.out.l4; omega, by have := HF.out.l5; omega, HF.out.short, HF.out.m1, HF.out.m2, HF.out.below⟩
        obtain ⟨q40, h40, e40, e41, e42⟩ := HT0.out.grew hg40
        have HT : Hid (OwT w w40 ao0 cap0 xs ⟨G, rb, ra, rc, sb, sa, sc, X, b, x, B⟩ q40 0 100000064) := h40
        have HQ4 : Hid (q40.lv = .slice lo nl lc ∧ q40.wv = .slice wo nl wc ∧ nl = q40.cs.length) := ⟨e40.trans HQ.out.1, e41.trans HQ.out.2.1, by rw [e42]; exact HQ.out.2.2⟩
        have hnl : nl ≤ 120 := by rw [HQ4.out.2.2]; exact HT.out.l4
        clear hg40 h40 e40 e41 e42 HT0 HF HQ
        go_wp2
        go_loopw [23] (fun y wr => ∃ i : Nat, i ≤ nl ∧ y = .int .i64 i ∧ Hid (OwT w wr ao0 cap0 xs ⟨G, rb, ra, rc, sb, sa, sc, X, b, x, B⟩ q40 0 100000064)) (fun y wr => nl - (intOf y).toNat)
        case atStart => exact ⟨0, Nat.zero_le _, rfl, HT⟩
        case round =>
          clear HT
          obtain ⟨i, hi', rfl, HT⟩ := hrel
          by_cases hlt5 : i < nl
          · obtain ⟨lg, wg, a1, c1, a2, c2, n, rfl, rfl, z1, z2, hn, hls, hown, hsl⟩ := HT.out.items (Nat.zero_le _) HQ4.out.1 HQ4.out.2.1 HQ4.out.2.2 hlt5
            have hnb : n ≤ 100000000 := by rw [hn]; exact HT.out.m1 i (by rw [← HQ4.out.2.2]; exact hlt5)
            have HN : Hid ((q40.cs.getD i []).length = n) := hn.symm
            have HS1 : Hid (Sl wr a1 (q40.cs.getD i [])) := own_sl2 hown
            have HS2 : Hid (Sl wr a2 (q40.cs.getD i [])) := hsl
            have i0' : (0 : Int) ≤ (i : Int) := by omega
            have i1' : (i : Int) < (nl : Int) := by omega
            clear hn hls hown hsl
            go_wp2_with (fail)
            go_quiet ((go_at_call 17; exact Calls.quiet_of (bytes_alike a1 a2 n c1 c2 (q40.cs.getD i []) _ HN.out (by omega) (HS1.out.drewN _) (HS2.out.drewN _))))
            have HT5 : Hid (OwT w (wr.drewN nq) ao0 cap0 xs ⟨G, rb, ra, rc, sb, sa, sc, X, b, x, B⟩ q40 0 100000064) := HT.out.quiet ((Kept.refl [] wr).drewN nq)
            clear HT HS1 HS2 z1 z2
            go_wp2
            go_roundw
            case rel => exact ⟨i + 1, by omega, by go_num, HT5⟩
            case measure => simp [intOf]; omega
          · have HTI : Hid (OwT w wr ao0 cap0 xs ⟨G, rb, ra, rc, sb, sa, sc, X, b, x, B⟩ q40 0 100000064) := HT
            clear HT
            go_wp2
            go_loopw [24] (fun y wr => ∃ (i : Nat) (q5 : Vr), i ≤ nl ∧ y = .int .i64 i ∧ Hid (q5.lv = .slice lo nl lc ∧ q5.wv = .slice wo nl wc ∧ nl = q5.cs.length) ∧ Hid (OwT w wr ao0 cap0 xs ⟨G, rb, ra, rc, sb, sa, sc, X, b, x, B⟩ q5 i 100000064)) (fun y wr => nl - (intOf y).toNat)
            case atStart => exact ⟨0, q40, Nat.zero_le _, rfl, HQ4, HTI⟩
            case round =>
              clear HTI HQ4
              obtain ⟨i, q5, hi', rfl, HQ5, HT⟩ := hrel
              by_cases hlt6 : i < nl
              · obtain ⟨lg, wg, a1, c1, a2, c2, n, rfl, rfl, z1, z2, hn, hls, hown, hsl⟩ := HT.out.items (Nat.le_refl _) HQ5.out.1 HQ5.out.2.1 HQ5.out.2.2 hlt6
                have hnb : n ≤ 100000000 := by rw [hn]; exact HT.out.m1 i (by rw [← HQ5.out.2.2]; exact hlt6)
                obtain ⟨ow6, h6, h7⟩ := OwS.relabel HT.out.ows (by rw [HT.out.l1, ← HQ5.out.2.2]; exact hlt6) (by rw [HT.out.l1]; have := HT.out.l4; omega)
                rw [hls] at h7
                have HR6 : Hid (OwsP (fun _ => false) (i + 1) wr w.heap.size ao0 cap0 xs ⟨G, rb, ra, rc, sb, sa, sc, X, b, x, B⟩ { q5 with ow := ow6 } ∧ ∀ g, (Value.slice a1 n c1).ownBlock = some g → ow6 g = 100 + q5.es.length) := ⟨h6, h7⟩
                have HOW6 : Hid (wr.ownsRow w.heap.size 5 1 (.slice a1 n c1) n (bys (q5.cs.getD i []))) := hown
                have i0' : (0 : Int) ≤ (i : Int) := by omega
                have i1' : (i : Int) < (nl : Int) := by omega
                clear hn hls hown hsl h6 h7 z2
                go_wp2_with (fail)
                have hbook := (HR6.out.1.book (fun _ _ => rfl)).1
                have hl5 := HT.out.l5
                refine (bktake_ok hbook.bk (by show q5.es.length ≤ 1000; omega) a1 n c1 (q5.cs.getD i []) HOW6.out (by omega) (fun e => by
                  have h1 : ow6 B = 100 + q5.es.length := HR6.out.2 _ e
                  have h2 : ow6 B = 5 := hbook.oB
                  omega) (fun g hg e => by
                  have h1 := HR6.out.2 _ hg
                  have h3 : ow6 g = 6 := hbook.oR g e
                  omega) HR6.out.1.size).mono ?_
                rintro e w50 ⟨rfl, ht⟩
                have hkt : Kept (B :: q5.rv.ownBlock.toList ++ (Value.slice a1 n c1).ownBlock.toList) wr w50 := by obtain ⟨_, _, _, h, _⟩ := ht; exact h
                obtain ⟨rv5, how5⟩ := OwS.took HR6.out.1 HOW6.out HR6.out.2 (by show q5.es.length < 1000; omega) ht
                have HN5 : Hid (∃ q6 : Vr, (q6.lv = q5.lv ∧ q6.wv = q5.wv ∧ q6.cs = q5.cs) ∧ OwT w w50 ao0 cap0 xs ⟨G, rb, ra, rc, sb, sa, sc, X, b, x, B⟩ q6 (i + 1) 100000064) := by
                  refine ⟨{ ({ q5 with ow := ow6 } : Vr) with ow := claimed wr ow6 6, rv := rv5, es := q5.es ++ [⟨a1, n, c1, a1, n, c1, markOf q5.es.length⟩] }, ⟨rfl, rfl, rfl⟩, ⟨how5, HT.out.l1, HT.out.l2, HT.out.l3, HT.out.l4, by show (q5.es ++ [_]).length ≤ _; rw [List.length_append]; simp; omega, HT.out.len, HT.out.m1, getD_one2 HT.out.m2 (a := ⟨a1, n, c1, a1, n, c1, markOf q5.es.length⟩) (by show n ≤ _; omega), HT.out.below.trans (hkt.below HT.out.below.size (fun g hg => ?_))⟩⟩
                  simp only [List.cons_append, List.mem_cons, List.mem_append, Option.mem_toList] at hg
                  rcases hg with rfl | hg | hg
                  · exact (HR6.out.1.book (fun _ _ => rfl)).2
                  · exact (hbook.bk.own.lt g hg).1
                  · exact (HOW6.out.lt g hg).1
                obtain ⟨q6, hq6, h6⟩ := HN5.out
                have HT6 : Hid (OwT w w50 ao0 cap0 xs ⟨G, rb, ra, rc, sb, sa, sc, X, b, x, B⟩ q6 (i + 1) 100000064) := h6
                have HQ6 : Hid (q6.lv = .slice (some ⟨lg, 0, none⟩) nl lc ∧ q6.wv = .slice (some ⟨wg, 0, none⟩) nl wc ∧ nl = q6.cs.length) := ⟨hq6.1.trans HQ5.out.1, hq6.2.1.trans HQ5.out.2.1, by rw [hq6.2.2]; exact HQ5.out.2.2⟩
                clear hbook hkt ht how5 HN5 hq6 h6 HR6 HOW6 HT HQ5 z1 hl5
                go_wp2
                go_roundw
                case rel => exact ⟨i + 1, q6, by omega, by go_num, HQ6, HT6⟩
                case measure => simp [intOf]; omega
              · have hin : i = nl := by omega
                subst hin
                have HTI : Hid (OwT w wr ao0 cap0 xs ⟨G, rb, ra, rc, sb, sa, sc, X, b, x, B⟩ q5 i 100000064) := HT
                clear HT
                go_wp2_with (fail)
                refine (bkgrow_ok (HTI.out.ows.book (fun _ _ => rfl)).1 HTI.out.m2 (by omega) HTI.out.ows.size).mono ?_
                rintro e w60 ⟨rfl, hg60⟩
                obtain ⟨q7, h7, _, _, _⟩ := HTI.out.grew hg60
                have HT7 : Hid (OwT w w60 ao0 cap0 xs ⟨G, rb, ra, rc, sb, sa, sc, X, b, x, B⟩ q7 i 100000128) := h7
                clear hg60 h7 HTI HQ5
                go_wp2_with (fail)
                refine (bkstill_ok (HT7.out.ows.book (fun _ _ => rfl)).1.bk (by have := HT7.out.l5; omega) (fun j hj => ((HT7.out.ows.book (fun _ _ => rfl)).1.en j hj).toR (Nat.le_trans (HT7.out.m2 j hj) (by omega)))).mono ?_
                rintro e w61 ⟨rfl, hk61⟩
                have HT8 : Hid (OwT w w61 ao0 cap0 xs ⟨G, rb, ra, rc, sb, sa, sc, X, b, x, B⟩ q7 i 100000128) := HT7.out.quiet hk61
                clear hk61 HT7
                go_wp2_with (fail)
                refine (lwrote_any (HT8.out.ows.pr rfl).1.wr (HT8.out.ows.pr rfl).1.wd HT8.out.len).mono ?_
                rintro e w62 ⟨rfl, hk62⟩
                have HB62 : Hid (Below w.heap.size w w62) := (HT8.out.quiet hk62).below
                clear hk62 HT8
                go_wp2_with (go_at_call 12; refine (known_any _).mono ?_; rintro e wk ⟨rfl, hkk⟩)
                go_ret
                exact ⟨rfl, HB62.out.trans (hkk.below HB62.out.size (by simp))⟩
      · clear hlt
        go_wp2_with (fail)
        refine (bkgrow_ok (HF.out.ows.book (fun _ _ => rfl)).1 HF.out.m2 (by omega) HF.out.ows.size).mono ?_
        rintro e w40 ⟨rfl, hg40⟩
        have HT0 : Hid (OwT w wr ao0 cap0 xs ⟨G, rb, ra, rc, sb, sa, sc, X, b, x, B⟩ q 0 100000000) := ⟨HF.out.ows, HF.out.l1, HF.out.l2, HF.out.l3, by have := HF.out.l4; omega, by have := HF.out.l5; omega, HF.out.short, HF.out.m1, HF.out.m2, HF.out.below⟩
        obtain ⟨q40, h40, e40, e41, e42⟩ := HT0.out.grew hg40
        have HT : Hid (OwT w w40 ao0 cap0 xs ⟨G, rb, ra, rc, sb, sa, sc, X, b, x, B⟩ q40 0 100000064) := h40
        have HQ4 : Hid (q40.lv = .slice lo nl lc ∧ q40.wv = .slice wo nl wc ∧ nl = q40.cs.length) := ⟨e40.trans HQ.out.1, e41.trans HQ.out.2.1, by rw [e42]; exact HQ.out.2.2⟩
        have hnl : nl ≤ 120 := by rw [HQ4.out.2.2]; exact HT.out.l4
        clear hg40 h40 e40 e41 e42 HT0 HF HQ
        go_wp2
        go_loopw [23] (fun y wr => ∃ i : Nat, i ≤ nl ∧ y = .int .i64 i ∧ Hid (OwT w wr ao0 cap0 xs ⟨G, rb, ra, rc, sb, sa, sc, X, b, x, B⟩ q40 0 100000064)) (fun y wr => nl - (intOf y).toNat)
        case atStart => exact ⟨0, Nat.zero_le _, rfl, HT⟩
        case round =>
          clear HT
          obtain ⟨i, hi', rfl, HT⟩ := hrel
          by_cases hlt5 : i < nl
          · obtain ⟨lg, wg, a1, c1, a2, c2, n, rfl, rfl, z1, z2, hn, hls, hown, hsl⟩ := HT.out.items (Nat.zero_le _) HQ4.out.1 HQ4.out.2.1 HQ4.out.2.2 hlt5
            have hnb : n ≤ 100000000 := by rw [hn]; exact HT.out.m1 i (by rw [← HQ4.out.2.2]; exact hlt5)
            have HN : Hid ((q40.cs.getD i []).length = n) := hn.symm
            have HS1 : Hid (Sl wr a1 (q40.cs.getD i [])) := own_sl2 hown
            have HS2 : Hid (Sl wr a2 (q40.cs.getD i [])) := hsl
            have i0' : (0 : Int) ≤ (i : Int) := by omega
            have i1' : (i : Int) < (nl : Int) := by omega
            clear hn hls hown hsl
            go_wp2_with (fail)
            go_quiet ((go_at_call 17; exact Calls.quiet_of (bytes_alike a1 a2 n c1 c2 (q40.cs.getD i []) _ HN.out (by omega) (HS1.out.drewN _) (HS2.out.drewN _))))
            have HT5 : Hid (OwT w (wr.drewN nq) ao0 cap0 xs ⟨G, rb, ra, rc, sb, sa, sc, X, b, x, B⟩ q40 0 100000064) := HT.out.quiet ((Kept.refl [] wr).drewN nq)
            clear HT HS1 HS2 z1 z2
            go_wp2
            go_roundw
            case rel => exact ⟨i + 1, by omega, by go_num, HT5⟩
            case measure => simp [intOf]; omega
          · have HTI : Hid (OwT w wr ao0 cap0 xs ⟨G, rb, ra, rc, sb, sa, sc, X, b, x, B⟩ q40 0 100000064) := HT
            clear HT
            go_wp2
            go_loopw [24] (fun y wr => ∃ (i : Nat) (q5 : Vr), i ≤ nl ∧ y = .int .i64 i ∧ Hid (q5.lv = .slice lo nl lc ∧ q5.wv = .slice wo nl wc ∧ nl = q5.cs.length) ∧ Hid (OwT w wr ao0 cap0 xs ⟨G, rb, ra, rc, sb, sa, sc, X, b, x, B⟩ q5 i 100000064)) (fun y wr => nl - (intOf y).toNat)
            case atStart => exact ⟨0, q40, Nat.zero_le _, rfl, HQ4, HTI⟩
            case round =>
              clear HTI HQ4
              obtain ⟨i, q5, hi', rfl, HQ5, HT⟩ := hrel
              by_cases hlt6 : i < nl
              · obtain ⟨lg, wg, a1, c1, a2, c2, n, rfl, rfl, z1, z2, hn, hls, hown, hsl⟩ := HT.out.items (Nat.le_refl _) HQ5.out.1 HQ5.out.2.1 HQ5.out.2.2 hlt6
                have hnb : n ≤ 100000000 := by rw [hn]; exact HT.out.m1 i (by rw [← HQ5.out.2.2]; exact hlt6)
                obtain ⟨ow6, h6, h7⟩ := OwS.relabel HT.out.ows (by rw [HT.out.l1, ← HQ5.out.2.2]; exact hlt6) (by rw [HT.out.l1]; have := HT.out.l4; omega)
                rw [hls] at h7
                have HR6 : Hid (OwsP (fun _ => false) (i + 1) wr w.heap.size ao0 cap0 xs ⟨G, rb, ra, rc, sb, sa, sc, X, b, x, B⟩ { q5 with ow := ow6 } ∧ ∀ g, (Value.slice a1 n c1).ownBlock = some g → ow6 g = 100 + q5.es.length) := ⟨h6, h7⟩
                have HOW6 : Hid (wr.ownsRow w.heap.size 5 1 (.slice a1 n c1) n (bys (q5.cs.getD i []))) := hown
                have i0' : (0 : Int) ≤ (i : Int) := by omega
                have i1' : (i : Int) < (nl : Int) := by omega
                clear hn hls hown hsl h6 h7 z2
                go_wp2_with (fail)
                have hbook := (HR6.out.1.book (fun _ _ => rfl)).1
                have hl5 := HT.out.l5
                refine (bktake_ok hbook.bk (by show q5.es.length ≤ 1000; omega) a1 n c1 (q5.cs.getD i []) HOW6.out (by omega) (fun e => by
                  have h1 : ow6 B = 100 + q5.es.length := HR6.out.2 _ e
                  have h2 : ow6 B = 5 := hbook.oB
                  omega) (fun g hg e => by
                  have h1 := HR6.out.2 _ hg
                  have h3 : ow6 g = 6 := hbook.oR g e
                  omega) HR6.out.1.size).mono ?_
                rintro e w50 ⟨rfl, ht⟩
                have hkt : Kept (B :: q5.rv.ownBlock.toList ++ (Value.slice a1 n c1).ownBlock.toList) wr w50 := by obtain ⟨_, _, _, h, _⟩ := ht; exact h
                obtain ⟨rv5, how5⟩ := OwS.took HR6.out.1 HOW6.out HR6.out.2 (by show q5.es.length < 1000; omega) ht
                have HN5 : Hid (∃ q6 : Vr, (q6.lv = q5.lv ∧ q6.wv = q5.wv ∧ q6.cs = q5.cs) ∧ OwT w w50 ao0 cap0 xs ⟨G, rb, ra, rc, sb, sa, sc, X, b, x, B⟩ q6 (i + 1) 100000064) := by
                  refine ⟨{ ({ q5 with ow := ow6 } : Vr) with ow := claimed wr ow6 6, rv := rv5, es := q5.es ++ [⟨a1, n, c1, a1, n, c1, markOf q5.es.length⟩] }, ⟨rfl, rfl, rfl⟩, ⟨how5, HT.out.l1, HT.out.l2, HT.out.l3, HT.out.l4, by show (q5.es ++ [_]).length ≤ _; rw [List.length_append]; simp; omega, HT.out.len, HT.out.m1, getD_one2 HT.out.m2 (a := ⟨a1, n, c1, a1, n, c1, markOf q5.es.length⟩) (by show n ≤ _; omega), HT.out.below.trans (hkt.below HT.out.below.size (fun g hg => ?_))⟩⟩
                  simp only [List.cons_append, List.mem_cons, List.mem_append, Option.mem_toList] at hg
                  rcases hg with rfl | hg | hg
                  · exact (HR6.out.1.book (fun _ _ => rfl)).2
                  · exact (hbook.bk.own.lt g hg).1
                  · exact (HOW6.out.lt g hg).1
                obtain ⟨q6, hq6, h6⟩ := HN5.out
                have HT6 : Hid (OwT w w50 ao0 cap0 xs ⟨G, rb, ra, rc, sb, sa, sc, X, b, x, B⟩ q6 (i + 1) 100000064) := h6
                have HQ6 : Hid (q6.lv = .slice (some ⟨lg, 0, none⟩) nl lc ∧ q6.wv = .slice (some ⟨wg, 0, none⟩) nl wc ∧ nl = q6.cs.length) := ⟨hq6.1.trans HQ5.out.1, hq6.2.1.trans HQ5.out.2.1, by rw [hq6.2.2]; exact HQ5.out.2.2⟩
                clear hbook hkt ht how5 HN5 hq6 h6 HR6 HOW6 HT HQ5 z1 hl5
                go_wp2
                go_roundw
                case rel => exact ⟨i + 1, q6, by omega, by go_num, HQ6, HT6⟩
                case measure => simp [intOf]; omega
              · have hin : i = nl := by omega
                subst hin
                have HTI : Hid (OwT w wr ao0 cap0 xs ⟨G, rb, ra, rc, sb, sa, sc, X, b, x, B⟩ q5 i 100000064) := HT
                clear HT
                go_wp2_with (fail)
                refine (bkgrow_ok (HTI.out.ows.book (fun _ _ => rfl)).1 HTI.out.m2 (by omega) HTI.out.ows.size).mono ?_
                rintro e w60 ⟨rfl, hg60⟩
                obtain ⟨q7, h7, _, _, _⟩ := HTI.out.grew hg60
                have HT7 : Hid (OwT w w60 ao0 cap0 xs ⟨G, rb, ra, rc, sb, sa, sc, X, b, x, B⟩ q7 i 100000128) := h7
                clear hg60 h7 HTI HQ5
                go_wp2_with (fail)
                refine (bkstill_ok (HT7.out.ows.book (fun _ _ => rfl)).1.bk (by have := HT7.out.l5; omega) (fun j hj => ((HT7.out.ows.book (fun _ _ => rfl)).1.en j hj).toR (Nat.le_trans (HT7.out.m2 j hj) (by omega)))).mono ?_
                rintro e w61 ⟨rfl, hk61⟩
                have HT8 : Hid (OwT w w61 ao0 cap0 xs ⟨G, rb, ra, rc, sb, sa, sc, X, b, x, B⟩ q7 i 100000128) := HT7.out.quiet hk61
                clear hk61 HT7
                go_wp2_with (fail)
                refine (lwrote_any (HT8.out.ows.pr rfl).1.wr (HT8.out.ows.pr rfl).1.wd HT8.out.len).mono ?_
                rintro e w62 ⟨rfl, hk62⟩
                have HB62 : Hid (Below w.heap.size w w62) := (HT8.out.quiet hk62).below
                clear hk62 HT8
                go_wp2_with (go_at_call 12; refine (known_any _).mono ?_; rintro e wk ⟨rfl, hkk⟩)
                go_ret
                exact ⟨rfl, HB62.out.trans (hkk.below HB62.out.size (by simp))⟩

set_option maxHeartbeats 1500000 in
set_option maxRecDepth 100000 in
theorem own_big (ao0 : Option Addr) (n0 cap0 : Nat) (so : Option Addr) (sn scap : Nat) (L : List Cl) (w : World) (hn0 : 200000 < n0) (hm0 : n0 ≤ 9223372036854775807) (hL : L.length = sn) (hsm : sn ≤ 9223372036854775807) (hs : Scr w so L) :
    Calls Try.prog 6 #[.slice ao0 n0 cap0, .slice so sn scap] w fun e w' => e = .returned (.bool true) ∧ Below w.heap.size w w' := by
  have d1 : decide (200000 < (n0 : Int)) = true := by simp; omega
  have HSC : Hid (Scr w so L) := hs
  have HL : Hid (L.length = sn) := hL
  clear hs hL
  go_enter Try.func6, Try.ntmps6
  go_wp2_with (fail)
  refine (long_any so sn scap L _ HL.out hsm HSC.out).mono ?_
  rintro e w' ⟨he, hw⟩
  obtain rfl := hw.symm
  rcases he with rfl | ⟨rfl, hsh⟩
  · go_wp2
    go_ret
    exact ⟨rfl, Below.refl _ _⟩
  · clear hsh
    go_wp2
    go_ret
    exact ⟨rfl, Below.refl _ _⟩

theorem own_any (ao0 : Option Addr) (n0 cap0 : Nat) (so : Option Addr) (sn scap : Nat) (xs : List UInt8) (L : List Cl) (w : World) (hin : InB w ao0 n0 cap0 xs) (hL : L.length = sn) (hsm : sn ≤ 9223372036854775807) (hs : Scr w so L) :
    Calls Try.prog 6 #[.slice ao0 n0 cap0, .slice so sn scap] w fun e w' => e = .returned (.bool true) ∧ Below w.heap.size w w' := by
  by_cases h : n0 ≤ 200000
  · exact own_main ao0 n0 cap0 so sn scap xs L w hin h hL hsm hs
  · exact own_big ao0 n0 cap0 so sn scap L w (by omega) (by have h1 := hin.max; have h2 := hin.le; omega) hL hsm hs

end Go.Proofs.Ytjmameknbnflaab
