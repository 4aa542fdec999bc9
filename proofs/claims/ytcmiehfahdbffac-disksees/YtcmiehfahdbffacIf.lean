/-
  DiskSees: the second loop's state.
-/
import Derived.Test.YtcmiehfahdbffacIf0
import Derived.Test.YtcmiehfahdbffacIg
import Derived.Test.YtcmiehfahdbffacId
import Derived.Test.YtcmiehfahdbffacIe
namespace Go.Proofs.Ytcmiehfahdbffac
open Go.RowKit Dsk
set_option linter.unusedVariables false
set_option linter.unusedSimpArgs false

def fitB (d : By) (a m : Int) : Bool := decide (0 ≤ a) && decide (0 ≤ m) && decide (a ≤ d.length) && decide (m ≤ (d.length : Int) - a)
def rdOf (a m : Int) (L : List (By × By)) : List Dsk.Span := (L.filter (fun f => fitB f.2 a m)).map (fun f => ⟨f.1, a.toNat, m.toNat⟩)
theorem rdOf_snoc (a m : Int) (L : List (By × By)) (k : Nat) (f : By × By) (h : L[k]? = some f) : rdOf a m (L.take (k + 1)) = rdOf a m (L.take k) ++ (if fitB f.2 a m then [⟨f.1, a.toNat, m.toNat⟩] else []) := by
  rw [List.take_add_one, h]
  unfold rdOf
  rw [List.filter_append, List.map_append]
  congr 1
  by_cases hp : fitB f.2 a m = true <;> simp [hp]
theorem rdOf_le (a m : Int) (L : List (By × By)) (k : Nat) : (rdOf a m (L.take k)).length ≤ k := by
  unfold rdOf
  rw [List.length_map]
  exact Nat.le_trans (List.length_filter_le _ _) (by simp; omega)

/-- The disk, its files as they were told, the names and spans that are wanted. -/
structure Sv (w0 wr : World) (p : Nat) (S : Ds) (N : Nat) (R Q : List Dsk.Span) (lv : Value) (vs : List Value) (sv : Value) (ss : List By) (wv : Value) (A : Nat → Nat) (o : Lab) : Prop where
  pd : PD wr p { S with reads := R } A o
  bd : ({ S with reads := R } : Ds).Bd N
  new : ∀ b, o b ≠ 0 → w0.heap.size ≤ b
  keep : Kept [] w0 wr
  fl : Fls wr w0.heap.size lv S.files vs
  fo : ∀ g, lv.ownBlock = some g → o g = 0
  fu : ∀ u ∈ vs, ∀ g, u.ownBlock = some g → o g = 0
  so : wr.ownsRow 0 9 1 sv ss.length (ss.map encStr)
  sn : ∀ g, sv.ownBlock = some g → o g = 0 ∧ w0.heap.size ≤ g
  wo : wr.ownsRow 0 82 3 wv Q.length (Q.flatMap encSp)
  wn : ∀ g, wv.ownBlock = some g → o g = 0 ∧ w0.heap.size ≤ g
section
variable {w0 wr : World} {p : Nat} {S : Ds} {N : Nat} {R Q : List Dsk.Span} {lv : Value} {vs : List Value} {sv : Value} {ss : List By} {wv : Value} {A : Nat → Nat} {o : Lab}
theorem Sv.call (h : Sv w0 wr p S N R Q lv vs sv ss wv A o) {w' : World} {R' : List Dsk.Span} {A' : Nat → Nat} {o' : Lab} {M : Nat} (hP : PD w' p { S with reads := R' } A' o') (he : o.Ext o' wr) (hK : Keep o.mine wr w') (hb : ({ S with reads := R' } : Ds).Bd M) : Sv w0 w' p S M R' Q lv vs sv ss wv A' o' := by
  have z : ∀ g, g < wr.heap.size → o g = 0 → o' g = 0 := fun g hg h0 => Classical.byContradiction fun hn => he g hg hn h0
  have nm : ∀ g, o g = 0 → ¬ o.mine g := fun g h0 hm => hm h0
  refine ⟨hP, hb, fun b hb => ?_, keep0 h.new h.keep hK, h.fl.keep hK (fun g hg => nm g (h.fo g hg)) (fun u hu g hg => nm g (h.fu u hu g hg)), fun g hg => z g (h.fl.row.lt g hg).2 (h.fo g hg), fun u hu g hg => z g (h.fl.val_lt hu hg) (h.fu u hu g hg), own_keeps h.so hK (fun g hg => nm g (h.sn g hg).1), fun g hg => ⟨z g (h.so.lt g hg).2 (h.sn g hg).1, (h.sn g hg).2⟩, own_keeps h.wo hK (fun g hg => nm g (h.wn g hg).1), fun g hg => ⟨z g (h.wo.lt g hg).2 (h.wn g hg).1, (h.wn g hg).2⟩⟩
  by_cases hlt : b < wr.heap.size
  · exact h.new b (he b hlt hb)
  · have := h.keep.size; omega
theorem Sv.kept (h : Sv w0 wr p S N R Q lv vs sv ss wv A o) {w' : World} (hk : Kept [] wr w') : Sv w0 w' p S N R Q lv vs sv ss wv A o :=
  h.call (h.pd.keep (Keep.ofNone (F := fun _ => False) hk) (fun _ _ h => h)) (Lab.Ext.refl _ _) (Keep.ofNone hk) h.bd
/-- One name more is wanted. -/
theorem Sv.some1 (h : Sv w0 wr p S N R Q lv vs sv ss wv A o) {w5 : World} {v' : Value} {n : By} (ho : w5.ownsRow 0 9 1 v' (ss.length + 1) (ss.map encStr ++ [encStr n])) (hK : ∀ F : Nat → Prop, (∀ k, sv.ownBlock = some k → F k) → Keep F wr w5) (hl : ∀ g, v'.ownBlock = some g → sv.ownBlock = some g ∨ wr.heap.size ≤ g) : Sv w0 w5 p S N R Q lv vs v' (ss ++ [n]) wv A o := by
  have hK5 := hK (fun k => sv.ownBlock = some k) (fun _ e => e)
  have hs := h.keep.size
  have nw : ∀ g, wr.heap.size ≤ g → o g = 0 := fun g hg => Classical.byContradiction fun hn => by have := h.pd.lim hn; omega
  refine ⟨h.pd.keep hK5 (fun b hb e => hb (h.sn b e).1), h.bd, h.new, ?_, h.fl.keep hK5 (fun g hg e => own_two h.fl.row h.so (by decide) g hg e) (fun u hu g hg e => ?_), h.fo, h.fu, by simpa using ho, fun g hg => ?_, own_keeps h.wo hK5 (fun g hg e => own_two h.wo h.so (by decide) g hg e), h.wn⟩
  · exact ⟨hK5.os.trans h.keep.os, hK5.tape.trans h.keep.tape, hK5.output.trans h.keep.output, Nat.le_trans h.keep.size hK5.size, fun i hi _ => (hK5.block i (Nat.lt_of_lt_of_le hi h.keep.size) (fun hm => by have := (h.sn i hm).2; omega)).trans (h.keep.block i hi (by simp))⟩
  · obtain ⟨i, hi, e1⟩ := List.mem_iff_getElem.1 hu
    have h2 : i < S.files.length := by rw [← h.fl.len]; exact hi
    exact OwnB.two h.so (h.fl.own i _ u (List.getElem?_eq_getElem h2) (by rw [List.getElem?_eq_getElem hi, e1])) (by decide) g e hg
  · rcases hl g hg with e | e
    · exact h.sn g e
    · exact ⟨nw g e, by omega⟩
/-- One span more is wanted. -/
theorem Sv.want1 (h : Sv w0 wr p S N R Q lv vs sv ss wv A o) {w5 : World} {v' : Value} {s : Dsk.Span} (ho : w5.ownsRow 0 82 3 v' (Q.length + 1) (Q.flatMap encSp ++ encSp s)) (hK : ∀ F : Nat → Prop, (∀ k, wv.ownBlock = some k → F k) → Keep F wr w5) (hl : ∀ g, v'.ownBlock = some g → wv.ownBlock = some g ∨ wr.heap.size ≤ g) : Sv w0 w5 p S N R (Q ++ [s]) lv vs sv ss v' A o := by
  have hK5 := hK (fun k => wv.ownBlock = some k) (fun _ e => e)
  have hs := h.keep.size
  have nw : ∀ g, wr.heap.size ≤ g → o g = 0 := fun g hg => Classical.byContradiction fun hn => by have := h.pd.lim hn; omega
  refine ⟨h.pd.keep hK5 (fun b hb e => hb (h.wn b e).1), h.bd, h.new, ?_, h.fl.keep hK5 (fun g hg e => own_two h.fl.row h.wo (by decide) g hg e) (fun u hu g hg e => ?_), h.fo, h.fu, own_keeps h.so hK5 (fun g hg e => own_two h.so h.wo (by decide) g hg e), h.sn, by simpa using ho, fun g hg => ?_⟩
  · exact ⟨hK5.os.trans h.keep.os, hK5.tape.trans h.keep.tape, hK5.output.trans h.keep.output, Nat.le_trans h.keep.size hK5.size, fun i hi _ => (hK5.block i (Nat.lt_of_lt_of_le hi h.keep.size) (fun hm => by have := (h.wn i hm).2; omega)).trans (h.keep.block i hi (by simp))⟩
  · obtain ⟨i, hi, e1⟩ := List.mem_iff_getElem.1 hu
    have h2 : i < S.files.length := by rw [← h.fl.len]; exact hi
    exact OwnB.two h.wo (h.fl.own i _ u (List.getElem?_eq_getElem h2) (by rw [List.getElem?_eq_getElem hi, e1])) (by decide) g e hg
  · rcases hl g hg with e | e
    · exact h.wn g e
    · exact ⟨nw g e, by omega⟩
/-- Look, when the files have been told. -/
theorem sees_look {w3 w4 : World} (hat : At w0 wr p S N) (hF : Fls w3 wr.heap.size lv S.files vs) (hk3 : Kept [] wr w3) (hk4 : Kept [] w3 w4) : Calls Try.prog 35 #[.pointer (some ⟨p, 0, none⟩)] w4 fun e w' => e = .returned (.tuple #[]) ∧ ∃ A o, Sv w0 w' p S N [] [] lv vs (.slice none 0 0) [] (.slice none 0 0) A o := by
  obtain ⟨A, o, hP, ho, hw, hb⟩ := hat
  have hk := hk3.trans hk4 (by simp)
  have hP4 : PD w4 p S A o := hP.keep (Keep.ofNone (F := fun _ => False) hk) (fun _ _ h => h)
  have h0 : ∀ g, wr.heap.size ≤ g → o g = 0 := fun g hg => Classical.byContradiction fun hn => by have := hP.lim hn; omega
  have h4 : Sv w0 w4 p S N S.reads [] lv vs (.slice none 0 0) [] (.slice none 0 0) A o := ⟨hP4, hb, ho, hw.trans hk (by simp), (hF.kept hk4).base hw.size, fun g hg => h0 g (hF.row.lt g hg).1, fun u hu g hg => h0 g (hF.new u hu g hg), World.ownsRow_nil _ _ _ _, by simp [Value.ownBlock], World.ownsRow_nil _ _ _ _, by simp [Value.ownBlock]⟩
  refine (look_ok hP4).mono ?_
  rintro e w' ⟨rfl, A', o', h1, h2, h3⟩
  exact ⟨rfl, A', o', h4.call (R' := []) h1 h2 h3 hb.look⟩
theorem find_reads (S : Ds) (R : List Dsk.Span) (n : By) : ({ S with reads := R } : Ds).find n = S.find n := rfl
theorem find_shown {S : Ds} (hw : S.Wf) (hon : S.on = true) {n : By} {id : Nat} (hm : (n, id) ∈ S.shown) : S.find n = (0, id) := by
  unfold Ds.find
  rw [if_pos hon, if_pos (hw.snm _ hm), (Nm.get_some hw.sup).2 hm]
theorem readOk_fit {S : Ds} {n : By} {id : Nat} (hf : S.find n = (0, id)) (a m : Int) (R : List Dsk.Span) : ({ S with reads := R } : Ds).readOk n a m = if fitB (S.th id).shown a m then 0 else 54 := by
  unfold Ds.readOk
  rw [find_reads, hf]
  simp only [ne_eq, not_true_eq_false, if_false]
  by_cases h : fitB (S.th id).shown a m = true
  · rw [if_pos h]
    simp only [fitB, Bool.and_eq_true, decide_eq_true_eq] at h
    rw [if_neg (by omega)]
  · rw [if_neg h]
    simp only [fitB, Bool.and_eq_true, decide_eq_true_eq] at h
    rw [if_pos (by omega)]
theorem sees_size (h : Sv w0 wr p S N R Q lv vs sv ss wv A o) (hw : S.Wf) (hon : S.on = true) {n : By} {id : Nat} (hm : (n, id) ∈ S.shown) : Calls Try.prog 36 #[.pointer (some ⟨p, 0, none⟩), encStr n] wr fun e w' => e = .returned (.tuple #[.int .i64 (S.th id).shown.length, .int .i64 0]) ∧ w' = wr := by
  have hf := find_shown hw hon hm
  have hl := isNm_len (hw.snm _ hm)
  have := size_ok h.pd n (by simp only at hl; omega)
  rw [find_reads, hf] at this
  have e : ({ S with reads := R } : Ds).size n = ((S.th id).shown.length : Int) := by
    unfold Ds.size
    rw [find_reads, hf]
    simp
  rw [e] at this
  exact this
theorem sees_read (h : Sv w0 wr p S N R Q lv vs sv ss wv A o) (hN : N ≤ 268435456) (hw : S.Wf) (hon : S.on = true) {n : By} {id : Nat} (hm : (n, id) ∈ S.shown) (a m : Int) (hft : fitB (S.th id).shown a m = true) :
    Calls Try.prog 37 #[.pointer (some ⟨p, 0, none⟩), encStr n, .int .i64 a, .int .i64 m] wr fun e w' => ∃ v A' o', e = .returned (.tuple #[v, .int .i64 0]) ∧ Sv w0 w' p S (N + 1) (R ++ [⟨n, a.toNat, m.toNat⟩]) Q lv vs sv ss wv A' o' ∧ OwnB w' v m.toNat (((S.th id).shown.drop a.toNat).take m.toNat) := by
  have hf := find_shown hw hon hm
  have hl := isNm_len (hw.snm _ hm)
  have hro := readOk_fit hf a m R
  rw [if_pos hft] at hro
  have := read_ok h.pd h.bd hN n (by simp only at hl; omega) a m
  have e1 : ({ S with reads := R } : Ds).read n a m = { S with reads := R ++ [⟨n, a.toNat, m.toNat⟩] } := by
    unfold Ds.read
    rw [if_pos hro]
  have e2 : ({ S with reads := R } : Ds).readBytes n a m = ((S.th id).shown.drop a.toNat).take m.toNat := by
    unfold Ds.readBytes
    rw [if_pos hro, find_reads, hf]
  have hb := h.bd.read n a m
  rw [e1] at hb
  rw [hro, e1, e2] at this
  refine this.mono ?_
  rintro e w' ⟨v, rfl, A', o', h1, h2, h3, h4, _⟩
  have hlen : (((S.th id).shown.drop a.toNat).take m.toNat).length = m.toNat := by
    simp only [fitB, Bool.and_eq_true, decide_eq_true_eq] at hft
    simp only [List.length_take, List.length_drop]
    omega
  rw [hlen] at h4
  exact ⟨v, A', o', rfl, h.call h1 h2 h3 hb, h4⟩
theorem sees_miss (h : Sv w0 wr p S N R Q lv vs sv ss wv A o) (hN : N ≤ 268435456) (hw : S.Wf) (hon : S.on = true) {n : By} {id : Nat} (hm : (n, id) ∈ S.shown) (a m : Int) (hft : fitB (S.th id).shown a m = false) :
    Calls Try.prog 37 #[.pointer (some ⟨p, 0, none⟩), encStr n, .int .i64 a, .int .i64 m] wr fun e w' => ∃ bo bc A' o', e = .returned (.tuple #[.slice bo 0 bc, .int .i64 54]) ∧ Sv w0 w' p S (N + 1) R Q lv vs sv ss wv A' o' := by
  have hf := find_shown hw hon hm
  have hl := isNm_len (hw.snm _ hm)
  have hro := readOk_fit hf a m R
  rw [if_neg (by simp [hft])] at hro
  have := read_ok h.pd h.bd hN n (by simp only at hl; omega) a m
  have e1 : ({ S with reads := R } : Ds).read n a m = { S with reads := R } := by
    unfold Ds.read
    rw [if_neg (by rw [hro]; decide)]
  have e2 : ({ S with reads := R } : Ds).readBytes n a m = [] := by
    unfold Ds.readBytes
    rw [if_neg (by rw [hro]; decide)]
  have hb := h.bd.read n a m
  rw [e1] at hb
  rw [hro, e1, e2] at this
  refine this.mono ?_
  rintro e w' ⟨v, rfl, A', o', h1, h2, h3, h4, _⟩
  obtain ⟨bo, bc, rfl, _⟩ := h4.shape
  exact ⟨bo, bc, A', o', rfl, h.call h1 h2 h3 hb⟩
/-- One file of the list that was told. -/
theorem Sv.at {lb lc M : Nat} (h : Sv w0 wr p S N R Q (.slice (some ⟨lb, 0, none⟩) M lc) vs sv ss wv A o) {k : Nat} {f : By × By} {bo : Option Addr} {len bc : Nat} (hf : S.files[k]? = some f) (hu : vs[k]? = some (.slice bo len bc)) : wr.cell? ⟨lb, k * 2, none⟩ = some (encStr f.1) ∧ wr.cell? ⟨lb, k * 2 + 1, none⟩ = some (.slice bo len bc) ∧ Sl wr bo f.2 ∧ len = f.2.length ∧ len ≤ bc ∧ (bo = none → bc = 0) := by
  obtain ⟨q1, q2⟩ := fcells_get S.files vs k _ _ h.fl.len hf hu
  have ho := h.fl.own k _ _ hf hu
  obtain ⟨bo', bc', e, e1, _, e2, _⟩ := ho.shape
  injection e with x1 x2 x3
  subst x1 x2 x3
  refine ⟨?_, ?_, ho.sl, rfl, e1, fun e => (e2 e).2⟩
  · have := h.fl.row.cells (g := lb) rfl _ _ q1
    rwa [add0] at this
  · have := h.fl.row.cells (g := lb) rfl _ _ q2
    rwa [add0] at this
theorem Sv.lo {lo : Option Addr} {lc M : Nat} (h : Sv w0 wr p S N R Q (.slice lo M lc) vs sv ss wv A o) (h0 : 0 < S.files.length) : ∃ lb, lo = some ⟨lb, 0, none⟩ := by
  rcases h.fl.row.2 with ⟨e, e2⟩ | ⟨g, cap, cur, e, _⟩
  · omega
  · injection e with e _ _; exact ⟨g, e⟩
theorem up_at {l : Nm} (h : l.Up) {j : Nat} {x y : By × Nat} (hx : l[j]? = some x) (hy : l[j + 1]? = some y) : bytesBefore x.1 y.1 = true := by
  obtain ⟨h1, e1⟩ := List.getElem?_eq_some_iff.1 hx
  obtain ⟨h2, e2⟩ := List.getElem?_eq_some_iff.1 hy
  have := List.pairwise_iff_getElem.1 h j (j + 1) h1 h2 (by omega)
  rw [e1, e2] at this
  exact this
theorem less_eq (a b : By) : Op.bytesLess a b = bytesBefore a b := by
  induction a generalizing b with
  | nil => cases b <;> rfl
  | cons x r ih => cases b with
    | nil => rfl
    | cons y s => simp only [Op.bytesLess, bytesBefore, ih]
theorem less_of {a b : By} (h : bytesBefore a b = true) : Op.bytesLess a b = true := by rw [less_eq]; exact h
theorem Sv.span {vo : Option Addr} {b vk : Nat} (h : Sv w0 wr p S N R Q lv vs sv ss (.slice vo b vk) A o) (hb : Q.length = b) (hbig : b ≤ 1000000) (n : By) (x y : Nat) : ∃ g c w', (Builtin.append_ #[76, 76] 76 #[.slice vo b vk, .slice (some ⟨wr.heap.size, 0, none⟩) 1 1]).run Try.prog (wr.alloc (.cells #[encStr n, .int .i64 x, .int .i64 y] 82)) = .ok (.slice (some ⟨g, 0, none⟩) (b + 1) c) w' ∧ Sv w0 w' p S N R (Q ++ [⟨n, x, y⟩]) lv vs sv ss (.slice (some ⟨g, 0, none⟩) (b + 1) c) A o := by
  have hr := h.wo
  rw [hb] at hr
  obtain ⟨g, c, w', e1, e2, e3, e4, _⟩ := run_app (P := Try.prog) wr 76 76 82 Try.underlying76 Try.infoSpan rfl (by decide) _ b _ hr [encStr n, .int .i64 x, .int .i64 y] rfl (fun z hz => by simp only [List.mem_cons, List.not_mem_nil, or_false] at hz; rcases hz with rfl | rfl | rfl <;> rfl) (by unfold maxLen; omega) (by omega)
  refine ⟨g, c, w', e1, h.want1 (s := ⟨n, x, y⟩) (by rw [hb]; exact e2) e3 (fun g' hg' => ?_)⟩
  simp only [Value.ownBlock, Option.some.injEq] at hg'
  subst hg'
  rcases e4 with e | e
  · exact .inl e.symm
  · exact .inr e
theorem sees_reads (h : Sv w0 wr p S N R Q lv vs sv ss wv A o) (hN : N ≤ 268435456) {b : Nat} (hb : R.length = b) : Calls Try.prog 40 #[.pointer (some ⟨p, 0, none⟩)] wr fun e w' => ∃ vo vk, e = .returned (.slice vo b vk) ∧ Sps w' vo R ∧ Kept [] wr w' := by
  refine (reads_ok h.pd h.bd hN).mono ?_
  rintro e w' ⟨v, rfl, h1, h2⟩
  subst hb
  obtain ⟨vo, vk, rfl, _⟩ := own_shape h1
  exact ⟨vo, vk, rfl, Sps.of h1, h2⟩
theorem sees_list (h : Sv w0 wr p S N R Q lv vs sv ss wv A o) (hN : N ≤ 268435456) (hon : S.on = true) (q : By) (hq : q.length ≤ 4611686018427387904) {a : Nat} (ha : (pre q S.shown.keys).length = a) : Calls Try.prog 34 #[.pointer (some ⟨p, 0, none⟩), encStr q] wr fun e w' => ∃ vo vk, e = .returned (.slice vo a vk) ∧ Txs w' vo (pre q S.shown.keys) ∧ Kept [] wr w' := by
  have e0 : ({ S with reads := R } : Ds).list q = pre q S.shown.keys := by simp [Ds.list, hon, pre]
  have := list_ok h.pd h.bd hN q hq
  rw [e0] at this
  refine this.mono ?_
  rintro e w' ⟨v, rfl, h1, _, h2⟩
  subst ha
  obtain ⟨vo, vk, rfl, _⟩ := own_shape h1
  exact ⟨vo, vk, rfl, Txs.of h1, h2⟩
theorem sees_look2 (h : Sv w0 wr p S N R Q lv vs sv ss wv A o) : Calls Try.prog 35 #[.pointer (some ⟨p, 0, none⟩)] wr fun e w' => e = .returned (.tuple #[]) ∧ ∃ A o, Sv w0 w' p S N [] Q lv vs sv ss wv A o := by
  refine (look_ok h.pd).mono ?_
  rintro e w' ⟨rfl, A', o', h1, h2, h3⟩
  exact ⟨rfl, A', o', h.call (R' := []) h1 h2 h3 h.bd.look⟩
theorem sees_files (h : Sv w0 wr p S N R Q lv vs sv ss wv A o) (hN : N ≤ 268435456) {M : Nat} (hM : S.files.length = M) : Calls Try.prog 19 #[.pointer (some ⟨p, 0, none⟩)] wr fun e w' => ∃ vo vk, e = .returned (.slice vo M vk) ∧ Fis w' vo S.files ∧ Kept [] wr w' := by
  refine (files_ok h.pd h.bd hN).mono ?_
  rintro e w' ⟨v, vs', rfl, h1, h2⟩
  have h1' : Fls w' wr.heap.size v S.files vs' := h1
  subst hM
  obtain ⟨vo, vk, rfl, _⟩ := own_shape h1'.row
  exact ⟨vo, vk, rfl, (Fis.of h1').1, h2⟩
end
end Go.Proofs.Ytcmiehfahdbffac
