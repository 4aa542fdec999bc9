import Derived.Test.YteckiednnaianaaGreatOlp
import Derived.Test.YteckiednnaianaaGreatHlp
import Derived.Test.YteckiednnaianaaGreatGvp
import Derived.Test.YteckiednnaianaaGreatGsp
import Derived.Test.YteckiednnaianaaGreatIbp
namespace Go.Proofs.YteckiednnaianaaGreat
section
open Go.RowKit Dsk
set_option linter.unusedVariables false
set_option linter.unusedSimpArgs false
def nmV (A : Nat → Nat) (p : By × Nat) : List Value := [encStr p.1, .pointer (some ⟨A p.2, 0, none⟩)]
def nmsV (A : Nat → Nat) (l : Nm) : List Value := l.flatMap (nmV A)
def tuV (A : Nat → Nat) : Nc → List Value
 | .mk n k => [.int .i64 1, encStr n, encStr [], .pointer (some ⟨A k, 0, none⟩)]
 | .gv f t => [.int .i64 2, encStr f, encStr t, .pointer none]
 | .tk n => [.int .i64 3, encStr n, encStr [], .pointer none]
def tusV (A : Nat → Nat) (l : List Nc) : List Value := l.flatMap (tuV A)
def isCut : Ch → Bool
 | .wr _ _ => false
 | .cut _ => true
def chV (p : Ch × Value) : List Value := [.bool (isCut p.1), .int .i64 p.1.place, p.2]
def chsV (R : List (Ch × Value)) : List Value := R.flatMap chV
def chD : Ch → By
 | .wr _ x => x
 | .cut _ => []
def ChD (w : World) (p : Ch × Value) : Prop := OwnB w p.2 (chD p.1).length (chD p.1)
def Spv (l : List Dsk.Span) : List Value := l.flatMap encSp
theorem ChD.keep {F : Nat → Prop} {w w' : World} {p : Ch × Value} (h : ChD w p) (hk : Keep F w w') (hn : ∀ g, p.2.ownBlock = some g → ¬ F g) : ChD w' p := OwnB.keep h hk hn
theorem ChD.lt {w : World} {p : Ch × Value} (h : ChD w p) {g : Nat} (hg : p.2.ownBlock = some g) : g < w.heap.size := OwnB.lt h hg
theorem nmsV_snoc (A : Nat → Nat) (l : Nm) (p : By × Nat) : nmsV A (l ++ [p]) = nmsV A l ++ nmV A p := by simp [nmsV]
theorem tusV_snoc (A : Nat → Nat) (l : List Nc) (c : Nc) : tusV A (l ++ [c]) = tusV A l ++ tuV A c := by simp [tusV]
theorem chsV_snoc (R : List (Ch × Value)) (p : Ch × Value) : chsV (R ++ [p]) = chsV R ++ chV p := by simp [chsV]
theorem flat_at {α : Type} (f : α → List Value) (s : Nat) (hf : ∀ x, (f x).length = s) (l : List α) (i j : Nat) (x : α) (v : Value) (hx : l[i]? = some x) (hv : (f x)[j]? = some v) : (l.flatMap f)[s * i + j]? = some v := by
 induction l generalizing i with
 | nil => simp at hx
 | cons y r ih =>
  cases i with
  | zero =>
   simp only [List.getElem?_cons_zero, Option.some.injEq] at hx
   subst hx
   have hj : j < (f y).length := (List.getElem?_eq_some_iff.1 hv).1
   rw [List.flatMap_cons, Nat.mul_zero, Nat.zero_add, List.getElem?_append_left hj]
   exact hv
  | succ i =>
   simp only [List.getElem?_cons_succ] at hx
   rw [List.flatMap_cons, List.getElem?_append_right (by rw [hf, Nat.mul_succ]; omega), hf, show s * (i + 1) + j - s = s * i + j by rw [Nat.mul_succ]; omega]
   exact ih i hx
theorem nmsV_at (A : Nat → Nat) (l : Nm) (i : Nat) (p : By × Nat) (h : l[i]? = some p) : (nmsV A l)[2 * i]? = some (encStr p.1) ∧ (nmsV A l)[2 * i + 1]? = some (.pointer (some ⟨A p.2, 0, none⟩)) :=
 ⟨flat_at (nmV A) 2 (fun _ => rfl) l i 0 p _ h rfl, flat_at (nmV A) 2 (fun _ => rfl) l i 1 p _ h rfl⟩
theorem tuV_len (A : Nat → Nat) (c : Nc) : (tuV A c).length = 4 := by cases c <;> rfl
theorem tusV_at (A : Nat → Nat) (l : List Nc) (i j : Nat) (c : Nc) (v : Value) (h : l[i]? = some c) (hv : (tuV A c)[j]? = some v) : (tusV A l)[4 * i + j]? = some v := flat_at (tuV A) 4 (tuV_len A) l i j c v h hv
theorem chsV_at (R : List (Ch × Value)) (i j : Nat) (p : Ch × Value) (v : Value) (h : R[i]? = some p) (hv : (chV p)[j]? = some v) : (chsV R)[3 * i + j]? = some v := flat_at chV 3 (fun _ => rfl) R i j p v h hv
theorem nmsV_congr {A A' : Nat → Nat} {l : Nm} (h : ∀ k ∈ l.ids, A' k = A k) : nmsV A' l = nmsV A l := by
 unfold nmsV
 induction l with
 | nil => rfl
 | cons p r ih =>
  rw [List.flatMap_cons, List.flatMap_cons, ih (fun k hk => h k (by simp [Nm.ids] at hk ⊢; exact .inr hk))]
  congr 1
  unfold nmV
  rw [h p.2 (by simp [Nm.ids])]
theorem tusV_congr {A A' : Nat → Nat} {r : List Nc} (h : ∀ k ∈ madeN r, A' k = A k) : tusV A' r = tusV A r := by
 unfold tusV
 induction r with
 | nil => rfl
 | cons c r ih =>
  rw [List.flatMap_cons, List.flatMap_cons, ih (fun k hk => h k (by rw [madeN_cons]; exact List.mem_append_right _ hk))]
  congr 1
  cases c with
  | mk n k => simp only [tuV, h k (by rw [madeN_cons]; exact List.mem_append_left _ (by simp [Nc.made]))]
  | gv f t => rfl
  | tk n => rfl
structure RTh (w : World) (o : Lab) (l b : Nat) (sv hv rv : Value) (R : List (Ch × Value)) (t : Th) : Prop where
 cells : w.heap[b]? = some (.cells #[sv, hv, rv] 78 (0, 0))
 safe : OwnB w sv t.safe.length t.safe
 shown : OwnB w hv t.shown.length t.shown
 eq : R.map (·.1) = t.row
 row : w.ownsRow 0 143 3 rv R.length (chsV R)
 data : ∀ p ∈ R, ChD w p
 lb : o b = l
 ls : ∀ g, sv.ownBlock = some g → o g = l
 lh : ∀ g, hv.ownBlock = some g → o g = l
 lr : ∀ g, rv.ownBlock = some g → o g = l
 ld : ∀ p ∈ R, ∀ g, p.2.ownBlock = some g → o g = l
def Rg (w : World) (o : Lab) (l b : Nat) (t : Th) : Prop := ∃ sv hv rv R, RTh w o l b sv hv rv R t
section
variable {w w' : World} {o : Lab} {l b : Nat} {sv hv rv : Value} {R : List (Ch × Value)} {t : Th}
theorem RTh.keep {F : Nat → Prop} (h : RTh w o l b sv hv rv R t) (hk : Keep F w w') (hF : ∀ g, o g = l → ¬ F g) : RTh w' o l b sv hv rv R t :=
 ⟨hk.heapOf h.cells (hF b h.lb), h.safe.keep hk (fun g hg => hF g (h.ls g hg)), h.shown.keep hk (fun g hg => hF g (h.lh g hg)), h.eq, own_keeps h.row hk (fun g hg => hF g (h.lr g hg)),
  fun p hp => (h.data p hp).keep hk (fun g hg => hF g (h.ld p hp g hg)), h.lb, h.ls, h.lh, h.lr, h.ld⟩
theorem RTh.lt (h : RTh w o l b sv hv rv R t) : b < w.heap.size := (Array.getElem?_eq_some_iff.1 h.cells).1
theorem RTh.relab {o' : Lab} {l' : Nat} (h : RTh w o l b sv hv rv R t) (ho : ∀ g, g < w.heap.size → o g = l → o' g = l') : RTh w o' l' b sv hv rv R t :=
 ⟨h.cells, h.safe, h.shown, h.eq, h.row, h.data, ho b h.lt h.lb, fun g hg => ho g (h.safe.lt hg) (h.ls g hg), fun g hg => ho g (h.shown.lt hg) (h.lh g hg), fun g hg => ho g (h.row.lt g hg).2 (h.lr g hg), fun p hp g hg => ho g ((h.data p hp).lt hg) (h.ld p hp g hg)⟩
theorem Rg.keep {F : Nat → Prop} (h : Rg w o l b t) (hk : Keep F w w') (hF : ∀ g, o g = l → ¬ F g) : Rg w' o l b t := by
 obtain ⟨a, b, c, d, h⟩ := h
 exact ⟨a, b, c, d, h.keep hk hF⟩
theorem Rg.relab {o' : Lab} {l' : Nat} (h : Rg w o l b t) (ho : ∀ g, g < w.heap.size → o g = l → o' g = l') : Rg w o' l' b t := by
 obtain ⟨a, b, c, d, h⟩ := h
 exact ⟨a, b, c, d, h.relab ho⟩
theorem Rg.ext {F : Nat → Prop} {m : Nat} (h : Rg w o l b t) (hk : Keep F w w') (hF : ∀ g, o g = l → ¬ F g) : Rg w' (o.ext w w' m) l b t := by
 have h1 := h.relab (o' := o.ext w w' m) (l' := l) (fun g hg e => by rw [Lab.ext_old hg]; exact e)
 obtain ⟨a, b, c, d, h⟩ := h
 refine ⟨a, b, c, d, (h.keep hk hF).cells, (h.keep hk hF).safe, (h.keep hk hF).shown, h.eq, (h.keep hk hF).row, (h.keep hk hF).data, ?_, ?_, ?_, ?_, ?_⟩
 ·rw [Lab.ext_old h.lt]; exact h.lb
 ·intro g hg; rw [Lab.ext_old (h.safe.lt hg)]; exact h.ls g hg
 ·intro g hg; rw [Lab.ext_old (h.shown.lt hg)]; exact h.lh g hg
 ·intro g hg; rw [Lab.ext_old (h.row.lt g hg).2]; exact h.lr g hg
 ·intro p hp g hg; rw [Lab.ext_old ((h.data p hp).lt hg)]; exact h.ld p hp g hg
end
structure RDx (w : World) (q : Nat) (S : Ds) (A : Nat → Nat) (o : Lab) (nv bv tv sv : Value) : Prop where
 cells : w.heap[q]? = some (.cells #[.bool S.on, .int .i64 S.room, nv, bv, tv, .int .i64 S.strokes, .int .i64 S.planned, .int .i64 S.off, .int .i64 S.from_, .int .i64 S.to, sv] 74 (0, 0))
 now : w.ownsRow 0 113 2 nv S.shown.length (nmsV A S.shown)
 before : w.ownsRow 0 113 2 bv S.safe.length (nmsV A S.safe)
 turns : w.ownsRow 0 138 4 tv S.row.length (tusV A S.row)
 told : w.ownsRow 0 126 3 sv S.reads.length (Spv S.reads)
 th : ∀ k, k ∈ S.lives → Rg w o (k + 2) (A k) (S.th k)
 lq : o q = 1
 ln : ∀ g, nv.ownBlock = some g → o g = 1
 lb : ∀ g, bv.ownBlock = some g → o g = 1
 lt : ∀ g, tv.ownBlock = some g → o g = 1
 ls : ∀ g, sv.ownBlock = some g → o g = 1
 lim : ∀ b, o b ≠ 0 → b < w.heap.size
 pl : (Lit.int .i64 S.off).wf = true ∧ (Lit.int .i64 S.from_).wf = true ∧ (Lit.int .i64 S.to).wf = true
def RD (w : World) (q : Nat) (S : Ds) (A : Nat → Nat) (o : Lab) : Prop := S.Wf ∧ ∃ nv bv tv sv, RDx w q S A o nv bv tv sv
section
variable {w w' : World} {q : Nat} {S : Ds} {A : Nat → Nat} {o : Lab} {nv bv tv sv : Value}
theorem RDx.keep {F : Nat → Prop} (h : RDx w q S A o nv bv tv sv) (hk : Keep F w w') (hF : ∀ b, o b ≠ 0 → ¬ F b) : RDx w' q S A o nv bv tv sv :=
 have h1 : ∀ b, o b = 1 → ¬ F b := fun b hb => hF b (by rw [hb]; decide)
 ⟨hk.heapOf h.cells (h1 q h.lq), own_keeps h.now hk (fun g hg => h1 g (h.ln g hg)), own_keeps h.before hk (fun g hg => h1 g (h.lb g hg)), own_keeps h.turns hk (fun g hg => h1 g (h.lt g hg)), own_keeps h.told hk (fun g hg => h1 g (h.ls g hg)),
  fun k hk' => (h.th k hk').keep hk (fun g hg => hF g (by rw [hg]; omega)), h.lq, h.ln, h.lb, h.lt, h.ls, fun b hb => Nat.lt_of_lt_of_le (h.lim b hb) hk.size, h.pl⟩
theorem RD.keep {F : Nat → Prop} (h : RD w q S A o) (hk : Keep F w w') (hF : ∀ b, o b ≠ 0 → ¬ F b) : RD w' q S A o := by
 obtain ⟨hw, a, b, c, d, h⟩ := h
 exact ⟨hw, a, b, c, d, h.keep hk hF⟩
theorem RDx.kept (h : RDx w q S A o nv bv tv sv) (hk : Kept [] w w') : RDx w' q S A o nv bv tv sv := h.keep (Keep.ofNone (F := fun _ => False) hk) (fun _ _ h => h)
theorem RD.kept (h : RD w q S A o) (hk : Kept [] w w') : RD w' q S A o := h.keep (Keep.ofNone (F := fun _ => False) hk) (fun _ _ h => h)
theorem RDx.qlt (h : RDx w q S A o nv bv tv sv) : q < w.heap.size := (Array.getElem?_eq_some_iff.1 h.cells).1
theorem RDx.cell (h : RDx w q S A o nv bv tv sv) (j : Nat) (v : Value) (hv : (#[Value.bool S.on, .int .i64 S.room, nv, bv, tv, .int .i64 S.strokes, .int .i64 S.planned, .int .i64 S.off, .int .i64 S.from_, .int .i64 S.to, sv] : Array Value)[j]? = some v) : w.cell? ⟨q, j, none⟩ = some v := by
 rw [cell_of_row w q j _ _ _ h.cells]
 exact hv
theorem RD.wf (h : RD w q S A o) : S.Wf := h.1
theorem RD.lim (h : RD w q S A o) : ∀ b, o b ≠ 0 → b < w.heap.size := by obtain ⟨_, _, _, _, _, h⟩ := h; exact h.lim
end
def RAft (w w' : World) (q : Nat) (S' : Ds) (o : Lab) : Prop := ∃ A' o', RD w' q S' A' o' ∧ (∀ b, b < w.heap.size → o' b ≠ 0 → o b ≠ 0) ∧ Keep o.mine w w'
theorem RAft.of {w w' : World} {q : Nat} {S' : Ds} {A : Nat → Nat} {o : Lab} (h : RD w' q S' A o) (hk : Keep o.mine w w') : RAft w w' q S' o := ⟨A, o, h, fun _ _ h => h, hk⟩
theorem RAft.trans {w w1 w2 : World} {q : Nat} {S2 : Ds} {o o1 : Lab} (he : ∀ b, b < w.heap.size → o1 b ≠ 0 → o b ≠ 0) (hk : Keep o.mine w w1) (h : RAft w1 w2 q S2 o1) : RAft w w2 q S2 o := by
 obtain ⟨A2, o2, h2, e2, k2⟩ := h
 exact ⟨A2, o2, h2, fun b hb hn => he b hb (e2 b (Nat.lt_of_lt_of_le hb hk.size) hn), hk.trans k2 (fun i hi hlt => he i hlt hi)⟩
end

section
open Go.RowKit Dsk
set_option linter.unusedVariables false
set_option linter.unusedSimpArgs false
def fix (l : Nm) (n : By) : Int := match l.findIdx? (fun p => p.1 == n) with
 | some i => i
 | none => -1
theorem fix_miss {l : Nm} {n : By} (h : ∀ p ∈ l, p.1 ≠ n) : fix l n = -1 := by
 unfold fix
 rw [List.findIdx?_eq_none_iff.2 (fun p hp => by simpa using h p hp)]
theorem fix_at {l : Nm} {n : By} {i k : Nat} (h : l[i]? = some (n, k)) (hb : ∀ j p, j < i → l[j]? = some p → p.1 ≠ n) : fix l n = i := by
 unfold fix
 have hi : i < l.length := (List.getElem?_eq_some_iff.1 h).1
 have : l.findIdx? (fun p => p.1 == n) = some i := by
  rw [List.findIdx?_eq_some_iff_getElem]
  refine ⟨hi, ?_, fun j hj => ?_⟩
  ·have := (List.getElem?_eq_some_iff.1 h).2
   simp [this]
  ·have := hb j l[j] hj (List.getElem?_eq_getElem _)
   simpa using this
 rw [this]
theorem Up.before {l : Nm} (h : l.Up) {i j : Nat} {p q : By × Nat} (hi : l[i]? = some p) (hj : l[j]? = some q) (hij : i < j) : bytesBefore p.1 q.1 = true := by
 have h1 := (List.getElem?_eq_some_iff.1 hi)
 have h2 := (List.getElem?_eq_some_iff.1 hj)
 have := List.pairwise_iff_getElem.1 h i j h1.1 h2.1 hij
 rw [h1.2, h2.2] at this
 exact this
theorem fix_in {l : Nm} (hu : l.Up) {n : By} {i k : Nat} (h : l[i]? = some (n, k)) : fix l n = i :=
 fix_at h (fun j p hj hp e => by
  have := Up.before hu hp h hj
  rw [e, before_irrefl] at this
  cases this)
theorem fix_get_none {l : Nm} {n : By} (h : l.get n = none) : fix l n = -1 := fix_miss (Nm.get_none.1 h)
theorem fix_get_some {l : Nm} (hu : l.Up) {n : By} {k : Nat} (h : l.get n = some k) : ∃ i : Nat, i < l.length ∧ l[i]? = some (n, k) ∧ fix l n = i := by
 obtain ⟨i, hi, he⟩ := List.getElem_of_mem ((Nm.get_some hu).1 h)
 have h2 : l[i]? = some (n, k) := by rw [List.getElem?_eq_getElem hi, he]
 exact ⟨i, hi, h2, fix_in hu h2⟩
theorem del_take_snoc (l : Nm) (n : By) (i : Nat) (p : By × Nat) (h : l[i]? = some p) : Nm.del (l.take (i + 1)) n = Nm.del (l.take i) n ++ (if p.1 = n then [] else [p]) := by
 rw [List.take_add_one, h]
 unfold Nm.del
 rw [List.filter_append]
 congr 1
 by_cases e : p.1 = n <;> simp [e]
def insUpto (x : By × Nat) (l : Nm) (i : Nat) : Nm × Bool := if (l.take i).any (fun y => bytesBefore x.1 y.1) then (Nm.ins x (l.take i), true) else (l.take i, false)
theorem ins_none {x : By × Nat} {l : Nm} (h : l.any (fun y => bytesBefore x.1 y.1) = false) (r : Nm) : Nm.ins x (l ++ r) = l ++ Nm.ins x r := by
 induction l with
 | nil => rfl
 | cons y t ih =>
  simp only [List.any_cons, Bool.or_eq_false_iff] at h
  rw [List.cons_append]
  simp only [Nm.ins]
  rw [if_neg (by rw [h.1]; decide), ih h.2]
  rfl
theorem ins_some {x : By × Nat} {l : Nm} (h : l.any (fun y => bytesBefore x.1 y.1) = true) (r : Nm) : Nm.ins x (l ++ r) = Nm.ins x l ++ r := by
 induction l with
 | nil => simp at h
 | cons y t ih =>
  rw [List.cons_append]
  simp only [Nm.ins]
  by_cases hb : bytesBefore x.1 y.1 = true
  ·rw [if_pos hb, if_pos hb]; rfl
  ·simp only [Bool.not_eq_true] at hb
   simp only [List.any_cons, hb, Bool.false_or] at h
   rw [if_neg (by rw [hb]; decide), if_neg (by rw [hb]; decide), ih h]
   rfl
theorem insUpto_zero (x : By × Nat) (l : Nm) : insUpto x l 0 = ([], false) := by simp [insUpto]
theorem insUpto_done {x : By × Nat} {l : Nm} {i : Nat} {p : By × Nat} (h : l[i]? = some p) (hd : (insUpto x l i).2 = true) : insUpto x l (i + 1) = ((insUpto x l i).1 ++ [p], true) := by
 unfold insUpto at *
 rw [List.take_add_one, h]
 by_cases ha : (l.take i).any (fun y => bytesBefore x.1 y.1) = true
 ·simp only [Option.toList_some, List.any_append, ha, Bool.true_or, if_true]
  rw [ins_some ha]
 ·simp only [Bool.not_eq_true] at ha
  rw [ha] at hd
  simp at hd
theorem insUpto_here {x : By × Nat} {l : Nm} {i : Nat} {p : By × Nat} (h : l[i]? = some p) (hd : (insUpto x l i).2 = false) (hb : bytesBefore x.1 p.1 = true) : insUpto x l (i + 1) = ((insUpto x l i).1 ++ [x] ++ [p], true) := by
 unfold insUpto at *
 rw [List.take_add_one, h]
 by_cases ha : (l.take i).any (fun y => bytesBefore x.1 y.1) = true
 ·rw [ha] at hd; simp at hd
 ·simp only [Bool.not_eq_true] at ha
  have h2 : (l.take i ++ [p]).any (fun y => bytesBefore x.1 y.1) = true := by rw [List.any_append]; simp [hb]
  rw [Option.toList_some, if_pos h2, ha]
  simp only [Bool.false_eq_true, if_false]
  rw [ins_none ha]
  simp [Nm.ins, hb]
theorem insUpto_on {x : By × Nat} {l : Nm} {i : Nat} {p : By × Nat} (h : l[i]? = some p) (hd : (insUpto x l i).2 = false) (hb : bytesBefore x.1 p.1 = false) : insUpto x l (i + 1) = ((insUpto x l i).1 ++ [p], false) := by
 unfold insUpto at *
 rw [List.take_add_one, h]
 by_cases ha : (l.take i).any (fun y => bytesBefore x.1 y.1) = true
 ·rw [ha] at hd; simp at hd
 ·simp only [Bool.not_eq_true] at ha
  have h2 : (l.take i ++ [p]).any (fun y => bytesBefore x.1 y.1) = false := by rw [List.any_append, ha]; simp [hb]
  rw [Option.toList_some, if_neg (by rw [h2]; decide), ha]
  simp
theorem insUpto_all (x : By × Nat) (l : Nm) {i : Nat} (hi : l.length ≤ i) : Nm.ins x l = if (insUpto x l i).2 then (insUpto x l i).1 else (insUpto x l i).1 ++ [x] := by
 unfold insUpto
 rw [List.take_of_length_le hi]
 by_cases ha : l.any (fun y => bytesBefore x.1 y.1) = true
 ·rw [if_pos ha]; simp
 ·rw [if_neg ha]
  simp only [Bool.not_eq_true] at ha
  have := ins_none ha []
  simp only [List.append_nil, Nm.ins] at this
  simpa using this
theorem turn_gv {l : Nm} (hu : l.Up) {f t : By} {k : Nat} (hne : f ≠ t) (hg : l.get f = some k) : (Nc.gv f t).apply l = (l.del f).put t k := by
 simp only [Nc.apply, hg]
 exact Nm.put_del hu hne k
def wrUp (a : Nat) (d b : By) (i : Nat) : By := b.take a ++ d.take i ++ b.drop (a + i)
theorem wrUp_zero (a : Nat) (d b : By) : wrUp a d b 0 = b := by simp [wrUp]
theorem wrUp_end {a : Nat} {d b : By} {n : Nat} (hn : n ≤ d.length) : wrUp a d b n = (Ch.wr a d).apply b n := by
 simp only [wrUp, Ch.apply]
 rw [List.length_take, Nat.min_eq_left hn]
theorem wrUp_len {a : Nat} {d b : By} {i : Nat} (ha : a ≤ b.length) (hi : i ≤ d.length) : (wrUp a d b i).length = max b.length (a + i) := by
 simp only [wrUp, List.length_append, List.length_take, List.length_drop]
 omega
theorem wrUp_set {a : Nat} {d b : By} {i : Nat} (hi : i < d.length) (hb : a + i < b.length) : (wrUp a d b i).set (a + i) (d.getD i 0) = wrUp a d b (i + 1) := by
 unfold wrUp
 rw [List.set_append_right _ _ (by simp; omega)]
 have e1 : (b.take a ++ d.take i).length = a + i := by simp; omega
 rw [e1, Nat.sub_self, List.drop_eq_getElem_cons hb, List.set_cons_zero]
 have e2 : d.getD i 0 = d[i] := by simp [List.getElem?_eq_getElem hi]
 rw [show a + (i + 1) = a + i + 1 by omega, List.take_succ_eq_append_getElem hi, e2]
 simp only [List.append_assoc, List.singleton_append]
theorem wrUp_app {a : Nat} {d b : By} {i : Nat} (hi : i < d.length) (ha : a ≤ b.length) (hb : b.length ≤ a + i) : wrUp a d b i ++ [d.getD i 0] = wrUp a d b (i + 1) := by
 unfold wrUp
 rw [List.drop_of_length_le (by omega), List.drop_of_length_le (by omega), List.take_succ_eq_append_getElem hi]
 simp [List.getElem?_eq_getElem hi]
end

section
open Go.RowKit Dsk
set_option linter.unusedVariables false
set_option linter.unusedSimpArgs false
theorem nms_cell {w : World} {A : Nat → Nat} {l : Nm} {vo : Option Addr} {n vc : Nat} (h : w.ownsRow 0 113 2 (.slice vo n vc) l.length (nmsV A l)) {i : Nat} {p : By × Nat} (hi : l[i]? = some p) :
  ∃ g, vo = some ⟨g, 0, none⟩ ∧ w.cell? ⟨g, i * 2, none⟩ = some (encStr p.1) ∧ w.cell? ⟨g, i * 2 + 1, none⟩ = some (.pointer (some ⟨A p.2, 0, none⟩)) := by
 obtain ⟨g, hg⟩ : ∃ g, vo = some ⟨g, 0, none⟩ := by
  rcases h.2 with ⟨e, e2⟩ | ⟨g, cap, cur, e, _⟩
  ·have := (List.getElem?_eq_some_iff.1 hi).1; omega
  ·injection e with e _ _; exact ⟨g, e⟩
 subst hg
 obtain ⟨h1, h2⟩ := nmsV_at A l i p hi
 refine ⟨g, rfl, ?_, ?_⟩
 ·have := h.cells (g := g) rfl (2 * i) _ h1
  rw [add0, Nat.mul_comm] at this
  exact this
 ·have := h.cells (g := g) rfl (2 * i + 1) _ h2
  rw [add0, Nat.mul_comm] at this
  exact this
set_option maxHeartbeats 1600000 in
set_option maxRecDepth 100000 in
theorem rfind_ok (vo : Option Addr) (m vc : Nat) (A : Nat → Nat) (l : Nm) (n : By) (w : World) (hl : l.length = m) (hm : m ≤ 1073741824) (h : w.ownsRow 0 113 2 (.slice vo m vc) m (nmsV A l)) :
  Calls Tryz.prog 19 #[.slice vo m vc, encStr n] w fun e w' => e = .returned (.int .i64 (fix l n)) ∧ w' = w := by
 have HL := hide hl
 have HO : Hid (w.ownsRow 0 113 2 (.slice vo m vc) l.length (nmsV A l)) := hide (by rw [hl]; exact h)
 clear hl h
 go_enter Tryz.func19, Tryz.ntmps19
 go_wp2
 go_loopw [5] (fun i wr => ∃ k : Nat, k ≤ m ∧ i = .int .i64 k ∧ wr = w ∧ Hid (∀ j p, j < k → l[j]? = some p → p.1 ≠ n)) (fun i wr => m - (intOf i).toNat)
 case atStart => exact ⟨0, by omega, rfl, rfl, hide (fun j p hj => absurd hj (Nat.not_lt_zero _))⟩
 case round =>
  obtain ⟨k, hk, rfl, hwr, HR⟩ := hrel
  obtain rfl := hwr.symm
  by_cases hlt : k < m
  ·obtain ⟨⟨x, id⟩, hp⟩ : ∃ q, l[k]? = some q := ⟨l[k]'(by rw [HL.out]; exact hlt), List.getElem?_eq_getElem _⟩
   obtain ⟨g, rfl, hc, _⟩ := nms_cell HO.out hp
   by_cases e : x = n
   ·subst e
    have HF : Hid (fix l x = k) := hide (fix_at hp HR.out)
    clear hp
    go_wp2
    go_ret
    exact ⟨by rw [HF.out]; rfl, rfl⟩
   ·have HR2 : Hid (∀ j p, j < k + 1 → l[j]? = some p → p.1 ≠ n) := hide (fun j p hj hjp => by
     by_cases hjk : j < k
     ·exact HR.out j p hjk hjp
     ·obtain rfl : j = k := by omega
      rw [hp] at hjp
      injection hjp with hjp
      rw [← hjp]
      exact e)
    have he : (x == n) = false := by simpa using e
    clear hp HR e
    go_wp2
    go_roundw
    case rel => exact ⟨k + 1, by omega, by go_num, trivial, HR2⟩
    case measure => simp [intOf]; omega
  ·have HF : Hid (fix l n = -1) := hide (fix_miss (fun p hp => by
    obtain ⟨j, hj, e⟩ := List.getElem_of_mem hp
    exact HR.out j p (by have := HL.out; omega) (by rw [List.getElem?_eq_getElem hj, e])))
   go_wp2
   go_ret
   exact ⟨by rw [HF.out]; rfl, rfl⟩
set_option maxHeartbeats 1600000 in
set_option maxRecDepth 100000 in
theorem runits_ok (c : Ch) (dv : Value) (w : World) (h : ChD w (c, dv)) : Calls Tryz.prog 106 #[.agg #[.bool (isCut c), .int .i64 c.place, dv]] w fun e w' => e = .returned (.int .i64 c.units) ∧ Kept [] w w' := by
 cases c with
 | cut a =>
  have HK := hide ((Kept.refl [] w).alloc (.cells #[.bool true, .int .i64 a, dv] 143))
  simp only [isCut, Ch.place, Ch.units]
  clear h
  go_enter Tryz.func106, Tryz.ntmps106
  go_wp2
  go_ret
  exact ⟨rfl, HK.out⟩
 | wr a x =>
  obtain ⟨bo, bc, e, hn, hc, _⟩ := OwnB.shape (show OwnB w dv x.length x from h)
  subst e
  have HK := hide ((Kept.refl [] w).alloc (.cells #[.bool false, .int .i64 a, .slice bo x.length bc] 143))
  simp only [isCut, Ch.place, Ch.units]
  clear h
  go_enter Tryz.func106, Tryz.ntmps106
  go_wp2
  go_ret
  exact ⟨rfl, HK.out⟩
set_option maxHeartbeats 1600000 in
set_option maxRecDepth 100000 in
theorem rround_ok (ao : Option Addr) (m c : Nat) (ps : List Int) (k n : Nat) (w : World) (hl : ps.length = m) (hm : m ≤ 17592186044416) (hk : k ≤ 1073741824) (hn : n ≤ 1073741824) (h : Ints w ao ps) (hwf : ∀ p ∈ ps, (Lit.int .i64 p).wf = true) :
  Calls Tryz.prog 105 #[.slice ao m c, .int .i64 k, .int .i64 n] w fun e w' => e = .returned (.int .i64 (rnd (ps.getD k 0) n)) ∧ w' = w := by
 by_cases hlt : k < m
 ·obtain ⟨b, off, rfl, hc⟩ := h k (by omega)
  have hp : (Lit.int .i64 (ps.getD k 0)).wf = true := hwf _ (by
   rw [List.getD_eq_getElem?_getD, List.getElem?_eq_getElem (by omega)]
   exact List.getElem_mem _)
  generalize ps.getD k 0 = p at hc hp
  have hb : -((n : Int) + 1) < p.tmod ((n : Int) + 1) ∧ p.tmod ((n : Int) + 1) < (n : Int) + 1 := ⟨Int.lt_tmod_of_pos p (by omega), Int.tmod_lt_of_pos p (by omega)⟩
  have hg : Hid ((rnd p n : Int) = if p.tmod ((n : Int) + 1) < 0 then p.tmod ((n : Int) + 1) + n + 1 else p.tmod ((n : Int) + 1)) := hide (by
   unfold rnd
   have h0 := Int.emod_nonneg p (b := (n : Int) + 1) (by omega)
   rw [Int.toNat_of_nonneg h0]
   have h1 := Int.emod_lt_of_pos p (b := (n : Int) + 1) (by omega)
   rw [Int.tmod_eq_emod]
   have e : (((n : Int) + 1).natAbs : Int) = (n : Int) + 1 := by omega
   by_cases hz : 0 ≤ p ∨ ((n : Int) + 1) ∣ p
   ·rw [if_pos hz]; rw [if_neg (by omega)]; omega
   ·rw [if_neg hz, e, if_pos (by omega)]; omega)
  clear h hwf
  obtain ⟨x, hx⟩ : ∃ x, x = p.tmod ((n : Int) + 1) := ⟨_, rfl⟩
  rw [← hx] at hb hg
  have HX := hide hx.symm
  have hx' := hx.symm
  clear hx
  obtain ⟨hb1, hb2⟩ := hb
  go_enter Tryz.func105, Tryz.ntmps105
  by_cases hneg : x < 0
  ·rw [if_pos hneg] at hg
   go_wp2
   go_ret
   exact ⟨by rw [hg.out]; rfl, rfl⟩
  ·rw [if_neg hneg] at hg
   go_wp2
   go_ret
   exact ⟨by rw [hg.out]; rfl, rfl⟩
 ·have he : Hid (ps.getD k 0 = 0) := hide (by simp [List.getElem?_eq_none (show ps.length ≤ k by omega)])
  have hr : Hid (rnd 0 n = 0) := hide (by simp [rnd])
  clear h hwf
  go_enter Tryz.func105, Tryz.ntmps105
  go_wp2
  go_ret
  exact ⟨by rw [he.out, hr.out]; rfl, rfl⟩
end

section
open Go.RowKit Dsk
set_option linter.unusedVariables false
set_option linter.unusedSimpArgs false
theorem fresh_own (v : World) (ty : TypeId) (ao : Option Addr) (n c : Nat) (d : By) (hl : d.length = n) (hs : Sl v ao d) (h0 : ao = none → n = 0 ∧ c = 0) (hb : n ≤ 140737488355328) :
  ∃ g c' w', (Builtin.append_ #[24, 24] ty #[.slice (some ⟨v.heap.size, 0, none⟩) 0 0, .slice ao n c]).run Tryz.prog (v.alloc (.cells #[] 5)) = .ok (.slice (some ⟨g, 0, none⟩) n c') w' ∧ w'.ownsRow 0 5 1 (.slice (some ⟨g, 0, none⟩) n c') n (bys d) ∧ Kept [] v w' ∧ v.heap.size ≤ g := by
 obtain ⟨g, c', w', h1, h2, h3, h4⟩ := run_fresh v 24 ty 5 Tryz.underlying24 Tryz.infoByte rfl ao n c (bys d) (by rw [bys_length]; exact hl) (fun j u hu => by
  obtain ⟨hj, rfl⟩ := bys_get hu
  exact hs j hj) h0 (bys_oneCell d) (by unfold maxLen; omega) (by omega)
 exact ⟨g, c', w', h1, h2, h3, h4⟩
set_option maxHeartbeats 1600000 in
set_option maxRecDepth 100000 in
theorem copied_ok (ao : Option Addr) (n c : Nat) (d : By) (w : World) (hl : d.length = n) (hs : Sl w ao d) (h0 : ao = none → n = 0 ∧ c = 0) (hb : n ≤ 140737488355328) :
  Calls Tryz.prog 20 #[.slice ao n c] w fun e w' => ∃ g c', e = .returned (.slice (some ⟨g, 0, none⟩) n c') ∧ w'.ownsRow 0 5 1 (.slice (some ⟨g, 0, none⟩) n c') n (bys d) ∧ Kept [] w w' ∧ w.heap.size ≤ g := by
 obtain ⟨g, c', w', hap, h1, h2, h3⟩ := fresh_own w 24 ao n c d hl hs h0 hb
 have HE := hide (And.intro h1 (And.intro h2 h3))
 clear hl hs h1 h2 h3 h0
 go_enter Tryz.func20, Tryz.ntmps20
 go_wp2_with (at_builtin; refine wpList_app_run rfl _ _ 24 24 rfl _ _ rfl rfl _ _ hap ?_)
 go_ret
 exact ⟨g, c', rfl, HE.out.1, HE.out.2.1, HE.out.2.2⟩
theorem copiedB_ok (v : Value) (n : Nat) (d : By) (w : World) (h : OwnB w v n d) (hb : n ≤ 140737488355328) :
  Calls Tryz.prog 20 #[v] w fun e w' => ∃ g c', e = .returned (.slice (some ⟨g, 0, none⟩) n c') ∧ w'.ownsRow 0 5 1 (.slice (some ⟨g, 0, none⟩) n c') n (bys d) ∧ Kept [] w w' ∧ w.heap.size ≤ g := by
 obtain ⟨bo, bc, rfl, h1, h2, h3, h4⟩ := h.shape
 exact copied_ok bo n bc d w h.1 h.sl h3 hb
theorem Tryz.infoName : (Tryz.prog.info? 113).map (fun i => (i.zero, i.size, i.bytes)) = some (some (.agg #[.string ⟨#[]⟩, .pointer none]), 2, 24) := by kernel_rfl
structure Bl (w wr : World) (A : Nat → Nat) (v : Value) (l : Nm) : Prop where
 row : wr.ownsRow 0 113 2 v l.length (nmsV A l)
 new : ∀ g, v.ownBlock = some g → w.heap.size ≤ g
 keep : Kept [] w wr
theorem Bl.start {w w1 : World} {A : Nat → Nat} (hk : Kept [] w w1) : Bl w w1 A (.slice none 0 0) [] := ⟨World.ownsRow_nil _ _ _ _, by simp [Value.ownBlock], hk⟩
theorem Bl.app {w wr : World} {A : Nat → Nat} {fo : Option Addr} {m fc : Nat} {l : Nm} (h : Bl w wr A (.slice fo m fc) l) (hm : l.length = m) (hb : m ≤ 1073741824) (n : By) (k : Nat) (b : Nat) (hbk : A k = b) :
  ∃ g c w5, (Builtin.append_ #[71, 71] 71 #[.slice fo m fc, .slice (some ⟨wr.heap.size, 0, none⟩) 1 1]).run Tryz.prog (wr.alloc (.cells #[encStr n, .pointer (some ⟨b, 0, none⟩)] 113)) = .ok (.slice (some ⟨g, 0, none⟩) (m + 1) c) w5 ∧ Bl w w5 A (.slice (some ⟨g, 0, none⟩) (m + 1) c) (l ++ [(n, k)]) := by
 have hr := h.row
 rw [hm] at hr
 obtain ⟨g, c, w', e1, e2, e3, e4, _⟩ := run_app (P := Tryz.prog) wr 71 71 113 Tryz.underlying71 Tryz.infoName rfl (by decide) _ m _ hr [encStr n, .pointer (some ⟨b, 0, none⟩)] rfl (fun z hz => by simp only [List.mem_cons, List.not_mem_nil, or_false] at hz; rcases hz with rfl | rfl <;> rfl) (by unfold maxLen; omega) (by omega)
 have hK := e3 (fun k => (Value.slice fo m fc).ownBlock = some k) (fun _ e => e)
 refine ⟨g, c, w', e1, ⟨?_, ?_, ?_⟩⟩
 ·rw [nmsV_snoc, List.length_append, hm]
  have : nmV A (n, k) = [encStr n, .pointer (some ⟨b, 0, none⟩)] := by unfold nmV; rw [hbk]
  rw [this]
  exact e2
 ·intro g' hg'
  simp only [Value.ownBlock, Option.some.injEq] at hg'
  subst hg'
  rcases e4 with e | e
  ·exact h.new g e.symm
  ·exact Nat.le_trans h.keep.size e
 ·exact ⟨hK.os.trans h.keep.os, hK.tape.trans h.keep.tape, hK.output.trans h.keep.output, Nat.le_trans h.keep.size hK.size, fun i hi _ => (hK.block i (Nat.lt_of_lt_of_le hi h.keep.size) (fun e => by have := h.new i e; omega)).trans (h.keep.block i hi (by simp))⟩
set_option maxHeartbeats 1600000 in
set_option maxRecDepth 100000 in
theorem without_ok (vo : Option Addr) (m vc : Nat) (A : Nat → Nat) (l : Nm) (n : By) (w : World) (hl : l.length = m) (hm : m ≤ 1073741824) (h : w.ownsRow 0 113 2 (.slice vo m vc) m (nmsV A l)) :
  Calls Tryz.prog 66 #[.slice vo m vc, encStr n] w fun e w' => ∃ v, e = .returned v ∧ Bl w w' A v (l.del n) := by
 have HL := hide hl
 have HO : Hid (w.ownsRow 0 113 2 (.slice vo m vc) l.length (nmsV A l)) := hide (by rw [hl]; exact h)
 have HS := hide (Bl.start (A := A) (Kept.refl [] w))
 clear hl h
 go_enter Tryz.func66, Tryz.ntmps66
 go_wp2
 go_loopw [5, 6] (fun f i wr => ∃ k x : Nat, k ≤ m ∧ x ≤ k ∧ i = .int .i64 k ∧ Hid (Bl w wr A f (Nm.del (l.take k) n) ∧ (Nm.del (l.take k) n).length = x) ∧ ∃ fo fc, f = .slice fo x fc) (fun f i wr => m - (intOf i).toNat)
 case atStart => exact ⟨0, 0, by omega, by omega, rfl, hide ⟨by simpa [Nm.del] using HS.out, by simp [Nm.del]⟩, none, 0, rfl⟩
 case round =>
  clear HS
  obtain ⟨k, x, hk, hx, rfl, HR, fo, fc, rfl⟩ := hrel
  obtain ⟨hR, hlen⟩ := HR.out
  clear HR
  by_cases hlt : k < m
  ·obtain ⟨⟨nm, id⟩, hp⟩ : ∃ q, l[k]? = some q := ⟨l[k]'(by rw [HL.out]; exact hlt), List.getElem?_eq_getElem _⟩
   have hO := own_keeps HO.out (Keep.ofNone (F := fun _ => False) hR.keep) (fun _ _ h => h)
   obtain ⟨g, rfl, hc, hc1⟩ := nms_cell hO hp
   have hst := del_take_snoc l n k (nm, id) hp
   by_cases e : nm = n
   ·rw [if_pos e, List.append_nil] at hst
    have H5 : Hid (Bl w wr A (.slice fo x fc) (Nm.del (l.take (k + 1)) n) ∧ (Nm.del (l.take (k + 1)) n).length = x) := hide (by rw [hst]; exact ⟨hR, hlen⟩)
    have he : (nm == n) = true := by simpa using e
    clear hp hO hst hR hlen e
    go_wp2
    go_roundw
    case rel => exact ⟨k + 1, x, by omega, by omega, by go_num, H5, _, _, rfl⟩
    case measure => simp [intOf]; omega
   ·rw [if_neg e] at hst
    obtain ⟨ga, gc, w5, hap, hb5⟩ := hR.app hlen (by omega) nm id (A id) rfl
    have H5 : Hid (Bl w w5 A (.slice (some ⟨ga, 0, none⟩) (x + 1) gc) (Nm.del (l.take (k + 1)) n) ∧ (Nm.del (l.take (k + 1)) n).length = x + 1) := hide (by rw [hst]; exact ⟨hb5, by simp [hlen]⟩)
    have he : (nm == n) = false := by simpa using e
    clear hp hO hst hR hlen e hb5
    go_wp2_with (at_builtin; refine wpList_app_run rfl _ _ 71 71 rfl _ _ rfl rfl _ _ hap ?_)
    go_roundw
    case rel => exact ⟨k + 1, x + 1, by omega, by omega, by go_num, H5, _, _, rfl⟩
    case measure => simp [intOf]; omega
  ·have HE : Hid (Bl w wr A (.slice fo x fc) (l.del n)) := hide (by
    have := hR
    rw [List.take_of_length_le (by have := HL.out; omega)] at this
    exact this)
   clear hR hlen
   go_wp2
   go_ret
   exact ⟨_, rfl, HE.out⟩
theorem Bl.shape {w wr : World} {A : Nat → Nat} {v : Value} {l : Nm} (h : Bl w wr A v l) : ∃ vo vc, v = .slice vo l.length vc := by
 obtain ⟨a, b, e, _⟩ := own_shape h.row
 exact ⟨a, b, e⟩
end

end Go.Proofs.YteckiednnaianaaGreat
