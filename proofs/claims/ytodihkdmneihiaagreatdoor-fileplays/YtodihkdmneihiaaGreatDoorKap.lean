import Derived.Test.YtodihkdmneihiaaGreatDoorGcp
import Derived.Test.YtodihkdmneihiaaGreatDoorGmp
namespace Go.Proofs.YtodihkdmneihiaaGreatDoor
section
open Go.RowKit Dsk
set_option linter.unusedVariables false
set_option linter.unusedSimpArgs false
namespace Dsk
open _root_.Go.Proofs.YtodihkdmneihiaaGreatDoor.Dsk.Ds
namespace Nm
end Nm
namespace Nc
end Nc
namespace Ds
def lives (S : Ds) : List Nat := S.safe.ids ++ madeN S.row
theorem shown_lives {S : Ds} (hw : S.Wf) {p : By × Nat} (hp : p ∈ S.shown) : p.2 ∈ S.lives := by
 have : p.2 ∈ S.shown.ids := List.mem_map.2 ⟨p, hp, rfl⟩
 rw [hw.shown] at this
 exact runN_ids_sub _ this
theorem safe_lives {S : Ds} {p : By × Nat} (hp : p ∈ S.safe) : p.2 ∈ S.lives := List.mem_append_left _ (List.mem_map.2 ⟨p, hp, rfl⟩)
end Ds
end Dsk
end

section
open Go.RowKit Dsk
set_option linter.unusedVariables false
set_option linter.unusedSimpArgs false
def nmV (A : Nat → Nat) (p : By × Nat) : List Value := [encStr p.1, .pointer (some ⟨A p.2, 0, none⟩)]
def nmsV (A : Nat → Nat) (l : Nm) : List Value := l.flatMap (nmV A)
def tuV (A : Nat → Nat) : Nc → List Value
 | .mk n k => [.int .i64 1, encStr n, encStr [], .pointer (some ⟨A k, 0, none⟩)]
 | .gv f t => [.int .i64 2, encStr f, encStr t, .pointer none]
 | .tk n => [.int .i64 3, encStr n, encStr [], .pointer none]
def tusV (A : Nat → Nat) (l : List Nc) : List Value := l.flatMap (tuV A)
def isCut : Ch → Bool
 | .wr _ _ => false
 | .cut _ => true
def chV (p : Ch × Value) : List Value := [.bool (isCut p.1), .int .i64 p.1.place, p.2]
def chsV (R : List (Ch × Value)) : List Value := R.flatMap chV
def chD : Ch → By
 | .wr _ x => x
 | .cut _ => []
def ChD (w : World) (p : Ch × Value) : Prop := OwnB w p.2 (chD p.1).length (chD p.1)
def Spv (l : List Dsk.Span) : List Value := l.flatMap encSp
theorem ChD.keep {F : Nat → Prop} {w w' : World} {p : Ch × Value} (h : ChD w p) (hk : Keep F w w') (hn : ∀ g, p.2.ownBlock = some g → ¬ F g) : ChD w' p := OwnB.keep h hk hn
theorem ChD.lt {w : World} {p : Ch × Value} (h : ChD w p) {g : Nat} (hg : p.2.ownBlock = some g) : g < w.heap.size := OwnB.lt h hg
theorem nmsV_snoc (A : Nat → Nat) (l : Nm) (p : By × Nat) : nmsV A (l ++ [p]) = nmsV A l ++ nmV A p := by simp [nmsV]
theorem tusV_snoc (A : Nat → Nat) (l : List Nc) (c : Nc) : tusV A (l ++ [c]) = tusV A l ++ tuV A c := by simp [tusV]
theorem chsV_snoc (R : List (Ch × Value)) (p : Ch × Value) : chsV (R ++ [p]) = chsV R ++ chV p := by simp [chsV]
theorem flat_at {α : Type} (f : α → List Value) (s : Nat) (hf : ∀ x, (f x).length = s) (l : List α) (i j : Nat) (x : α) (v : Value) (hx : l[i]? = some x) (hv : (f x)[j]? = some v) : (l.flatMap f)[s * i + j]? = some v := by
 induction l generalizing i with
 | nil => simp at hx
 | cons y r ih =>
  cases i with
  | zero =>
   simp only [List.getElem?_cons_zero, Option.some.injEq] at hx
   subst hx
   have hj : j < (f y).length := (List.getElem?_eq_some_iff.1 hv).1
   rw [List.flatMap_cons, Nat.mul_zero, Nat.zero_add, List.getElem?_append_left hj]
   exact hv
  | succ i =>
   simp only [List.getElem?_cons_succ] at hx
   rw [List.flatMap_cons, List.getElem?_append_right (by rw [hf, Nat.mul_succ]; omega), hf, show s * (i + 1) + j - s = s * i + j by rw [Nat.mul_succ]; omega]
   exact ih i hx
theorem nmsV_at (A : Nat → Nat) (l : Nm) (i : Nat) (p : By × Nat) (h : l[i]? = some p) : (nmsV A l)[2 * i]? = some (encStr p.1) ∧ (nmsV A l)[2 * i + 1]? = some (.pointer (some ⟨A p.2, 0, none⟩)) :=
 ⟨flat_at (nmV A) 2 (fun _ => rfl) l i 0 p _ h rfl, flat_at (nmV A) 2 (fun _ => rfl) l i 1 p _ h rfl⟩
theorem tuV_len (A : Nat → Nat) (c : Nc) : (tuV A c).length = 4 := by cases c <;> rfl
theorem tusV_at (A : Nat → Nat) (l : List Nc) (i j : Nat) (c : Nc) (v : Value) (h : l[i]? = some c) (hv : (tuV A c)[j]? = some v) : (tusV A l)[4 * i + j]? = some v := flat_at (tuV A) 4 (tuV_len A) l i j c v h hv
theorem chsV_at (R : List (Ch × Value)) (i j : Nat) (p : Ch × Value) (v : Value) (h : R[i]? = some p) (hv : (chV p)[j]? = some v) : (chsV R)[3 * i + j]? = some v := flat_at chV 3 (fun _ => rfl) R i j p v h hv
theorem nmsV_congr {A A' : Nat → Nat} {l : Nm} (h : ∀ k ∈ l.ids, A' k = A k) : nmsV A' l = nmsV A l := by
 unfold nmsV
 induction l with
 | nil => rfl
 | cons p r ih =>
  rw [List.flatMap_cons, List.flatMap_cons, ih (fun k hk => h k (by simp [Nm.ids] at hk ⊢; exact .inr hk))]
  congr 1
  unfold nmV
  rw [h p.2 (by simp [Nm.ids])]
theorem tusV_congr {A A' : Nat → Nat} {r : List Nc} (h : ∀ k ∈ madeN r, A' k = A k) : tusV A' r = tusV A r := by
 unfold tusV
 induction r with
 | nil => rfl
 | cons c r ih =>
  rw [List.flatMap_cons, List.flatMap_cons, ih (fun k hk => h k (by rw [madeN_cons]; exact List.mem_append_right _ hk))]
  congr 1
  cases c with
  | mk n k => simp only [tuV, h k (by rw [madeN_cons]; exact List.mem_append_left _ (by simp [Nc.made]))]
  | gv f t => rfl
  | tk n => rfl
structure RTh (w : World) (o : Lab) (l b : Nat) (sv hv rv : Value) (R : List (Ch × Value)) (t : Th) : Prop where
 cells : w.heap[b]? = some (.cells #[sv, hv, rv] 132 (0, 0))
 safe : OwnB w sv t.safe.length t.safe
 shown : OwnB w hv t.shown.length t.shown
 eq : R.map (·.1) = t.row
 row : w.ownsRow 0 144 3 rv R.length (chsV R)
 data : ∀ p ∈ R, ChD w p
 lb : o b = l
 ls : ∀ g, sv.ownBlock = some g → o g = l
 lh : ∀ g, hv.ownBlock = some g → o g = l
 lr : ∀ g, rv.ownBlock = some g → o g = l
 ld : ∀ p ∈ R, ∀ g, p.2.ownBlock = some g → o g = l
def Rg (w : World) (o : Lab) (l b : Nat) (t : Th) : Prop := ∃ sv hv rv R, RTh w o l b sv hv rv R t
section
variable {w w' : World} {o : Lab} {l b : Nat} {sv hv rv : Value} {R : List (Ch × Value)} {t : Th}
theorem RTh.keep {F : Nat → Prop} (h : RTh w o l b sv hv rv R t) (hk : Keep F w w') (hF : ∀ g, o g = l → ¬ F g) : RTh w' o l b sv hv rv R t :=
 ⟨hk.heapOf h.cells (hF b h.lb), h.safe.keep hk (fun g hg => hF g (h.ls g hg)), h.shown.keep hk (fun g hg => hF g (h.lh g hg)), h.eq, own_keeps h.row hk (fun g hg => hF g (h.lr g hg)),
  fun p hp => (h.data p hp).keep hk (fun g hg => hF g (h.ld p hp g hg)), h.lb, h.ls, h.lh, h.lr, h.ld⟩
theorem RTh.lt (h : RTh w o l b sv hv rv R t) : b < w.heap.size := (Array.getElem?_eq_some_iff.1 h.cells).1
theorem RTh.relab {o' : Lab} {l' : Nat} (h : RTh w o l b sv hv rv R t) (ho : ∀ g, g < w.heap.size → o g = l → o' g = l') : RTh w o' l' b sv hv rv R t :=
 ⟨h.cells, h.safe, h.shown, h.eq, h.row, h.data, ho b h.lt h.lb, fun g hg => ho g (h.safe.lt hg) (h.ls g hg), fun g hg => ho g (h.shown.lt hg) (h.lh g hg), fun g hg => ho g (h.row.lt g hg).2 (h.lr g hg), fun p hp g hg => ho g ((h.data p hp).lt hg) (h.ld p hp g hg)⟩
theorem Rg.keep {F : Nat → Prop} (h : Rg w o l b t) (hk : Keep F w w') (hF : ∀ g, o g = l → ¬ F g) : Rg w' o l b t := by
 obtain ⟨a, b, c, d, h⟩ := h
 exact ⟨a, b, c, d, h.keep hk hF⟩
theorem Rg.relab {o' : Lab} {l' : Nat} (h : Rg w o l b t) (ho : ∀ g, g < w.heap.size → o g = l → o' g = l') : Rg w o' l' b t := by
 obtain ⟨a, b, c, d, h⟩ := h
 exact ⟨a, b, c, d, h.relab ho⟩
theorem Rg.ext {F : Nat → Prop} {m : Nat} (h : Rg w o l b t) (hk : Keep F w w') (hF : ∀ g, o g = l → ¬ F g) : Rg w' (o.ext w w' m) l b t := by
 have h1 := h.relab (o' := o.ext w w' m) (l' := l) (fun g hg e => by rw [Lab.ext_old hg]; exact e)
 obtain ⟨a, b, c, d, h⟩ := h
 refine ⟨a, b, c, d, (h.keep hk hF).cells, (h.keep hk hF).safe, (h.keep hk hF).shown, h.eq, (h.keep hk hF).row, (h.keep hk hF).data, ?_, ?_, ?_, ?_, ?_⟩
 ·rw [Lab.ext_old h.lt]; exact h.lb
 ·intro g hg; rw [Lab.ext_old (h.safe.lt hg)]; exact h.ls g hg
 ·intro g hg; rw [Lab.ext_old (h.shown.lt hg)]; exact h.lh g hg
 ·intro g hg; rw [Lab.ext_old (h.row.lt g hg).2]; exact h.lr g hg
 ·intro p hp g hg; rw [Lab.ext_old ((h.data p hp).lt hg)]; exact h.ld p hp g hg
end
structure RDx (w : World) (q : Nat) (S : Ds) (A : Nat → Nat) (o : Lab) (nv bv tv sv : Value) : Prop where
 cells : w.heap[q]? = some (.cells #[.bool S.on, .int .i64 S.room, nv, bv, tv, .int .i64 S.strokes, .int .i64 S.planned, .int .i64 S.off, .int .i64 S.from_, .int .i64 S.to, sv] 80 (0, 0))
 now : w.ownsRow 0 139 2 nv S.shown.length (nmsV A S.shown)
 before : w.ownsRow 0 139 2 bv S.safe.length (nmsV A S.safe)
 turns : w.ownsRow 0 134 4 tv S.row.length (tusV A S.row)
 told : w.ownsRow 0 164 3 sv S.reads.length (Spv S.reads)
 th : ∀ k, k ∈ S.lives → Rg w o (k + 2) (A k) (S.th k)
 lq : o q = 1
 ln : ∀ g, nv.ownBlock = some g → o g = 1
 lb : ∀ g, bv.ownBlock = some g → o g = 1
 lt : ∀ g, tv.ownBlock = some g → o g = 1
 ls : ∀ g, sv.ownBlock = some g → o g = 1
 lim : ∀ b, o b ≠ 0 → b < w.heap.size
 pl : (Lit.int .i64 S.off).wf = true ∧ (Lit.int .i64 S.from_).wf = true ∧ (Lit.int .i64 S.to).wf = true
def RD (w : World) (q : Nat) (S : Ds) (A : Nat → Nat) (o : Lab) : Prop := S.Wf ∧ ∃ nv bv tv sv, RDx w q S A o nv bv tv sv
section
variable {w w' : World} {q : Nat} {S : Ds} {A : Nat → Nat} {o : Lab} {nv bv tv sv : Value}
theorem RDx.keep {F : Nat → Prop} (h : RDx w q S A o nv bv tv sv) (hk : Keep F w w') (hF : ∀ b, o b ≠ 0 → ¬ F b) : RDx w' q S A o nv bv tv sv :=
 have h1 : ∀ b, o b = 1 → ¬ F b := fun b hb => hF b (by rw [hb]; decide)
 ⟨hk.heapOf h.cells (h1 q h.lq), own_keeps h.now hk (fun g hg => h1 g (h.ln g hg)), own_keeps h.before hk (fun g hg => h1 g (h.lb g hg)), own_keeps h.turns hk (fun g hg => h1 g (h.lt g hg)), own_keeps h.told hk (fun g hg => h1 g (h.ls g hg)),
  fun k hk' => (h.th k hk').keep hk (fun g hg => hF g (by rw [hg]; omega)), h.lq, h.ln, h.lb, h.lt, h.ls, fun b hb => Nat.lt_of_lt_of_le (h.lim b hb) hk.size, h.pl⟩
theorem RD.keep {F : Nat → Prop} (h : RD w q S A o) (hk : Keep F w w') (hF : ∀ b, o b ≠ 0 → ¬ F b) : RD w' q S A o := by
 obtain ⟨hw, a, b, c, d, h⟩ := h
 exact ⟨hw, a, b, c, d, h.keep hk hF⟩
theorem RDx.kept (h : RDx w q S A o nv bv tv sv) (hk : Kept [] w w') : RDx w' q S A o nv bv tv sv := h.keep (Keep.ofNone (F := fun _ => False) hk) (fun _ _ h => h)
theorem RD.kept (h : RD w q S A o) (hk : Kept [] w w') : RD w' q S A o := h.keep (Keep.ofNone (F := fun _ => False) hk) (fun _ _ h => h)
theorem RDx.qlt (h : RDx w q S A o nv bv tv sv) : q < w.heap.size := (Array.getElem?_eq_some_iff.1 h.cells).1
theorem RDx.cell (h : RDx w q S A o nv bv tv sv) (j : Nat) (v : Value) (hv : (#[Value.bool S.on, .int .i64 S.room, nv, bv, tv, .int .i64 S.strokes, .int .i64 S.planned, .int .i64 S.off, .int .i64 S.from_, .int .i64 S.to, sv] : Array Value)[j]? = some v) : w.cell? ⟨q, j, none⟩ = some v := by
 rw [cell_of_row w q j _ _ _ h.cells]
 exact hv
theorem RD.wf (h : RD w q S A o) : S.Wf := h.1
theorem RD.lim (h : RD w q S A o) : ∀ b, o b ≠ 0 → b < w.heap.size := by obtain ⟨_, _, _, _, _, h⟩ := h; exact h.lim
end
def RAft (w w' : World) (q : Nat) (S' : Ds) (o : Lab) : Prop := ∃ A' o', RD w' q S' A' o' ∧ (∀ b, b < w.heap.size → o' b ≠ 0 → o b ≠ 0) ∧ Keep o.mine w w'
theorem RAft.of {w w' : World} {q : Nat} {S' : Ds} {A : Nat → Nat} {o : Lab} (h : RD w' q S' A o) (hk : Keep o.mine w w') : RAft w w' q S' o := ⟨A, o, h, fun _ _ h => h, hk⟩
theorem RAft.trans {w w1 w2 : World} {q : Nat} {S2 : Ds} {o o1 : Lab} (he : ∀ b, b < w.heap.size → o1 b ≠ 0 → o b ≠ 0) (hk : Keep o.mine w w1) (h : RAft w1 w2 q S2 o1) : RAft w w2 q S2 o := by
 obtain ⟨A2, o2, h2, e2, k2⟩ := h
 exact ⟨A2, o2, h2, fun b hb hn => he b hb (e2 b (Nat.lt_of_lt_of_le hb hk.size) hn), hk.trans k2 (fun i hi hlt => he i hlt hi)⟩
end

section
open Go.RowKit Dsk
set_option linter.unusedVariables false
set_option linter.unusedSimpArgs false
def fix (l : Nm) (n : By) : Int := match l.findIdx? (fun p => p.1 == n) with
 | some i => i
 | none => -1
theorem fix_miss {l : Nm} {n : By} (h : ∀ p ∈ l, p.1 ≠ n) : fix l n = -1 := by
 unfold fix
 rw [List.findIdx?_eq_none_iff.2 (fun p hp => by simpa using h p hp)]
theorem fix_at {l : Nm} {n : By} {i k : Nat} (h : l[i]? = some (n, k)) (hb : ∀ j p, j < i → l[j]? = some p → p.1 ≠ n) : fix l n = i := by
 unfold fix
 have hi : i < l.length := (List.getElem?_eq_some_iff.1 h).1
 have : l.findIdx? (fun p => p.1 == n) = some i := by
  rw [List.findIdx?_eq_some_iff_getElem]
  refine ⟨hi, ?_, fun j hj => ?_⟩
  ·have := (List.getElem?_eq_some_iff.1 h).2
   simp [this]
  ·have := hb j l[j] hj (List.getElem?_eq_getElem _)
   simpa using this
 rw [this]
theorem Up.before {l : Nm} (h : l.Up) {i j : Nat} {p q : By × Nat} (hi : l[i]? = some p) (hj : l[j]? = some q) (hij : i < j) : bytesBefore p.1 q.1 = true := by
 have h1 := (List.getElem?_eq_some_iff.1 hi)
 have h2 := (List.getElem?_eq_some_iff.1 hj)
 have := List.pairwise_iff_getElem.1 h i j h1.1 h2.1 hij
 rw [h1.2, h2.2] at this
 exact this
theorem fix_in {l : Nm} (hu : l.Up) {n : By} {i k : Nat} (h : l[i]? = some (n, k)) : fix l n = i :=
 fix_at h (fun j p hj hp e => by
  have := Up.before hu hp h hj
  rw [e, before_irrefl] at this
  cases this)
theorem fix_get_none {l : Nm} {n : By} (h : l.get n = none) : fix l n = -1 := fix_miss (Nm.get_none.1 h)
theorem fix_get_some {l : Nm} (hu : l.Up) {n : By} {k : Nat} (h : l.get n = some k) : ∃ i : Nat, i < l.length ∧ l[i]? = some (n, k) ∧ fix l n = i := by
 obtain ⟨i, hi, he⟩ := List.getElem_of_mem ((Nm.get_some hu).1 h)
 have h2 : l[i]? = some (n, k) := by rw [List.getElem?_eq_getElem hi, he]
 exact ⟨i, hi, h2, fix_in hu h2⟩
theorem del_take_snoc (l : Nm) (n : By) (i : Nat) (p : By × Nat) (h : l[i]? = some p) : Nm.del (l.take (i + 1)) n = Nm.del (l.take i) n ++ (if p.1 = n then [] else [p]) := by
 rw [List.take_add_one, h]
 unfold Nm.del
 rw [List.filter_append]
 congr 1
 by_cases e : p.1 = n <;> simp [e]
def insUpto (x : By × Nat) (l : Nm) (i : Nat) : Nm × Bool := if (l.take i).any (fun y => bytesBefore x.1 y.1) then (Nm.ins x (l.take i), true) else (l.take i, false)
theorem ins_none {x : By × Nat} {l : Nm} (h : l.any (fun y => bytesBefore x.1 y.1) = false) (r : Nm) : Nm.ins x (l ++ r) = l ++ Nm.ins x r := by
 induction l with
 | nil => rfl
 | cons y t ih =>
  simp only [List.any_cons, Bool.or_eq_false_iff] at h
  rw [List.cons_append]
  simp only [Nm.ins]
  rw [if_neg (by rw [h.1]; decide), ih h.2]
  rfl
theorem ins_some {x : By × Nat} {l : Nm} (h : l.any (fun y => bytesBefore x.1 y.1) = true) (r : Nm) : Nm.ins x (l ++ r) = Nm.ins x l ++ r := by
 induction l with
 | nil => simp at h
 | cons y t ih =>
  rw [List.cons_append]
  simp only [Nm.ins]
  by_cases hb : bytesBefore x.1 y.1 = true
  ·rw [if_pos hb, if_pos hb]; rfl
  ·simp only [Bool.not_eq_true] at hb
   simp only [List.any_cons, hb, Bool.false_or] at h
   rw [if_neg (by rw [hb]; decide), if_neg (by rw [hb]; decide), ih h]
   rfl
theorem insUpto_zero (x : By × Nat) (l : Nm) : insUpto x l 0 = ([], false) := by simp [insUpto]
theorem insUpto_done {x : By × Nat} {l : Nm} {i : Nat} {p : By × Nat} (h : l[i]? = some p) (hd : (insUpto x l i).2 = true) : insUpto x l (i + 1) = ((insUpto x l i).1 ++ [p], true) := by
 unfold insUpto at *
 rw [List.take_add_one, h]
 by_cases ha : (l.take i).any (fun y => bytesBefore x.1 y.1) = true
 ·simp only [Option.toList_some, List.any_append, ha, Bool.true_or, if_true]
  rw [ins_some ha]
 ·simp only [Bool.not_eq_true] at ha
  rw [ha] at hd
  simp at hd
theorem insUpto_here {x : By × Nat} {l : Nm} {i : Nat} {p : By × Nat} (h : l[i]? = some p) (hd : (insUpto x l i).2 = false) (hb : bytesBefore x.1 p.1 = true) : insUpto x l (i + 1) = ((insUpto x l i).1 ++ [x] ++ [p], true) := by
 unfold insUpto at *
 rw [List.take_add_one, h]
 by_cases ha : (l.take i).any (fun y => bytesBefore x.1 y.1) = true
 ·rw [ha] at hd; simp at hd
 ·simp only [Bool.not_eq_true] at ha
  have h2 : (l.take i ++ [p]).any (fun y => bytesBefore x.1 y.1) = true := by rw [List.any_append]; simp [hb]
  rw [Option.toList_some, if_pos h2, ha]
  simp only [Bool.false_eq_true, if_false]
  rw [ins_none ha]
  simp [Nm.ins, hb]
theorem insUpto_on {x : By × Nat} {l : Nm} {i : Nat} {p : By × Nat} (h : l[i]? = some p) (hd : (insUpto x l i).2 = false) (hb : bytesBefore x.1 p.1 = false) : insUpto x l (i + 1) = ((insUpto x l i).1 ++ [p], false) := by
 unfold insUpto at *
 rw [List.take_add_one, h]
 by_cases ha : (l.take i).any (fun y => bytesBefore x.1 y.1) = true
 ·rw [ha] at hd; simp at hd
 ·simp only [Bool.not_eq_true] at ha
  have h2 : (l.take i ++ [p]).any (fun y => bytesBefore x.1 y.1) = false := by rw [List.any_append, ha]; simp [hb]
  rw [Option.toList_some, if_neg (by rw [h2]; decide), ha]
  simp
theorem insUpto_all (x : By × Nat) (l : Nm) {i : Nat} (hi : l.length ≤ i) : Nm.ins x l = if (insUpto x l i).2 then (insUpto x l i).1 else (insUpto x l i).1 ++ [x] := by
 unfold insUpto
 rw [List.take_of_length_le hi]
 by_cases ha : l.any (fun y => bytesBefore x.1 y.1) = true
 ·rw [if_pos ha]; simp
 ·rw [if_neg ha]
  simp only [Bool.not_eq_true] at ha
  have := ins_none ha []
  simp only [List.append_nil, Nm.ins] at this
  simpa using this
theorem turn_gv {l : Nm} (hu : l.Up) {f t : By} {k : Nat} (hne : f ≠ t) (hg : l.get f = some k) : (Nc.gv f t).apply l = (l.del f).put t k := by
 simp only [Nc.apply, hg]
 exact Nm.put_del hu hne k
def wrUp (a : Nat) (d b : By) (i : Nat) : By := b.take a ++ d.take i ++ b.drop (a + i)
theorem wrUp_zero (a : Nat) (d b : By) : wrUp a d b 0 = b := by simp [wrUp]
theorem wrUp_end {a : Nat} {d b : By} {n : Nat} (hn : n ≤ d.length) : wrUp a d b n = (Ch.wr a d).apply b n := by
 simp only [wrUp, Ch.apply]
 rw [List.length_take, Nat.min_eq_left hn]
theorem wrUp_len {a : Nat} {d b : By} {i : Nat} (ha : a ≤ b.length) (hi : i ≤ d.length) : (wrUp a d b i).length = max b.length (a + i) := by
 simp only [wrUp, List.length_append, List.length_take, List.length_drop]
 omega
theorem wrUp_set {a : Nat} {d b : By} {i : Nat} (hi : i < d.length) (hb : a + i < b.length) : (wrUp a d b i).set (a + i) (d.getD i 0) = wrUp a d b (i + 1) := by
 unfold wrUp
 rw [List.set_append_right _ _ (by simp; omega)]
 have e1 : (b.take a ++ d.take i).length = a + i := by simp; omega
 rw [e1, Nat.sub_self, List.drop_eq_getElem_cons hb, List.set_cons_zero]
 have e2 : d.getD i 0 = d[i] := by simp [List.getElem?_eq_getElem hi]
 rw [show a + (i + 1) = a + i + 1 by omega, List.take_succ_eq_append_getElem hi, e2]
 simp only [List.append_assoc, List.singleton_append]
theorem wrUp_app {a : Nat} {d b : By} {i : Nat} (hi : i < d.length) (ha : a ≤ b.length) (hb : b.length ≤ a + i) : wrUp a d b i ++ [d.getD i 0] = wrUp a d b (i + 1) := by
 unfold wrUp
 rw [List.drop_of_length_le (by omega), List.drop_of_length_le (by omega), List.take_succ_eq_append_getElem hi]
 simp [List.getElem?_eq_getElem hi]
end

end Go.Proofs.YtodihkdmneihiaaGreatDoor
