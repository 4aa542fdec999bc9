/-
  press.groups: how it lies in memory. Contract: begin. (Written by tools/vb.py.)
-/
import Derived.Test.YtdnbpklnkmgmkaaVa
import Derived.Deep.Cut
namespace Go.Proofs.Ytdnbpklnkmgmkaa
open Go.RowKit
set_option linter.unusedVariables false
set_option linter.unusedSimpArgs false

/-- Nothing turns but block G and rows of type t. -/
structure Ch (t : TypeId) (G : Nat) (w w' : World) : Prop where
  os : w'.os = w.os
  tape : w'.tape = w.tape
  output : w'.output = w.output
  size : w.heap.size ≤ w'.heap.size
  block : ∀ i, i < w.heap.size → i ≠ G → (∀ cur, w.heap[i]? ≠ some (.cells cur t (0, 0))) → w'.heap[i]? = w.heap[i]?
theorem Ch.refl (t : TypeId) (G : Nat) (w : World) : Ch t G w w := ⟨rfl, rfl, rfl, Nat.le_refl _, fun _ _ _ _ => rfl⟩
theorem Ch.trans {t : TypeId} {G : Nat} {a b c : World} (h : Ch t G a b) (k : Ch t G b c) : Ch t G a c :=
  ⟨k.os.trans h.os, k.tape.trans h.tape, k.output.trans h.output, Nat.le_trans h.size k.size, fun i hi hg hc => by
    have e := h.block i hi hg hc
    exact (k.block i (Nat.lt_of_lt_of_le hi h.size) hg (fun cur => by rw [e]; exact hc cur)).trans e⟩
theorem Ch.of {t : TypeId} {G : Nat} {w w' : World} (h : Kept [] w w') : Ch t G w w' := ⟨h.os, h.tape, h.output, h.size, fun i hi _ _ => h.block i hi (by simp)⟩
theorem Ch.set {t : TypeId} {G : Nat} (w : World) (j : Nat) (v : Value) : Ch t G w (w.setCell ⟨G, j, none⟩ v) := by
  have hk : Kept [G] w (w.setCell ⟨G, j, none⟩ v) := (Kept.refl [G] w).setCell (by simp) _
  exact ⟨hk.os, hk.tape, hk.output, hk.size, fun i hi hg _ => hk.block i hi (by simpa using hg)⟩
theorem Ch.row {t : TypeId} {G : Nat} {w : World} {g j : Nat} {cur : Array Value} (hg : w.heap[g]? = some (.cells cur t (0, 0))) (v : Value) : Ch t G w (w.setCell ⟨g, j, none⟩ v) := by
  have hk : Kept [g] w (w.setCell ⟨g, j, none⟩ v) := (Kept.refl [g] w).setCell (by simp) _
  exact ⟨hk.os, hk.tape, hk.output, hk.size, fun i hi _ hc => hk.block i hi (by simp only [List.mem_singleton]; rintro rfl; exact hc cur hg)⟩
theorem Ch.grown {t : TypeId} {G base s n : Nat} {w w' : World} {v : Value} {xs : List Value} (ho : w.ownsRow base t s v n xs) (hg : w.grownBy w' v.ownBlock) : Ch t G w w' :=
  ⟨hg.os, hg.tape, hg.output, hg.size, fun i hi _ hc => hg.block i hi (fun e => by
    rcases ho.2 with ⟨rfl, _⟩ | ⟨g, c, cur, rfl, _, hh, _⟩
    · cases e
    · simp only [Value.ownBlock, Option.some.injEq] at e
      subst e
      exact hc cur hh)⟩

/-- groups lie in block G. -/
structure Gr (w : World) (G B : Nat) (bo : Option Addr) (bc : Nat) (bs : List UInt8) (fl it : Nat) : Prop where
  row : w.heap[G]? = some (.cells #[.slice bo bs.length bc, .int .i64 fl, .int .i64 it] 87 (0, 0))
  own : w.ownsRow B 5 1 (.slice bo bs.length bc) bs.length (bys bs)
  le : B ≤ G

section
variable {w : World} {G B : Nat} {bo : Option Addr} {bc : Nat} {bs : List UInt8} {fl it : Nat}
theorem Gr.lt (h : Gr w G B bo bc bs fl it) : G < w.heap.size := (Array.getElem?_eq_some_iff.1 h.row).1
theorem Gr.c0 (h : Gr w G B bo bc bs fl it) : w.cell? ⟨G, 0, none⟩ = some (.slice bo bs.length bc) := by rw [cell_of_row w G 0 _ _ _ h.row]; rfl
theorem Gr.c1 (h : Gr w G B bo bc bs fl it) : w.cell? ⟨G, 1, none⟩ = some (.int .i64 fl) := by rw [cell_of_row w G 1 _ _ _ h.row]; rfl
theorem Gr.c2 (h : Gr w G B bo bc bs fl it) : w.cell? ⟨G, 2, none⟩ = some (.int .i64 it) := by rw [cell_of_row w G 2 _ _ _ h.row]; rfl
theorem Gr.fr (h : Gr w G B bo bc bs fl it) (j : Nat) : w.frozen? ⟨G, j, none⟩ = false := frozen_of_row w G j _ _ h.row
theorem Gr.ne (h : Gr w G B bo bc bs fl it) (g : Nat) (hg : (Value.slice bo bs.length bc).ownBlock = some g) : g ≠ G := by
  rcases h.own.2 with ⟨e, _⟩ | ⟨g', c, cur, e, _, hh, _⟩
  · rw [e] at hg; cases hg
  · rw [e] at hg
    simp only [Value.ownBlock, Option.some.injEq] at hg
    subst hg
    rintro rfl
    have := h.row.symm.trans hh
    injection this with this
    injection this with _ this _
    cases this
theorem Gr.kept {w' : World} (h : Gr w G B bo bc bs fl it) (hk : Kept [] w w') : Gr w' G B bo bc bs fl it :=
  ⟨(hk.block G h.lt (by simp)).trans h.row, h.own.kept (row := none) ⟨hk.os, hk.tape, hk.output, hk.size, fun i hi _ => hk.block i hi (by simp)⟩ (by cases (Value.slice bo bs.length bc).ownBlock <;> simp), h.le⟩
/-- One of its own cells is written. -/
theorem Gr.set1 (h : Gr w G B bo bc bs fl it) (f : Nat) : Gr (w.setCell ⟨G, 1, none⟩ (.int .i64 f)) G B bo bc bs f it := by
  have hk : Kept [G] w (w.setCell ⟨G, 1, none⟩ (.int .i64 f)) := (Kept.refl [G] w).setCell (by simp) _
  refine ⟨by rw [heap_setCell_same w G 1 _ _ _ h.row]; rfl, ?_, h.le⟩
  exact h.own.kept (row := some G) ⟨hk.os, hk.tape, hk.output, hk.size, fun i hi hne => hk.block i hi (by simpa using fun e => hne (by rw [e]))⟩ (by cases hv : (Value.slice bo bs.length bc).ownBlock with | none => simp | some g => exact .inr (by have := h.ne g hv; simpa using this))
theorem Gr.set2 (h : Gr w G B bo bc bs fl it) (f : Nat) : Gr (w.setCell ⟨G, 2, none⟩ (.int .i64 f)) G B bo bc bs fl f := by
  have hk : Kept [G] w (w.setCell ⟨G, 2, none⟩ (.int .i64 f)) := (Kept.refl [G] w).setCell (by simp) _
  refine ⟨by rw [heap_setCell_same w G 2 _ _ _ h.row]; rfl, ?_, h.le⟩
  exact h.own.kept (row := some G) ⟨hk.os, hk.tape, hk.output, hk.size, fun i hi hne => hk.block i hi (by simpa using fun e => hne (by rw [e]))⟩ (by cases hv : (Value.slice bo bs.length bc).ownBlock with | none => simp | some g => exact .inr (by have := h.ne g hv; simpa using this))
/-- Its bytes are more now. -/
theorem Gr.grown {w1 : World} {g c : Nat} {ys : List UInt8} (h : Gr w G B bo bc bs fl it) (hg : w.grownBy w1 (Value.slice bo bs.length bc).ownBlock) (ho : w1.ownsRow B 5 1 (.slice (some ⟨g, 0, none⟩) (bs ++ ys).length c) (bs ++ ys).length (bys (bs ++ ys))) :
    Gr (w1.setCell ⟨G, 0, none⟩ (.slice (some ⟨g, 0, none⟩) (bs ++ ys).length c)) G B (some ⟨g, 0, none⟩) c (bs ++ ys) fl it ∧ Ch 5 G w (w1.setCell ⟨G, 0, none⟩ (.slice (some ⟨g, 0, none⟩) (bs ++ ys).length c)) ∧ Below B w (w1.setCell ⟨G, 0, none⟩ (.slice (some ⟨g, 0, none⟩) (bs ++ ys).length c)) ∧ w1.cell? ⟨G, 0, none⟩ = some (.slice bo bs.length bc) ∧ w1.frozen? ⟨G, 0, none⟩ = false := by
  have hr : w1.heap[G]? = some (.cells #[.slice bo bs.length bc, .int .i64 fl, .int .i64 it] 87 (0, 0)) := (hg.block G h.lt (fun e => h.ne G e.symm rfl)).trans h.row
  have hk : Kept [G] w1 (w1.setCell ⟨G, 0, none⟩ (.slice (some ⟨g, 0, none⟩) (bs ++ ys).length c)) := (Kept.refl [G] w1).setCell (by simp) _
  have hgG : g ≠ G := by
    rintro rfl
    rcases ho.2 with ⟨e, _⟩ | ⟨g', c', cur, e, _, hh, _⟩
    · cases e
    · simp only [Value.slice.injEq, Option.some.injEq, Addr.mk.injEq] at e
      obtain ⟨⟨rfl, _⟩, _⟩ := e
      have := hr.symm.trans hh
      injection this with this
      injection this with _ this _
      cases this
  have hB0 : B ≤ w.heap.size := by have := h.le; have := h.lt; omega
  refine ⟨⟨by rw [heap_setCell_same w1 G 0 _ _ _ hr]; rfl, ?_, h.le⟩, (Ch.grown h.own hg).trans (Ch.set w1 0 _), ?_, by rw [cell_of_row w1 G 0 _ _ _ hr]; rfl, frozen_of_row w1 G 0 _ _ hr⟩
  · exact ho.kept (row := some G) ⟨hk.os, hk.tape, hk.output, hk.size, fun i hi hne => hk.block i hi (by simpa using fun e => hne (by rw [e]))⟩ (.inr (by simp [Value.ownBlock]; exact hgG))
  · exact ((Below.refl B w).grown hg hB0 (fun j hj => (h.own.lt j hj).1)).trans (hk.below (Nat.le_trans hB0 hg.size) (by simp; exact h.le))
/-- One of its bytes is written. -/
theorem Gr.put {g f : Nat} {x : UInt8} (h : Gr w G B (some ⟨g, 0, none⟩) bc bs fl it) (hf : f < bs.length) :
    Gr (w.setCell ⟨g, f, none⟩ (.int .u8 x.toNat)) G B (some ⟨g, 0, none⟩) bc (bs.set f x) fl it ∧ Ch 5 G w (w.setCell ⟨g, f, none⟩ (.int .u8 x.toNat)) ∧ Below B w (w.setCell ⟨g, f, none⟩ (.int .u8 x.toNat)) ∧ w.cell? ⟨g, f, none⟩ = some (.int .u8 (bs.getD f 0).toNat) ∧ w.frozen? ⟨g, f, none⟩ = false := by
  obtain ⟨cur, hh, hBg⟩ : ∃ cur, w.heap[g]? = some (.cells cur 5 (0, 0)) ∧ B ≤ g := by
    rcases h.own.2 with ⟨e, _⟩ | ⟨g', c', cur, e, hB, hh, _⟩
    · cases e
    · simp only [Value.slice.injEq, Option.some.injEq, Addr.mk.injEq] at e
      obtain ⟨⟨rfl, _⟩, _⟩ := e
      exact ⟨cur, hh, hB⟩
  have hgG := h.ne g rfl
  have hk : Kept [g] w (w.setCell ⟨g, f, none⟩ (.int .u8 x.toNat)) := (Kept.refl [g] w).setCell (by simp) _
  have hlt : g < w.heap.size := (Array.getElem?_eq_some_iff.1 hh).1
  refine ⟨⟨?_, ?_, h.le⟩, Ch.row hh _, hk.below (by omega) (by simp; exact hBg), ?_, h.own.frozenAt f⟩
  · rw [hk.block G h.lt (by simp; exact fun e => hgG e.symm), h.row]; simp
  · have := h.own.stored f (.int .u8 x.toNat)
    rw [bys_set] at this
    rw [show (bs.set f x).length = bs.length by simp]
    exact this.1
  · rw [h.own.cellAt f (by omega), bys_at hf]
end

/-- What an item's beginning does: a new group, if the last one is full; the item's bit. -/
def begBs (bs : List UInt8) (it : Nat) : List UInt8 := if it % 8 = 0 then bs ++ [0] else bs
def begFl (bs : List UInt8) (fl it : Nat) : Nat := if it % 8 = 0 then bs.length else fl
def begOr (x : UInt8) (bit pl : Nat) : UInt8 := x ||| UInt8.ofNat (bit * 2 ^ pl)

theorem begOr_nat (x : UInt8) (bit pl : Nat) (h : bit * 2 ^ pl < 256) : (begOr x bit pl).toNat = x.toNat ||| (bit * 2 ^ pl) := by
  unfold begOr
  rw [UInt8.toNat_or, UInt8.toNat_ofNat', Nat.mod_eq_of_lt (by omega)]
theorem shl_small {bit pl : Nat} (hb : bit ≤ 1) (hp : pl < 8) : bit * 2 ^ pl < 256 := by
  have : 2 ^ pl ≤ 2 ^ 7 := Nat.pow_le_pow_right (by decide) (by omega)
  have h2 : bit * 2 ^ pl ≤ 1 * 2 ^ pl := Nat.mul_le_mul_right _ hb
  omega

/-- append(bs, ys...), at the operation. -/
theorem wpList_appS {ops : Array Oper} {rest : List Oper} {o : Oper} {a : Act} {Q : Exit → Act → World → Prop} (w : World) (base : Nat) (hgd : o.guard = none) (s x : Operand)
    (ho : o.op = .call { callee := .builtin .append, args := #[s, x], argTypes := #[23, 23] }) (hty : o.type = 23) (bo : Option Addr) (bc : Nat) (out ys : List UInt8) (yb m : Nat)
    (hs : a.eval s = .slice bo out.length bc) (hx : a.eval x = .slice (some ⟨yb, 0, none⟩) m m) (hO : w.ownsRow base 5 1 (.slice bo out.length bc) out.length (bys out)) (hy : Sl w (some ⟨yb, 0, none⟩) ys) (hm : ys.length = m) (hm0 : 0 < m) (hl : out.length + m ≤ 140737488355328) (hb : base ≤ w.heap.size)
    (hK : ∀ g c w', w'.ownsRow base 5 1 (.slice (some ⟨g, 0, none⟩) (out ++ ys).length c) (out ++ ys).length (bys (out ++ ys)) → w.grownBy w' (Value.slice bo out.length bc).ownBlock → wpList Try.prog ops Q rest (a.put o.dst (.slice (some ⟨g, 0, none⟩) (out ++ ys).length c)) w') :
    wpList Try.prog ops Q (o :: rest) a w := by
  refine wpList_plain hgd fun K' hK' => ?_
  obtain ⟨g, c, w3, hrun, hown3, hg3⟩ := run_append1 w base bo bc out ys yb m hO hy hm hm0 hl hb
  exact wp_append_run s x 23 ho _ _ hs hx _ _ (by rw [hty]; exact hrun) (hK' _ _ (hK g c w3 hown3 hg3))
theorem sl_new1 (w : World) (b : UInt8) : Sl (w.alloc (.cells #[.int .u8 b.toNat] 5)) (some ⟨w.heap.size, 0, none⟩) [b] := Sl.of (fun i hi => by
  obtain rfl : i = 0 := by simpa using hi
  rw [World.cell?_alloc_new]; rfl)
theorem sl_new2 (w : World) (b c : UInt8) : Sl (w.alloc (.cells #[.int .u8 b.toNat, .int .u8 c.toNat] 5)) (some ⟨w.heap.size, 0, none⟩) [b, c] := Sl.of (fun i hi => by
  rw [World.cell?_alloc_new]
  match i, hi with
  | 0, _ => rfl
  | 1, _ => rfl)

set_option maxHeartbeats 2000000 in
set_option maxRecDepth 100000 in
theorem begin_ok {w : World} {G B : Nat} {bo : Option Addr} {bc : Nat} {bs : List UInt8} {fl it : Nat} (bit : Nat) (hbit : bit ≤ 1) (h : Gr w G B bo bc bs fl it) (hfl : it % 8 ≠ 0 → fl < bs.length) (hbs : bs.length ≤ 8192) (hit : it ≤ 8192) :
    Calls Try.prog 50 #[.pointer (some ⟨G, 0, none⟩), .int .u8 (bit : Nat)] w fun e w' => e = .returned (.tuple #[]) ∧ (∃ bo' bc', Gr w' G B bo' bc' ((begBs bs it).set (begFl bs fl it) (begOr ((begBs bs it).getD (begFl bs fl it) 0) bit (it % 8))) (begFl bs fl it) (it + 1)) ∧ Ch 5 G w w' ∧ Below B w w' := by
  obtain ⟨pl, hpl⟩ : ∃ pl, pl = it % 8 := ⟨_, rfl⟩
  have e1 : Int.tmod (it : Int) 8 = (pl : Int) := by rw [Int.tmod_eq_emod_of_nonneg (by omega)]; omega
  have hpl8 : pl < 8 := by omega
  have c0 := h.c0
  have c1 := h.c1
  have c2 := h.c2
  have ff1 := h.fr 1
  have hB0 : B ≤ w.heap.size := by have := h.le; have := h.lt; omega
  by_cases h0 : it % 8 = 0
  case pos =>
    have hq : ((pl : Int) == 0) = true := by simp; omega
    have HF : Hid (begBs bs it = bs ++ [0] ∧ begFl bs fl it = bs.length ∧ it % 8 = pl ∧ it ≤ 8192) := ⟨if_pos h0, if_pos h0, hpl.symm, hit⟩
    have H1 : Hid (Gr (w.setCell ⟨G, 1, none⟩ (.int .i64 bs.length)) G B bo bc bs bs.length it ∧ Ch 5 G w (w.setCell ⟨G, 1, none⟩ (.int .i64 bs.length)) ∧ Below B w (w.setCell ⟨G, 1, none⟩ (.int .i64 bs.length)) ∧ (w.setCell ⟨G, 1, none⟩ (.int .i64 bs.length)).heap.size = w.heap.size) := ⟨h.set1 _, Ch.set w 1 _, ((Kept.refl [G] w).setCell (p := ⟨G, 1, none⟩) (by simp) _).below hB0 (by simp; exact h.le), by simp⟩
    have HB := hide hbs
    clear h hfl h0 hpl hbs
    go_enter Try.func50, Try.ntmps50
    go_wp2_with (first | (at_builtin; generalize w.setCell ⟨G, 1, none⟩ (.int .i64 bs.length) = w1 at H1 ⊢; refine wpList_appS (w1.alloc (.cells #[.int .u8 0] 5)) B rfl _ _ rfl rfl bo bc bs [0] w.heap.size 1 rfl rfl (H1.out.1.own.alloc _) (H1.out.2.2.2 ▸ sl_new1 w1 0) rfl (by decide) (by have := HB.out; omega) (by have := H1.out.1.le; have := H1.out.1.lt; simp; omega) ?_; intro g c w2 hO2 hG2; have hfin := (H1.out.1.kept ((Kept.refl [] w1).alloc (.cells #[.int .u8 0] 5))).grown hG2 hO2; obtain ⟨hU4, hC4, hB4, c4, f4⟩ := hfin; have hfin2 : Hid (Gr (w2.setCell ⟨G, 0, none⟩ (.slice (some ⟨g, 0, none⟩) (bs ++ [0]).length c)) G B (some ⟨g, 0, none⟩) c (bs ++ [0]) bs.length it ∧ Ch 5 G w (w2.setCell ⟨G, 0, none⟩ (.slice (some ⟨g, 0, none⟩) (bs ++ [0]).length c)) ∧ Below B w (w2.setCell ⟨G, 0, none⟩ (.slice (some ⟨g, 0, none⟩) (bs ++ [0]).length c))) := ⟨hU4, (H1.out.2.1.trans (Ch.of ((Kept.refl [] w1).alloc _))).trans hC4, (H1.out.2.2.1.trans (((Kept.refl [] w1).alloc _).below (by have := H1.out.1.le; have := H1.out.1.lt; omega) (by simp))).trans hB4⟩; clear hU4 hC4 hB4 hG2 hO2) | go_in)
    simp only [List.length_append, List.length_cons, List.length_nil, Nat.zero_add] at hfin2
    clear c4 f4 H1 c0 c1 c2 ff1
    generalize w2.setCell ⟨G, 0, none⟩ (.slice (some ⟨g, 0, none⟩) (bs.length + 1) c) = w5 at hfin2 ⊢
    obtain ⟨b1, hb1⟩ : ∃ b1, b1 = bs ++ [0] := ⟨_, rfl⟩
    obtain ⟨f1, hf1⟩ : ∃ f1, f1 = bs.length := ⟨_, rfl⟩
    rw [← hb1, ← hf1] at hfin2 HF
    have HG := hfin2
    have hfl1 : f1 < b1.length := by rw [hb1, hf1]; simp
    have hb1n : b1.length ≤ 8193 := by rw [hb1]; simp; exact HB.out
    clear hb1 hf1 hfin2 HB hq
    have d0 := HG.out.1.c0
    have d1 := HG.out.1.c1
    have dx := (HG.out.1.put (x := 0) hfl1).2.2.2.1
    obtain ⟨x, hx⟩ : ∃ x, x = b1.getD f1 0 := ⟨_, rfl⟩
    rw [← hx] at dx
    obtain ⟨sh, hsh⟩ : ∃ sh, sh = bit * 2 ^ pl := ⟨_, rfl⟩
    have hs8 : sh < 256 := by rw [hsh]; exact shl_small hbit hpl8
    have hor : bits .or .u8 (x.toNat : Int) (sh : Int) = ((begOr x bit pl).toNat : Int) := by rw [begOr_nat x bit pl (by omega), ← hsh, u8_or_nat _ _ (UInt8.toNat_lt x) hs8]
    have hshl : (bit : Int) * 2 ^ pl = (sh : Int) := by rw [hsh]; simp
    have hshl2 : (bit : Int) * 2 ^ pl % 256 = (sh : Int) := by rw [hshl]; omega
    have hfi : ¬ ((b1.length : Int) ≤ (f1 : Int)) := by omega
    have hw8 : IntKind.u8.wrap (sh : Int) = (sh : Int) := by rw [IntKind.wrap_u8']; omega
    have hplI : ¬ ((pl : Int) < 0) := by omega
    obtain ⟨y, hy⟩ : ∃ y, y = begOr x bit pl := ⟨_, rfl⟩
    rw [← hy] at hor
    have HXY : Hid (b1[f1]?.getD 0 = x ∧ y = begOr x bit pl) := ⟨by rw [hx]; simp, hy⟩
    clear hsh hx hy
    refine wp_region_late (fun w' => Kept [] w5 w') (fun i => decide (15 ≤ i)) (by kernel_rfl) ?_
    have h0 : Kept [] w5 w5.drew := (Kept.refl [] w5).drew
    generalize World.drew w5 = v0 at h0 ⊢
    have HG0 : Hid (Gr v0 G B (some ⟨g, 0, none⟩) c b1 f1 it ∧ Ch 5 G w v0 ∧ Below B w v0) := ⟨HG.out.1.kept h0, HG.out.2.1.trans (Ch.of h0), HG.out.2.2.trans (h0.below (by have := HG.out.1.le; have := HG.out.1.lt; omega) (by simp))⟩
    have hput := HG0.out.1.put (x := y) hfl1
    obtain ⟨p1, p2, p3, p4, p5⟩ := hput
    have HP : Hid (Gr (v0.setCell ⟨g, f1, none⟩ (.int .u8 y.toNat)) G B (some ⟨g, 0, none⟩) c (b1.set f1 y) f1 it ∧ Ch 5 G w (v0.setCell ⟨g, f1, none⟩ (.int .u8 y.toNat)) ∧ Below B w (v0.setCell ⟨g, f1, none⟩ (.int .u8 y.toNat))) := ⟨p1, HG0.out.2.1.trans p2, HG0.out.2.2.trans p3⟩
    clear p1 p2 p3 HG0
    refine wpAnyL_free (i := 0) (v := .pointer (some ⟨G, 0, none⟩)) rfl (by kernel_rfl) (by kernel_rfl) (by kernel_rfl) (fun _ _ _ h => h) (Or.inl ⟨by rfl, fun w _ => by go_simp⟩) ?_
    try simp only [List.getElem_toArray, List.getElem_cons_zero, List.getElem_cons_succ, Act.put, List.setIfInBounds_toArray, List.set_cons_zero, List.set_cons_succ]
    refine wpAnyL_free (i := 1) (v := .pointer (some ⟨G, 0, none⟩)) rfl (by kernel_rfl) (by kernel_rfl) (by kernel_rfl) (fun _ _ _ h => h) (Or.inl ⟨by rfl, fun w _ => by go_simp⟩) ?_
    try simp only [List.getElem_toArray, List.getElem_cons_zero, List.getElem_cons_succ, Act.put, List.setIfInBounds_toArray, List.set_cons_zero, List.set_cons_succ]
    refine wpAnyL_free (i := 2) (v := .pointer (some ⟨G, 0, none⟩)) rfl (by kernel_rfl) (by kernel_rfl) (by kernel_rfl) (fun _ _ _ h => h) (Or.inl ⟨by rfl, fun w _ => by go_simp⟩) ?_
    try simp only [List.getElem_toArray, List.getElem_cons_zero, List.getElem_cons_succ, Act.put, List.setIfInBounds_toArray, List.set_cons_zero, List.set_cons_succ]
    refine wpAnyL_take (i := 3) (v := .slice (some ⟨g, 0, none⟩) b1.length c) rfl (by kernel_rfl) (by kernel_rfl) (by kernel_rfl) (by kernel_rfl) (by kernel_rfl) (fun _ _ _ h => h) (Or.inl ⟨by rfl, fun w hSw => by have c := Kept.cellOf hSw d0 (by simp); go_simp⟩) h0 ?_
    try simp only [List.getElem_toArray, List.getElem_cons_zero, List.getElem_cons_succ, Act.put, List.setIfInBounds_toArray, List.set_cons_zero, List.set_cons_succ]
    refine wpAnyL_free (i := 4) (v := .pointer (some ⟨G, 0, none⟩)) rfl (by kernel_rfl) (by kernel_rfl) (by kernel_rfl) (fun _ _ _ h => h) (Or.inl ⟨by rfl, fun w _ => by go_simp⟩) ?_
    try simp only [List.getElem_toArray, List.getElem_cons_zero, List.getElem_cons_succ, Act.put, List.setIfInBounds_toArray, List.set_cons_zero, List.set_cons_succ]
    refine wpAnyL_free (i := 5) (v := .pointer (some ⟨G, 0, none⟩)) rfl (by kernel_rfl) (by kernel_rfl) (by kernel_rfl) (fun _ _ _ h => h) (Or.inl ⟨by rfl, fun w _ => by go_simp⟩) ?_
    try simp only [List.getElem_toArray, List.getElem_cons_zero, List.getElem_cons_succ, Act.put, List.setIfInBounds_toArray, List.set_cons_zero, List.set_cons_succ]
    refine wpAnyL_free (i := 6) (v := .pointer (some ⟨G, 1, none⟩)) rfl (by kernel_rfl) (by kernel_rfl) (by kernel_rfl) (fun _ _ _ h => h) (Or.inl ⟨by rfl, fun w _ => by go_simp⟩) ?_
    try simp only [List.getElem_toArray, List.getElem_cons_zero, List.getElem_cons_succ, Act.put, List.setIfInBounds_toArray, List.set_cons_zero, List.set_cons_succ]
    refine wpAnyL_take (i := 7) (v := .int .i64 f1) rfl (by kernel_rfl) (by kernel_rfl) (by kernel_rfl) (by kernel_rfl) (by kernel_rfl) (fun _ _ _ h => h) (Or.inl ⟨by rfl, fun w hSw => by have c := Kept.cellOf hSw d1 (by simp); go_simp⟩) h0 ?_
    try simp only [List.getElem_toArray, List.getElem_cons_zero, List.getElem_cons_succ, Act.put, List.setIfInBounds_toArray, List.set_cons_zero, List.set_cons_succ]
    refine wpAnyL_free (i := 8) (v := .pointer (some ⟨g, f1, none⟩)) rfl (by kernel_rfl) (by kernel_rfl) (by kernel_rfl) (fun _ _ _ h => h) (Or.inl ⟨by rfl, fun w _ => by go_simp⟩) ?_
    try simp only [List.getElem_toArray, List.getElem_cons_zero, List.getElem_cons_succ, Act.put, List.setIfInBounds_toArray, List.set_cons_zero, List.set_cons_succ]
    refine wpAnyL_take (i := 9) (v := .int .u8 x.toNat) rfl (by kernel_rfl) (by kernel_rfl) (by kernel_rfl) (by kernel_rfl) (by kernel_rfl) (fun _ _ _ h => h) (Or.inl ⟨by rfl, fun w hSw => by have c := Kept.cellOf hSw dx (by simp); go_simp⟩) h0 ?_
    try simp only [List.getElem_toArray, List.getElem_cons_zero, List.getElem_cons_succ, Act.put, List.setIfInBounds_toArray, List.set_cons_zero, List.set_cons_succ]
    refine wpAnyL_free (i := 10) (v := .int .u8 (bit : Nat)) rfl (by kernel_rfl) (by kernel_rfl) (by kernel_rfl) (fun _ _ _ h => h) (Or.inl ⟨by rfl, fun w _ => by go_simp⟩) ?_
    try simp only [List.getElem_toArray, List.getElem_cons_zero, List.getElem_cons_succ, Act.put, List.setIfInBounds_toArray, List.set_cons_zero, List.set_cons_succ]
    refine wpAnyL_free (i := 11) (v := .int .i64 (pl : Nat)) rfl (by kernel_rfl) (by kernel_rfl) (by kernel_rfl) (fun _ _ _ h => h) (Or.inl ⟨by rfl, fun w _ => by go_simp⟩) ?_
    try simp only [List.getElem_toArray, List.getElem_cons_zero, List.getElem_cons_succ, Act.put, List.setIfInBounds_toArray, List.set_cons_zero, List.set_cons_succ]
    refine wpAnyL_free (i := 12) (v := .int .u8 (sh : Nat)) rfl (by kernel_rfl) (by kernel_rfl) (by kernel_rfl) (fun _ _ _ h => h) (Or.inl ⟨by rfl, fun w _ => by go_simp⟩) ?_
    try simp only [List.getElem_toArray, List.getElem_cons_zero, List.getElem_cons_succ, Act.put, List.setIfInBounds_toArray, List.set_cons_zero, List.set_cons_succ]
    refine wpAnyL_free (i := 13) (v := .int .u8 y.toNat) rfl (by kernel_rfl) (by kernel_rfl) (by kernel_rfl) (fun _ _ _ h => h) (Or.inl ⟨by rfl, fun w _ => by go_simp⟩) ?_
    try simp only [List.getElem_toArray, List.getElem_cons_zero, List.getElem_cons_succ, Act.put, List.setIfInBounds_toArray, List.set_cons_zero, List.set_cons_succ]
    refine wpAnyL_free (i := 14) (v := .pointer (some ⟨g, f1, none⟩)) rfl (by kernel_rfl) (by kernel_rfl) (by kernel_rfl) (fun _ _ _ h => h) (Or.inl ⟨by rfl, fun w _ => by go_simp⟩) ?_
    try simp only [List.getElem_toArray, List.getElem_cons_zero, List.getElem_cons_succ, Act.put, List.setIfInBounds_toArray, List.set_cons_zero, List.set_cons_succ]
    refine wpAnyL_one (i := 15) (by kernel_rfl) rfl (fun K hK => ?_)
    rw [if_pos (by rfl)]
    go_simp
    refine hK.out _ _ (fun _ h => by cases h) ?_
    clear hK K
    try simp only [List.getElem_toArray, List.getElem_cons_zero, List.getElem_cons_succ, Act.put, List.setIfInBounds_toArray, List.set_cons_zero, List.set_cons_succ]
    refine wpAnyL_done (by kernel_rfl) ?_ _
    clear p4 p5 d0 d1 dx hor hshl hshl2 h0
    generalize v0.setCell ⟨g, f1, none⟩ (.int .u8 y.toNat) = w6 at HP ⊢
    have e2 := HP.out.1.c2
    have ef := HP.out.1.fr 2
    have HL : Hid (Gr (w6.setCell ⟨G, 2, none⟩ (.int .i64 ((it + 1 : Nat) : Int))) G B (some ⟨g, 0, none⟩) c (b1.set f1 y) f1 (it + 1) ∧ Ch 5 G w (w6.setCell ⟨G, 2, none⟩ (.int .i64 ((it + 1 : Nat) : Int))) ∧ Below B w (w6.setCell ⟨G, 2, none⟩ (.int .i64 ((it + 1 : Nat) : Int)))) := ⟨HP.out.1.set2 _, HP.out.2.1.trans (Ch.set w6 2 _), HP.out.2.2.trans (((Kept.refl [G] w6).setCell (p := ⟨G, 2, none⟩) (by simp) _).below (by have := HP.out.1.le; have := HP.out.1.lt; omega) (by simp; exact HP.out.1.le))⟩
    simp only [Int.natCast_add, Int.natCast_one] at HL
    clear HP
    go_wp2
    first | refine bodyPost_end (results_none rfl _ _ _) rfl ?_ | refine bodyPost_ret (results_none rfl _ _ _) rfl ?_
    rw [HF.out.1, HF.out.2.1, HF.out.2.2.1, HXY.out.1, ← HXY.out.2]
    exact ⟨rfl, ⟨_, _, HL.out.1⟩, HL.out.2⟩
  case neg =>
    have hq : ((pl : Int) == 0) = false := by simp; omega
    obtain ⟨g, hbo⟩ : ∃ g, bo = some ⟨g, 0, none⟩ := by
      have hlt := hfl h0
      rcases h.own.2 with ⟨e, e2⟩ | ⟨g, c', cur, e, _⟩
      · omega
      · injection e with e _ _; exact ⟨g, e⟩
    subst hbo
    have hb1n : bs.length ≤ 8193 := by omega
    obtain ⟨b1, hb1⟩ : ∃ b1, b1 = bs := ⟨_, rfl⟩
    obtain ⟨f1, hf1⟩ : ∃ f1, f1 = fl := ⟨_, rfl⟩
    obtain ⟨c, hc1⟩ : ∃ c, c = bc := ⟨_, rfl⟩
    have HF : Hid (begBs bs it = b1 ∧ begFl bs fl it = f1 ∧ it % 8 = pl ∧ it ≤ 8192) := ⟨by rw [hb1]; exact if_neg h0, by rw [hf1]; exact if_neg h0, hpl.symm, hit⟩
    have HG : Hid (Gr w G B (some ⟨g, 0, none⟩) c b1 f1 it ∧ Ch 5 G w w ∧ Below B w w) := ⟨by rw [hb1, hf1, hc1]; exact h, Ch.refl _ _ _, Below.refl _ _⟩
    have hfl1 : f1 < b1.length := by rw [hb1, hf1]; exact hfl h0
    rw [← hb1] at hb1n
    clear h hfl h0 hpl hbs hb1 hf1 hc1
    go_enter Try.func50, Try.ntmps50
    go_wp2
    clear c0 c1 c2 ff1 hq
    have d0 := HG.out.1.c0
    have d1 := HG.out.1.c1
    have dx := (HG.out.1.put (x := 0) hfl1).2.2.2.1
    obtain ⟨x, hx⟩ : ∃ x, x = b1.getD f1 0 := ⟨_, rfl⟩
    rw [← hx] at dx
    obtain ⟨sh, hsh⟩ : ∃ sh, sh = bit * 2 ^ pl := ⟨_, rfl⟩
    have hs8 : sh < 256 := by rw [hsh]; exact shl_small hbit hpl8
    have hor : bits .or .u8 (x.toNat : Int) (sh : Int) = ((begOr x bit pl).toNat : Int) := by rw [begOr_nat x bit pl (by omega), ← hsh, u8_or_nat _ _ (UInt8.toNat_lt x) hs8]
    have hshl : (bit : Int) * 2 ^ pl = (sh : Int) := by rw [hsh]; simp
    have hshl2 : (bit : Int) * 2 ^ pl % 256 = (sh : Int) := by rw [hshl]; omega
    have hfi : ¬ ((b1.length : Int) ≤ (f1 : Int)) := by omega
    have hw8 : IntKind.u8.wrap (sh : Int) = (sh : Int) := by rw [IntKind.wrap_u8']; omega
    have hplI : ¬ ((pl : Int) < 0) := by omega
    obtain ⟨y, hy⟩ : ∃ y, y = begOr x bit pl := ⟨_, rfl⟩
    rw [← hy] at hor
    have HXY : Hid (b1[f1]?.getD 0 = x ∧ y = begOr x bit pl) := ⟨by rw [hx]; simp, hy⟩
    clear hsh hx hy
    refine wp_region_late (fun w' => Kept [] w w') (fun i => decide (15 ≤ i)) (by kernel_rfl) ?_
    have h0 : Kept [] w w.drew := (Kept.refl [] w).drew
    generalize World.drew w = v0 at h0 ⊢
    have HG0 : Hid (Gr v0 G B (some ⟨g, 0, none⟩) c b1 f1 it ∧ Ch 5 G w v0 ∧ Below B w v0) := ⟨HG.out.1.kept h0, HG.out.2.1.trans (Ch.of h0), HG.out.2.2.trans (h0.below (by have := HG.out.1.le; have := HG.out.1.lt; omega) (by simp))⟩
    have hput := HG0.out.1.put (x := y) hfl1
    obtain ⟨p1, p2, p3, p4, p5⟩ := hput
    have HP : Hid (Gr (v0.setCell ⟨g, f1, none⟩ (.int .u8 y.toNat)) G B (some ⟨g, 0, none⟩) c (b1.set f1 y) f1 it ∧ Ch 5 G w (v0.setCell ⟨g, f1, none⟩ (.int .u8 y.toNat)) ∧ Below B w (v0.setCell ⟨g, f1, none⟩ (.int .u8 y.toNat))) := ⟨p1, HG0.out.2.1.trans p2, HG0.out.2.2.trans p3⟩
    clear p1 p2 p3 HG0
    refine wpAnyL_free (i := 0) (v := .pointer (some ⟨G, 0, none⟩)) rfl (by kernel_rfl) (by kernel_rfl) (by kernel_rfl) (fun _ _ _ h => h) (Or.inl ⟨by rfl, fun w _ => by go_simp⟩) ?_
    try simp only [List.getElem_toArray, List.getElem_cons_zero, List.getElem_cons_succ, Act.put, List.setIfInBounds_toArray, List.set_cons_zero, List.set_cons_succ]
    refine wpAnyL_free (i := 1) (v := .pointer (some ⟨G, 0, none⟩)) rfl (by kernel_rfl) (by kernel_rfl) (by kernel_rfl) (fun _ _ _ h => h) (Or.inl ⟨by rfl, fun w _ => by go_simp⟩) ?_
    try simp only [List.getElem_toArray, List.getElem_cons_zero, List.getElem_cons_succ, Act.put, List.setIfInBounds_toArray, List.set_cons_zero, List.set_cons_succ]
    refine wpAnyL_free (i := 2) (v := .pointer (some ⟨G, 0, none⟩)) rfl (by kernel_rfl) (by kernel_rfl) (by kernel_rfl) (fun _ _ _ h => h) (Or.inl ⟨by rfl, fun w _ => by go_simp⟩) ?_
    try simp only [List.getElem_toArray, List.getElem_cons_zero, List.getElem_cons_succ, Act.put, List.setIfInBounds_toArray, List.set_cons_zero, List.set_cons_succ]
    refine wpAnyL_take (i := 3) (v := .slice (some ⟨g, 0, none⟩) b1.length c) rfl (by kernel_rfl) (by kernel_rfl) (by kernel_rfl) (by kernel_rfl) (by kernel_rfl) (fun _ _ _ h => h) (Or.inl ⟨by rfl, fun w hSw => by have c := Kept.cellOf hSw d0 (by simp); go_simp⟩) h0 ?_
    try simp only [List.getElem_toArray, List.getElem_cons_zero, List.getElem_cons_succ, Act.put, List.setIfInBounds_toArray, List.set_cons_zero, List.set_cons_succ]
    refine wpAnyL_free (i := 4) (v := .pointer (some ⟨G, 0, none⟩)) rfl (by kernel_rfl) (by kernel_rfl) (by kernel_rfl) (fun _ _ _ h => h) (Or.inl ⟨by rfl, fun w _ => by go_simp⟩) ?_
    try simp only [List.getElem_toArray, List.getElem_cons_zero, List.getElem_cons_succ, Act.put, List.setIfInBounds_toArray, List.set_cons_zero, List.set_cons_succ]
    refine wpAnyL_free (i := 5) (v := .pointer (some ⟨G, 0, none⟩)) rfl (by kernel_rfl) (by kernel_rfl) (by kernel_rfl) (fun _ _ _ h => h) (Or.inl ⟨by rfl, fun w _ => by go_simp⟩) ?_
    try simp only [List.getElem_toArray, List.getElem_cons_zero, List.getElem_cons_succ, Act.put, List.setIfInBounds_toArray, List.set_cons_zero, List.set_cons_succ]
    refine wpAnyL_free (i := 6) (v := .pointer (some ⟨G, 1, none⟩)) rfl (by kernel_rfl) (by kernel_rfl) (by kernel_rfl) (fun _ _ _ h => h) (Or.inl ⟨by rfl, fun w _ => by go_simp⟩) ?_
    try simp only [List.getElem_toArray, List.getElem_cons_zero, List.getElem_cons_succ, Act.put, List.setIfInBounds_toArray, List.set_cons_zero, List.set_cons_succ]
    refine wpAnyL_take (i := 7) (v := .int .i64 f1) rfl (by kernel_rfl) (by kernel_rfl) (by kernel_rfl) (by kernel_rfl) (by kernel_rfl) (fun _ _ _ h => h) (Or.inl ⟨by rfl, fun w hSw => by have c := Kept.cellOf hSw d1 (by simp); go_simp⟩) h0 ?_
    try simp only [List.getElem_toArray, List.getElem_cons_zero, List.getElem_cons_succ, Act.put, List.setIfInBounds_toArray, List.set_cons_zero, List.set_cons_succ]
    refine wpAnyL_free (i := 8) (v := .pointer (some ⟨g, f1, none⟩)) rfl (by kernel_rfl) (by kernel_rfl) (by kernel_rfl) (fun _ _ _ h => h) (Or.inl ⟨by rfl, fun w _ => by go_simp⟩) ?_
    try simp only [List.getElem_toArray, List.getElem_cons_zero, List.getElem_cons_succ, Act.put, List.setIfInBounds_toArray, List.set_cons_zero, List.set_cons_succ]
    refine wpAnyL_take (i := 9) (v := .int .u8 x.toNat) rfl (by kernel_rfl) (by kernel_rfl) (by kernel_rfl) (by kernel_rfl) (by kernel_rfl) (fun _ _ _ h => h) (Or.inl ⟨by rfl, fun w hSw => by have c := Kept.cellOf hSw dx (by simp); go_simp⟩) h0 ?_
    try simp only [List.getElem_toArray, List.getElem_cons_zero, List.getElem_cons_succ, Act.put, List.setIfInBounds_toArray, List.set_cons_zero, List.set_cons_succ]
    refine wpAnyL_free (i := 10) (v := .int .u8 (bit : Nat)) rfl (by kernel_rfl) (by kernel_rfl) (by kernel_rfl) (fun _ _ _ h => h) (Or.inl ⟨by rfl, fun w _ => by go_simp⟩) ?_
    try simp only [List.getElem_toArray, List.getElem_cons_zero, List.getElem_cons_succ, Act.put, List.setIfInBounds_toArray, List.set_cons_zero, List.set_cons_succ]
    refine wpAnyL_free (i := 11) (v := .int .i64 (pl : Nat)) rfl (by kernel_rfl) (by kernel_rfl) (by kernel_rfl) (fun _ _ _ h => h) (Or.inl ⟨by rfl, fun w _ => by go_simp⟩) ?_
    try simp only [List.getElem_toArray, List.getElem_cons_zero, List.getElem_cons_succ, Act.put, List.setIfInBounds_toArray, List.set_cons_zero, List.set_cons_succ]
    refine wpAnyL_free (i := 12) (v := .int .u8 (sh : Nat)) rfl (by kernel_rfl) (by kernel_rfl) (by kernel_rfl) (fun _ _ _ h => h) (Or.inl ⟨by rfl, fun w _ => by go_simp⟩) ?_
    try simp only [List.getElem_toArray, List.getElem_cons_zero, List.getElem_cons_succ, Act.put, List.setIfInBounds_toArray, List.set_cons_zero, List.set_cons_succ]
    refine wpAnyL_free (i := 13) (v := .int .u8 y.toNat) rfl (by kernel_rfl) (by kernel_rfl) (by kernel_rfl) (fun _ _ _ h => h) (Or.inl ⟨by rfl, fun w _ => by go_simp⟩) ?_
    try simp only [List.getElem_toArray, List.getElem_cons_zero, List.getElem_cons_succ, Act.put, List.setIfInBounds_toArray, List.set_cons_zero, List.set_cons_succ]
    refine wpAnyL_free (i := 14) (v := .pointer (some ⟨g, f1, none⟩)) rfl (by kernel_rfl) (by kernel_rfl) (by kernel_rfl) (fun _ _ _ h => h) (Or.inl ⟨by rfl, fun w _ => by go_simp⟩) ?_
    try simp only [List.getElem_toArray, List.getElem_cons_zero, List.getElem_cons_succ, Act.put, List.setIfInBounds_toArray, List.set_cons_zero, List.set_cons_succ]
    refine wpAnyL_one (i := 15) (by kernel_rfl) rfl (fun K hK => ?_)
    rw [if_pos (by rfl)]
    go_simp
    refine hK.out _ _ (fun _ h => by cases h) ?_
    clear hK K
    try simp only [List.getElem_toArray, List.getElem_cons_zero, List.getElem_cons_succ, Act.put, List.setIfInBounds_toArray, List.set_cons_zero, List.set_cons_succ]
    refine wpAnyL_done (by kernel_rfl) ?_ _
    clear p4 p5 d0 d1 dx hor hshl hshl2 h0
    generalize v0.setCell ⟨g, f1, none⟩ (.int .u8 y.toNat) = w6 at HP ⊢
    have e2 := HP.out.1.c2
    have ef := HP.out.1.fr 2
    have HL : Hid (Gr (w6.setCell ⟨G, 2, none⟩ (.int .i64 ((it + 1 : Nat) : Int))) G B (some ⟨g, 0, none⟩) c (b1.set f1 y) f1 (it + 1) ∧ Ch 5 G w (w6.setCell ⟨G, 2, none⟩ (.int .i64 ((it + 1 : Nat) : Int))) ∧ Below B w (w6.setCell ⟨G, 2, none⟩ (.int .i64 ((it + 1 : Nat) : Int)))) := ⟨HP.out.1.set2 _, HP.out.2.1.trans (Ch.set w6 2 _), HP.out.2.2.trans (((Kept.refl [G] w6).setCell (p := ⟨G, 2, none⟩) (by simp) _).below (by have := HP.out.1.le; have := HP.out.1.lt; omega) (by simp; exact HP.out.1.le))⟩
    simp only [Int.natCast_add, Int.natCast_one] at HL
    clear HP
    go_wp2
    first | refine bodyPost_end (results_none rfl _ _ _) rfl ?_ | refine bodyPost_ret (results_none rfl _ _ _) rfl ?_
    rw [HF.out.1, HF.out.2.1, HF.out.2.2.1, HXY.out.1, ← HXY.out.2]
    exact ⟨rfl, ⟨_, _, HL.out.1⟩, HL.out.2⟩

end Go.Proofs.Ytdnbpklnkmgmkaa
