/-
  What a pair of nothing wants: its desk, its steps, what stands beside it. (Put together by tools/rh0.py.)
-/
import Derived.Test.YtmoaaimjgdbelaaGreatRfb
import Derived.Test.YtmoaaimjgdbelaaGreatId2
import Derived.Test.YtmoaaimjgdbelaaGreatHg
import Derived.Test.YtmoaaimjgdbelaaGreatHh
import Derived.Test.YtmoaaimjgdbelaaGreatHo
import Derived.Test.YtmoaaimjgdbelaaGreatRsq
import Derived.Deep.RegionHeld3
import Derived.Lib.SlBytesConst
namespace Go.Proofs.YtmoaaimjgdbelaaGreat
open Go.RowKit Dsk
set_option linter.unusedVariables false
set_option linter.unusedSimpArgs false

theorem Keep.frozen {F : Nat → Prop} {w w' : World} (h : Keep F w w') {p : Addr} (hp : p.block < w.heap.size) (hn : ¬ F p.block) : w'.frozen? p = w.frozen? p := World.frozen?_of_block (w := w) (h.block p.block hp hn)

def prB (P D : Nat) (bo : Option Nat) (b : Nat) : Prop := b = P ∨ b = D ∨ bo = some b

abbrev Mvs (X : Nat → Prop) (P D : Nat) (bo : Option Nat) : Nat → Prop := fun b => ¬ (X b ∨ prB P D bo b)

theorem dk_sl {w : World} {D g m : Nat} {xs : List UInt8} (h : Dk w D (some g) (laid xs m)) : Sl w (some ⟨g, 0, none⟩) xs := Sl.of fun i hi => by
  rw [cell_of_row w g (0 + i) _ _ _ (h.row g rfl).2]
  simp only [bys, laid, List.getElem?_toArray, List.getElem?_map, Nat.zero_add]
  rw [List.getElem?_append_left hi, List.getElem?_eq_getElem hi]
  simp [List.getD_eq_getElem?_getD, List.getElem?_eq_getElem hi]

theorem run_freshS (v : World) (t ty e : TypeId) {z : Value} {s bs : Nat} (ht : Tryz.prog.underlying t = some (.slice e)) (hi : (Tryz.prog.info? e).map (fun i => (i.zero, i.size, i.bytes)) = some (some z, s, bs)) (hzs : z.cells.size = s) (hs : 0 < s) (x : Value) (n : Nat) (ys : List Value) (hx : v.ownsRow 0 e s x n ys) (h1 : ∀ u ∈ ys, u.oneCell' = true) (hn : n ≤ maxLen) (hb : n * bs ≤ 140737488355328) :
    ∃ g c' w', (Builtin.append_ #[t, t] ty #[.slice (some ⟨v.heap.size, 0, none⟩) 0 0, x]).run Tryz.prog (v.alloc (.cells #[] e)) = .ok (.slice (some ⟨g, 0, none⟩) n c') w' ∧ w'.ownsRow 0 e s (.slice (some ⟨g, 0, none⟩) n c') n ys ∧ Kept [] v w' ∧ v.heap.size ≤ g := by
  have hown : (v.alloc (.cells #[] e)).ownsRow v.heap.size e s (.slice (some ⟨v.heap.size, 0, none⟩) 0 0) 0 [] := World.ownsRow_made v #[] 0 (Nat.le_refl _) (by decide) (by simp)
  have hk := (Kept.refl [] v).alloc (.cells #[] e)
  obtain ⟨i0, hi, hz0, hz1, hz2⟩ := info_parts hi
  rcases hx.2 with ⟨rfl, rfl⟩ | ⟨g0, cap0, cur0, rfl, _, hg0, hn0, hc0, hs0, ht0⟩
  · have : ys = [] := List.eq_nil_of_length_eq_zero (by have := hx.1; simpa using this)
    subst this
    exact ⟨v.heap.size, 0, _, run_append_owned_none (P := Tryz.prog) (w := v.alloc (.cells #[] e)) v.heap.size t ty e i0 s ht hi _ 0 [] hown, ownsRow_base_a hown (Nat.zero_le _), hk, Nat.le_refl _⟩
  · obtain ⟨v', w', hrun, h1', h2, h3, h4⟩ := run_append_own_at (P := Tryz.prog) (v.alloc (.cells #[] e)) v.heap.size t ty e i0 z s bs ht hi hz0 hz1 hz2 hzs hs _ 0 [] hown ⟨g0, 0, none⟩ n cap0 ys (by have := hx.1; omega) (fun j u hj => (hx.alloc (.cells #[] e)).cells (g := g0) rfl j u hj) h1 (by omega) (by rw [Nat.zero_add]; exact hb) hk.size
    rw [Nat.zero_add, List.nil_append] at h1'
    have hk' : Kept [] v w' := hk.grown h2 (by intro k hk2 hlt; simp [Value.ownBlock] at hk2; omega)
    rcases h1'.2 with ⟨e1, e2⟩ | ⟨g, cap', cur, e1, hg, _⟩
    · have := (h3.1 e1).1
      simp at this
    · subst e1
      exact ⟨g, cap', w', hrun, ownsRow_base_a h1' (Nat.zero_le _), hk', hg⟩

structure Tl (w wr : World) (v : Value) (l : List By) : Prop where
  row : wr.ownsRow 0 9 1 v l.length (l.map encStr)
  new : ∀ g, v.ownBlock = some g → w.heap.size ≤ g
  keep : Kept [] w wr

theorem tl_kept {w a b : World} {v : Value} {l : List By} (h : Tl w a v l) (hk : Kept [] a b) : Tl w b v l := ⟨own_keeps h.row (Keep.ofNone (F := fun _ => False) hk) (fun _ _ h => h), h.new, h.keep.trans hk (by simp)⟩

section
variable {w w' : World} {D : Nat}

theorem pk_ints {D g : Nat} {ps : List Int} (h : Pk w D g (plaid ps)) : Ints w (some ⟨g, 0, none⟩) ps := fun i hi => ⟨g, 0, rfl, by
  rw [cell_of_row w g (0 + i) _ _ _ h.row]
  simp only [ins, plaid, List.getElem?_toArray, List.getElem?_map, Nat.zero_add]
  rw [List.getElem?_append_left hi, List.getElem?_eq_getElem hi]
  simp [List.getD_eq_getElem?_getD, List.getElem?_eq_getElem hi]⟩

theorem Pk.keep {F : Nat → Prop} {g : Nat} {l : List Int} (h : Pk w D g l) (hk : Keep F w w') (h1 : ¬ F D) (h2 : ¬ F g) : Pk w' D g l := ⟨hk.cellOf h.cell h1, hk.heapOf h.row h2⟩

end

def StpX (X : Nat → Prop) (s : Stp) : Prop := (s.ds ≠ [] → ∀ a, s.da = some a → X a.block) ∧ (s.ps ≠ [] → ∀ a, s.pa = some a → X a.block)

theorem StpIn.kept {w w' : World} {s : Stp} (h : StpIn w s) (hk : Kept [] w w') : StpIn w' s :=
  ⟨⟨h.inb.len, h.inb.le, h.inb.max, h.inb.sl.kept hk (by simp), h.inb.nil, h.inb.spot⟩, h.nm, h.tm, h.wk, h.wa, h.wn, h.wo, h.wf, h.wt, h.pl, h.pc, h.pm, h.pr.kept (Keep.ofNone (F := fun _ => False) hk) (fun _ _ _ h => h), h.pw, h.pz⟩

theorem size_alloc (w : World) (o : Obj) : (w.alloc o).heap.size = w.heap.size + 1 := by
  show (w.heap.push o).size = _
  simp

theorem kept_of_keep {w wr : World} (h : Keep (fun b => ¬ b < w.heap.size) w wr) : Kept [] w wr := ⟨h.os, h.tape, h.output, h.size, fun k hk _ => h.block k hk (fun hn => hn hk)⟩

theorem stpX_old {w : World} {s : Stp} (h : StpIn w s) : StpX (fun b => b < w.heap.size) s := by
  refine ⟨fun hd a ha => ?_, fun hp a ha => ?_⟩
  · obtain ⟨b, off, e, hb, _⟩ := h.inb.sl.open hd
    rw [e] at ha
    cases ha
    exact hb
  · obtain ⟨b, off, e, hc⟩ := h.pr 0 (List.length_pos_iff.2 hp)
    rw [e] at ha
    cases ha
    exact World.block_lt_of_cell? _ _ hc

structure Foot (Z : Nat → Prop) (w : World) (A : (Nat → Prop) → World → Prop) : Prop where
  lt : ∀ b, Z b → b < w.heap.size
  on : ∀ (X : Nat → Prop) (w' : World), Keep (fun b => ¬ Z b) w w' → (∀ b, X b → ¬ Z b ∧ b < w'.heap.size) → A X w'

theorem Foot.keep {Z F : Nat → Prop} {w w' : World} {A : (Nat → Prop) → World → Prop} (h : Foot Z w A) (hk : Keep F w w') (hF : ∀ b, F b → ¬ Z b) : Foot Z w' A :=
  ⟨fun b hb => Nat.lt_of_lt_of_le (h.lt b hb) hk.size, fun X w'' h1 h2 => h.on X w'' ((hk.mono (G := fun b => ¬ Z b) (fun b hb _ => hF b hb)).trans h1 (fun _ h _ => h)) h2⟩

def stD : List Ro := [⟨some 3, [0], []⟩, ⟨some 4, [3], [0]⟩, ⟨some 5, [4], [1]⟩, ⟨some 6, [5], [2]⟩, ⟨some 7, [6], [3]⟩, ⟨some 8, [0], []⟩, ⟨some 9, [8], [5]⟩, ⟨some 10, [9], [6]⟩, ⟨some 11, [10], [7]⟩, ⟨some 12, [11], [8, 4]⟩, ⟨some 13, [7, 12], [4, 9]⟩, ⟨some 14, [13], [10, 9]⟩, ⟨some 15, [0, 14], [11]⟩, ⟨some 16, [15, 14], [12, 11]⟩, ⟨some 17, [16, 14], [13, 11]⟩, ⟨some 18, [17, 14], [14, 11]⟩, ⟨some 19, [18, 14], [15, 11, 11]⟩, ⟨some 20, [0, 14], [11]⟩, ⟨some 21, [20, 14], [17, 11]⟩, ⟨some 22, [21, 14], [18, 11]⟩, ⟨some 23, [22, 14], [19, 11]⟩, ⟨some 24, [23, 14], [20, 16, 11]⟩, ⟨some 25, [19, 24, 14], [16, 21, 11]⟩, ⟨some 26, [14, 25], [11, 22]⟩, ⟨some 27, [26], [23, 21]⟩, ⟨some 28, [0, 27], [24]⟩, ⟨some 29, [28, 27], [25, 24]⟩, ⟨some 30, [29, 27], [26, 24]⟩, ⟨some 31, [30, 27], [27, 24]⟩, ⟨some 32, [31, 27], [28, 24, 24]⟩, ⟨some 33, [0, 27], [24]⟩, ⟨some 34, [33, 27], [30, 24]⟩, ⟨some 35, [34, 27], [31, 24]⟩, ⟨some 36, [35, 27], [32, 24]⟩, ⟨some 37, [36, 27], [33, 29, 24]⟩, ⟨some 38, [32, 37, 27], [29, 34, 24]⟩, ⟨some 39, [27, 38], [24, 35]⟩, ⟨some 40, [39], [36, 34]⟩, ⟨some 41, [0, 40], [37]⟩, ⟨some 42, [41, 40], [38, 37]⟩, ⟨some 43, [42, 40], [39, 37]⟩, ⟨some 44, [43, 40], [40, 37]⟩, ⟨some 45, [44, 40], [41, 37, 37]⟩, ⟨some 46, [0, 40], [37]⟩, ⟨some 47, [46, 40], [43, 37]⟩, ⟨some 48, [47, 40], [44, 37]⟩, ⟨some 49, [48, 40], [45, 37]⟩, ⟨some 50, [49, 40], [46, 42, 37]⟩, ⟨some 51, [45, 50, 40], [42, 47, 37]⟩, ⟨some 52, [40, 51], [37, 48]⟩, ⟨some 53, [52], [49, 47]⟩, ⟨some 54, [0, 53], [50]⟩, ⟨some 55, [54, 53], [51, 50]⟩, ⟨some 56, [55, 53], [52, 50]⟩, ⟨some 57, [56, 53], [53, 50]⟩, ⟨some 58, [57, 53], [54, 50, 50]⟩, ⟨some 59, [0, 53], [50]⟩, ⟨some 60, [59, 53], [56, 50]⟩, ⟨some 61, [60, 53], [57, 50]⟩, ⟨some 62, [61, 53], [58, 50]⟩, ⟨some 63, [62, 53], [59, 55, 50]⟩, ⟨some 64, [58, 63, 53], [55, 60, 60, 50]⟩, ⟨some 65, [53, 64], [50, 61]⟩, ⟨some 66, [65], [62, 61]⟩, ⟨some 67, [0, 66], [63]⟩, ⟨some 68, [67, 66], [64, 63]⟩, ⟨some 69, [68, 66], [65, 63]⟩, ⟨some 70, [69, 66], [66, 63]⟩, ⟨some 71, [70, 66], [67, 63, 63]⟩, ⟨some 72, [0, 66], [63]⟩, ⟨some 73, [72, 66], [69, 63]⟩, ⟨some 74, [73, 66], [70, 63]⟩, ⟨some 75, [74, 66], [71, 63]⟩, ⟨some 76, [75, 66], [72, 68, 63]⟩, ⟨some 77, [71, 76, 66], [68, 73, 73, 63]⟩, ⟨some 78, [66, 77], [63, 74]⟩, ⟨some 79, [78], [75, 74]⟩, ⟨some 80, [0, 79], [76]⟩, ⟨some 81, [80, 79], [77, 76]⟩, ⟨some 82, [81, 79], [78, 76]⟩, ⟨some 83, [82, 79], [79, 76]⟩, ⟨some 84, [83, 79], [80, 76, 76]⟩, ⟨some 85, [0, 79], [76]⟩, ⟨some 86, [85, 79], [82, 76]⟩, ⟨some 87, [86, 79], [83, 76]⟩, ⟨some 88, [87, 79], [84, 76]⟩, ⟨some 89, [88, 79], [85, 81, 76]⟩, ⟨some 90, [84, 89, 79], [81, 86, 86, 76]⟩, ⟨some 91, [79, 90], [76, 87]⟩, ⟨some 92, [91], [88, 87]⟩, ⟨some 93, [0, 92], [89]⟩, ⟨some 94, [93, 92], [90, 89]⟩, ⟨some 95, [94, 92], [91, 89]⟩, ⟨some 96, [95, 92], [92, 89]⟩, ⟨some 97, [96, 92], [93, 89, 89]⟩, ⟨some 98, [0, 92], [89]⟩, ⟨some 99, [98, 92], [95, 89]⟩, ⟨some 100, [99, 92], [96, 89]⟩, ⟨some 101, [100, 92], [97, 89]⟩, ⟨some 102, [101, 92], [98, 94, 89]⟩, ⟨some 103, [97, 102, 92], [94, 99, 99, 89]⟩, ⟨some 104, [92, 103], [89, 100]⟩, ⟨some 2, [104], [101, 100, 0, 1, 2, 3, 4, 5, 6, 7, 8, 9, 10, 11, 12, 13, 14, 15, 16, 17, 18, 19, 20, 21, 22, 23, 24, 25, 26, 27, 28, 29, 30, 31, 32, 33, 34, 35, 36, 37, 38, 39, 40, 41, 42, 43, 44, 45, 46, 47, 48, 49, 50, 51, 52, 53, 54, 55, 56, 57, 58, 59, 60, 61, 62, 63, 64, 65, 66, 67, 68, 69, 70, 71, 72, 73, 74, 75, 76, 77, 78, 79, 80, 81, 82, 83, 84, 85, 86, 87, 88, 89, 90, 91, 92, 93, 94, 95, 96, 97, 98, 99, 100, 101]⟩]

end Go.Proofs.YtmoaaimjgdbelaaGreat
