import Derived.Test.YteckiednnaianaaGreatReo2p
import Derived.Test.YteckiednnaianaaGreatHep
import Derived.Test.YteckiednnaianaaGreatIep
import Derived.Test.YteckiednnaianaaGreatIbp
import Derived.Test.YteckiednnaianaaGreatRevp
namespace Go.Proofs.YteckiednnaianaaGreat
section
open Go.RowKit Dsk
set_option linter.unusedVariables false
set_option linter.unusedSimpArgs false
theorem bnd64 {c : Int} (h : (Lit.int .i64 c).wf = true) : -9223372036854775808 ≤ c ∧ c ≤ 9223372036854775807 := by
 simp [Lit.wf, IntKind.min, IntKind.max, IntKind.bits, IntKind.signed] at h
 omega
section
variable {w : World} {q : Nat} {S : Ds} {A : Nat → Nat} {o : Lab} {nv bv tv sv : Value}
set_option maxHeartbeats 1600000 in
set_option maxRecDepth 100000 in
theorem rappend_ok (h : RDx w q S A o nv bv tv sv) (hwf : S.Wf) {N : Nat} (hB : S.Bd N) (n : By) (hn : n.length ≤ 4611686018427387904) (dO : Option Addr) (m dc : Nat) (d : By) (hN : N + m ≤ 268435456) (hG : Given w o dO m d) (hni : dO = none → m = 0 ∧ dc = 0) :
  Calls Tryz.prog 56 #[.pointer (some ⟨q, 0, none⟩), encStr n, .slice dO m dc] w fun e w' => e = .returned (.int .i64 (S.append n d).1) ∧ RAft w w' q (S.append n d).2 o := by
 have hth := there_ok h hwf.sup (by have := hB.shown hwf; omega) n hn
 by_cases h0 : (S.find n).1 = 0
 ·obtain ⟨i, hp, hi, hti, hlv, hon, hnx⟩ := find0 hwf h0
  have hlen := hB.len hwf hnx
  have hap : S.append n d = S.writeAt n (S.th (S.find n).2).shown.length d := by
   have : ¬ (((S.th (S.find n).2).shown.length : Int) < 0 ∨ ((S.th (S.find n).2).shown.length : Int) < (S.th (S.find n).2).shown.length) := by omega
   simp only [Ds.append, Ds.writeAt, h0, ne_eq, not_true, if_false]
   rw [if_neg this]
   rfl
  have hwa := rwriteAt_ok h hwf hB n hn ((S.th (S.find n).2).shown.length : Nat) (WalkArith.wf_i64 (by omega)) dO m dc d hN hG hni
  rw [← hap] at hwa
  rw [h0, hti] at hth
  generalize (S.find n).2 = k at *
  obtain ⟨mm, hm⟩ : ∃ m, S.shown.length = m := ⟨_, rfl⟩
  obtain ⟨no, nc, hnv⟩ := h.nvs
  rw [hm] at hnv hi
  have hmm : mm ≤ 268435456 := by have := hB.shown hwf; omega
  subst hnv
  obtain ⟨gn, hgn, _, cpn⟩ := nms_cell (n := mm) (l := S.shown) (A := A) (w := w) (vo := no) (vc := nc) h.now hp
  subst hgn
  have c2 := h.cell 2 _ rfl
  obtain ⟨so0, sc0, ho0, hc0, _, _, _, ch0, _, _⟩ := h.thShape hlv
  generalize (S.th k).shown.length = z at *
  generalize A k = ab at ch0 cpn
  clear h hp h0 hti hap hm hlv hB hG
  go_enter Tryz.func56, Tryz.ntmps56
  go_wp2_with (first
   | (go_at_call 82; refine hth.mono ?_; rintro e w' ⟨rfl, hw⟩; obtain rfl := hw.symm; clear hth)
   | (go_at_call 54; refine hwa.mono ?_; rintro e w2 ⟨rfl, hA⟩; have HA := hide hA; clear hwa hA))
  go_ret
  exact ⟨rfl, HA.out⟩
 ·have HC : Hid (S.append n d = ((S.find n).1, S)) := hide (by simp [Ds.append, h0])
  have HA := hide (RAft.of ⟨hwf, _, _, _, _, h⟩ (Keep.refl _ w))
  generalize (S.find n).1 = E at hth h0 HC
  generalize thereI S n = I at hth
  have e0 : (E == 0) = false := by simpa using h0
  have e1 : (E != 0) = true := by simpa using h0
  clear h hB h0 hG
  go_enter Tryz.func56, Tryz.ntmps56
  go_wp2_with (go_at_call 82; refine hth.mono ?_; rintro e w' ⟨rfl, hw⟩; obtain rfl := hw.symm; clear hth)
  go_ret
  exact ⟨by rw [HC.out]; rfl, by rw [HC.out]; exact HA.out⟩
theorem Spv_snoc (l : List Dsk.Span) (s : Dsk.Span) : Spv (l ++ [s]) = Spv l ++ encSp s := by simp [Spv]
theorem RDx.addTold {to : Option Addr} {n tc : Nat} (h : RDx w q S A o nv bv tv (.slice to n tc)) (hn : S.reads.length = n) (hb : n ≤ 536870912) (s : Dsk.Span) :
  ∃ g c' w5, (Builtin.append_ #[60, 60] 60 #[.slice to n tc, .slice (some ⟨w.heap.size, 0, none⟩) 1 1]).run Tryz.prog (w.alloc (.cells #[encStr s.name, .int .i64 s.at_, .int .i64 s.n] 126)) = .ok (.slice (some ⟨g, 0, none⟩) (n + 1) c') w5 ∧ w5.cell? ⟨q, 10, none⟩ = some (.slice to n tc) ∧ w5.frozen? ⟨q, 10, none⟩ = false ∧
   RDx (w5.setCell ⟨q, 10, none⟩ (.slice (some ⟨g, 0, none⟩) (n + 1) c')) q { S with reads := S.reads ++ [s] } A (o.ext w w5 1) nv bv tv (.slice (some ⟨g, 0, none⟩) (n + 1) c') ∧ Keep (fun b => o b = 1) w (w5.setCell ⟨q, 10, none⟩ (.slice (some ⟨g, 0, none⟩) (n + 1) c')) := by
 have hr := h.told
 rw [hn] at hr
 obtain ⟨g, c', w5, e1, e2, e3, e4, e5⟩ := run_app (P := Tryz.prog) w 60 60 126 Tryz.underlying60 Tryz.infoSpan rfl (by decide) _ n _ hr (encSp s) rfl (fun z hz => by simp only [encSp, List.mem_cons, List.not_mem_nil, or_false] at hz; rcases hz with rfl | rfl | rfl <;> rfl) (by unfold maxLen; omega) (by omega)
 have hK5 := e3 (fun k => (Value.slice to n tc).ownBlock = some k) (fun _ e => e)
 have nq : ¬ (Value.slice to n tc).ownBlock = some q := own_ne h.told h.cells (by decide)
 have hc5 := hK5.heapOf h.cells nq
 have old : ∀ b, b < w.heap.size → o.ext w w5 1 b = o b := fun b hb => Lab.ext_old hb
 have hk : Keep (· = q) w5 (w5.setCell ⟨q, 10, none⟩ (.slice (some ⟨g, 0, none⟩) (n + 1) c')) := (Keep.refl (· = q) w5).setCell (p := ⟨q, 10, none⟩) (fun _ => rfl) _
 have hF1 : ∀ b, (Value.slice to n tc).ownBlock = some b → o b = 1 := fun b e => h.ls b e
 have hno := own_keeps h.now hK5 (fun g hg e => own_two h.now h.told (by decide) g hg e)
 have hbe := own_keeps h.before hK5 (fun g hg e => own_two h.before h.told (by decide) g hg e)
 have hto := own_keeps h.turns hK5 (fun g hg e => own_two h.turns h.told (by decide) g hg e)
 have hlab : ∀ g', (Value.slice (some ⟨g, 0, none⟩) (n + 1) c').ownBlock = some g' → o.ext w w5 1 g' = 1 := fun g' hg' => by
  simp only [Value.ownBlock, Option.some.injEq] at hg'
  subst hg'
  rcases e4 with e | e
  ·rw [old g (hr.lt g e.symm).2]; exact h.ls g e.symm
  ·exact Lab.ext_new e e5
 have hcell : w5.cell? ⟨q, 10, none⟩ = some (.slice to n tc) := by rw [cell_of_row w5 q 10 _ _ _ hc5]; rfl
 refine ⟨g, c', w5, e1, hcell, frozen_of_row _ _ _ _ _ hc5, ⟨?_, ?_, ?_, ?_, ?_, ?_, ?_, ?_, ?_, ?_, hlab, ?_, h.pl⟩, ?_⟩
 ·rw [heap_setCell_same _ q 10 _ _ _ hc5]; simp
 ·exact own_keeps hno hk (own_types0 hno hc5 (by decide))
 ·exact own_keeps hbe hk (own_types0 hbe hc5 (by decide))
 ·exact own_keeps hto hk (own_types0 hto hc5 (by decide))
 ·have e2' : w5.ownsRow 0 126 3 (.slice (some ⟨g, 0, none⟩) (n + 1) c') (S.reads ++ [s]).length (Spv (S.reads ++ [s])) := by
   rw [Spv_snoc, List.length_append, hn]; exact e2
  exact own_keeps e2' hk (own_types0 e2' hc5 (by decide))
 ·intro k hk'
  have h1 : Rg w5 (o.ext w w5 1) (k + 2) (A k) (S.th k) := Rg.ext (F := fun k => (Value.slice to n tc).ownBlock = some k) (h.th k hk') hK5 (fun b e e2 => by have := hF1 b e2; omega)
  exact h1.keep hk (fun b hb e => by
   have e : b = q := e
   rw [e, old q h.qlt, h.lq] at hb
   omega)
 ·rw [old q h.qlt]; exact h.lq
 ·intro g' hg'; rw [old g' (h.now.lt g' hg').2]; exact h.ln g' hg'
 ·intro g' hg'; rw [old g' (h.before.lt g' hg').2]; exact h.lb g' hg'
 ·intro g' hg'; rw [old g' (h.turns.lt g' hg').2]; exact h.lt g' hg'
 ·exact lim_ext2 h.lim hK5.size hk.size
 ·refine (hK5.mono (G := fun b => o b = 1) (fun i e _ => hF1 i e)).trans hk (fun i e _ => by show o i = 1; rw [show i = q from e]; exact h.lq)
def RRead (w w' : World) (q : Nat) (S' : Ds) (o : Lab) (v : Value) (xs : By) : Prop := RAft w w' q S' o ∧ OwnB w' v xs.length xs ∧ (∀ g, v.ownBlock = some g → w.heap.size ≤ g)
set_option maxHeartbeats 3200000 in
set_option maxRecDepth 100000 in
theorem rread_ok (h : RDx w q S A o nv bv tv sv) (hwf : S.Wf) {N : Nat} (hB : S.Bd N) (hN : N ≤ 268435456) (n : By) (hn : n.length ≤ 4611686018427387904) (x y : Int) (hx : (Lit.int .i64 x).wf = true) (hy : (Lit.int .i64 y).wf = true) :
  Calls Tryz.prog 86 #[.pointer (some ⟨q, 0, none⟩), encStr n, .int .i64 x, .int .i64 y] w fun e w' => ∃ v, e = .returned (.tuple #[v, .int .i64 (S.readOk n x y)]) ∧ RRead w w' q (S.read n x y) o v (S.readBytes n x y) := by
 have hth := there_ok h hwf.sup (by have := hB.shown hwf; omega) n hn
 by_cases h0 : (S.find n).1 = 0
 ·obtain ⟨i, hp, hi, hti, hlv, hon, hnx⟩ := find0 hwf h0
  have hlen := hB.len hwf hnx
  have hro : S.readOk n x y = if x < 0 ∨ y < 0 ∨ ((S.th (S.find n).2).shown.length : Int) < x ∨ ((S.th (S.find n).2).shown.length : Int) - x < y then 54 else 0 := by simp [Ds.readOk, h0]
  have hwfR := hwf.read n x y
  have hrb : S.readBytes n x y = if S.readOk n x y = 0 then ((S.th (S.find n).2).shown.drop x.toNat).take y.toNat else [] := rfl
  have hrd : S.read n x y = if S.readOk n x y = 0 then { S with reads := S.reads ++ [⟨n, x.toNat, y.toNat⟩] } else S := rfl
  rw [h0, hti] at hth
  generalize (S.find n).2 = k at *
  obtain ⟨mm, hm⟩ : ∃ m, S.shown.length = m := ⟨_, rfl⟩
  obtain ⟨no, nc, hnv⟩ := h.nvs
  rw [hm] at hnv hi
  have hmm : mm ≤ 268435456 := by have := hB.shown hwf; omega
  subst hnv
  obtain ⟨gn, hgn, _, cpn⟩ := nms_cell (n := mm) (l := S.shown) (A := A) (w := w) (vo := no) (vc := nc) h.now hp
  subst hgn
  have c2 := h.cell 2 _ rfl
  obtain ⟨so0, sc0, ho0, hc0, _, hsh, _, ch0, hlb, hlt⟩ := h.thShape hlv
  obtain ⟨z, hz⟩ : ∃ z, (S.th k).shown.length = z := ⟨_, rfl⟩
  rw [hz] at hro hlen hsh ch0
  have hxb := bnd64 hx
  have hyb := bnd64 hy
  by_cases hbad : x < 0 ∨ y < 0 ∨ (z : Int) < x ∨ (z : Int) - x < y
  ·rw [if_pos hbad] at hro
   have HC : Hid (S.readOk n x y = 54) := hide hro
   have HR : Hid (RRead w w q (S.read n x y) o (.slice none 0 0) (S.readBytes n x y)) := hide (by
    rw [hrb, hrd, hro]
    exact ⟨RAft.of ⟨hwf, _, _, _, _, h⟩ (Keep.refl _ w), OwnB.nil _, by simp [Value.ownBlock]⟩)
   rw [hro]
   generalize A k = ab at ch0 cpn
   clear h hB h0 hti hp hwfR hro hrb hrd hz hm hlv hsh hlb hlt HC
   go_enter Tryz.func86, Tryz.ntmps86
   by_cases b1 : x < 0
   ·clear hbad
    go_wp2_with (go_at_call 82; refine hth.mono ?_; rintro e w' ⟨rfl, hw⟩; obtain rfl := hw.symm; clear hth)
    go_ret2
    exact ⟨_, rfl, HR.out⟩
   ·by_cases b2 : y < 0
    ·clear hbad
     go_wp2_with (go_at_call 82; refine hth.mono ?_; rintro e w' ⟨rfl, hw⟩; obtain rfl := hw.symm; clear hth)
     go_ret2
     exact ⟨_, rfl, HR.out⟩
    ·by_cases b3 : (z : Int) < x
     ·clear hbad
      go_wp2_with (go_at_call 82; refine hth.mono ?_; rintro e w' ⟨rfl, hw⟩; obtain rfl := hw.symm; clear hth)
      go_ret2
      exact ⟨_, rfl, HR.out⟩
     ·have b4 : (z : Int) - x < y := by omega
      clear hbad
      go_wp2_with (go_at_call 82; refine hth.mono ?_; rintro e w' ⟨rfl, hw⟩; obtain rfl := hw.symm; clear hth)
      go_ret2
      exact ⟨_, rfl, HR.out⟩
  ·rw [if_neg hbad] at hro
   obtain ⟨a, ha⟩ : ∃ a : Nat, (a : Int) = x := ⟨x.toNat, by omega⟩
   obtain ⟨b, hb⟩ : ∃ b : Nat, (b : Int) = y := ⟨y.toNat, by omega⟩
   have hat : x.toNat = a := by omega
   have hbt : y.toNat = b := by omega
   rw [hrd, hro, if_pos rfl, hat, hbt] at hwfR
   rw [hrb, hrd, hro, if_pos rfl, if_pos rfl, hat, hbt]
   subst ha hb
   have hab : a + b ≤ z := by omega
   obtain ⟨rn, hrn⟩ : ∃ rn, S.reads.length = rn := ⟨_, rfl⟩
   obtain ⟨to, tc, hsv⟩ := h.svs
   rw [hrn] at hsv
   subst hsv
   have hrl : rn ≤ 268435456 := by have := hB.reads; omega
   obtain ⟨g5, c5, w5, hap, d10, f10, hR6, hK6⟩ := h.addTold hrn (by omega) ⟨n, a, b⟩
   have s10 := h.cell 10 _ rfl
   obtain ⟨_, _, _, hn1, hn2, hn3, hn4⟩ := hsh.shape
   have hshape : z ≤ hc0 ∧ (ho0 = none → hc0 = 0) := by
    obtain ⟨bo, bc, e, q1, q2, q3, q4⟩ := hsh.shape
    injection e with e1 e2 e3
    subst e1 e3
    exact ⟨q1, fun e => (q3 e).2⟩
   have hsh6 := hsh.keep hK6 (fun g hg e => by
    obtain ⟨t1, t2, t3, t4, ht⟩ := h.th k hlv
    have hce : w.cell? ⟨A k, 1, none⟩ = some t2 := by rw [cell_of_row w _ 1 _ _ _ ht.cells]; rfl
    rw [ch0] at hce
    injection hce with hce
    have := ht.lh g (by rw [← hce]; exact hg)
    rw [this] at e
    omega)
   have HCUT : Hid (∀ W, Keep (fun _ => False) (w5.setCell ⟨q, 10, none⟩ (.slice (some ⟨g5, 0, none⟩) (rn + 1) c5)) W → True) := hide (fun _ _ => trivial)
   obtain ⟨ao', hcut, hsl6, hno6⟩ := Tryz.cutMid (w5.setCell ⟨q, 10, none⟩ (.slice (some ⟨g5, 0, none⟩) (rn + 1) c5)) ho0 z hc0 a b (S.th k).shown hsh6.sl hz hshape.1 hab hshape.2
   have hcp := copied_ok ao' b (hc0 - a) (((S.th k).shown.drop a).take b) (w5.setCell ⟨q, 10, none⟩ (.slice (some ⟨g5, 0, none⟩) (rn + 1) c5)) (by simp; omega) hsl6 hno6 (by omega)
   have HFIN : Hid (∀ g c' w7, w7.ownsRow 0 5 1 (.slice (some ⟨g, 0, none⟩) b c') b (bys (((S.th k).shown.drop a).take b)) → Kept [] (w5.setCell ⟨q, 10, none⟩ (.slice (some ⟨g5, 0, none⟩) (rn + 1) c5)) w7 → (w5.setCell ⟨q, 10, none⟩ (.slice (some ⟨g5, 0, none⟩) (rn + 1) c5)).heap.size ≤ g → RRead w w7 q { S with reads := S.reads ++ [⟨n, a, b⟩] } o (.slice (some ⟨g, 0, none⟩) b c') (((S.th k).shown.drop a).take b)) := hide (fun g c' w7 h1 h2 h3 => by
    have hl : (((S.th k).shown.drop a).take b).length = b := by simp; omega
    refine ⟨⟨A, o.ext w w5 1, ⟨hwfR, _, _, _, _, hR6.kept h2⟩, fun b hb hn => ext_le hb hn, ?_⟩, by rw [hl]; exact OwnB.of h1, fun g' e => ?_⟩
    ·exact (hK6.mono (G := o.mine) (fun i e _ => by show o i ≠ 0; rw [show o i = 1 from e]; decide)).kept h2
    ·simp only [Value.ownBlock] at e
     injection e with e
     rw [← e]
     exact Nat.le_trans hK6.size h3)
   have b1 : ¬ (a : Int) < 0 := by omega
   have b2 : ¬ (b : Int) < 0 := by omega
   have b3 : ¬ (z : Int) < (a : Int) := by omega
   have b4 : ¬ (z : Int) - (a : Int) < (b : Int) := by omega
   generalize A k = ab at ch0 cpn
   clear h hB h0 hti hp hwfR hrb hrd hz hm hlv hsh hlb hlt hR6 hK6 hsh6 hsl6 hno6 hshape hbad hro HCUT hn1 hn2 hn3 hn4 hat hbt hrn
   go_enter Tryz.func86, Tryz.ntmps86
   go_upto_region 8 with (first
    | (go_at_call 82; refine hth.mono ?_; rintro e w' ⟨rfl, hw⟩; obtain rfl := hw.symm; clear hth)
    | (at_builtin; refine wpList_app_run rfl _ _ 60 60 rfl _ _ rfl rfl _ _ hap ?_))
   generalize w5.setCell _ _ = w6 at hcut hcp HFIN ⊢
   clear d10 f10 s10 hap ch0 cpn c2
   go_wp2_with (go_at_call 20; refine hcp.mono ?_; rintro e w7 ⟨g, c', rfl, q1, q2, q3⟩; have H7 := hide (HFIN.out g c' w7 q1 q2 q3); clear hcp q1 q2 q3)
   go_ret2
   exact ⟨_, rfl, H7.out⟩
 ·have hro : S.readOk n x y = (S.find n).1 := by simp [Ds.readOk, h0]
  have HR : Hid (RRead w w q (S.read n x y) o (.slice none 0 0) (S.readBytes n x y)) := hide (by
   have h1 : S.read n x y = S := by simp [Ds.read, hro, h0]
   have h2 : S.readBytes n x y = [] := by simp [Ds.readBytes, hro, h0]
   rw [h1, h2]
   exact ⟨RAft.of ⟨hwf, _, _, _, _, h⟩ (Keep.refl _ w), OwnB.nil _, by simp [Value.ownBlock]⟩)
  rw [hro]
  generalize (S.find n).1 = E at hth h0
  generalize thereI S n = I at hth
  have e0 : (E == 0) = false := by simpa using h0
  have e1 : (E != 0) = true := by simpa using h0
  clear h hB h0 hro
  go_enter Tryz.func86, Tryz.ntmps86
  go_wp2_with (go_at_call 82; refine hth.mono ?_; rintro e w' ⟨rfl, hw⟩; obtain rfl := hw.symm; clear hth)
  go_ret2
  exact ⟨_, rfl, HR.out⟩
end
end

section
open Go.RowKit Dsk
set_option linter.unusedVariables false
set_option linter.unusedSimpArgs false
theorem run_freshS (v : World) (t ty e : TypeId) {z : Value} {s bs : Nat} (ht : Tryz.prog.underlying t = some (.slice e)) (hi : (Tryz.prog.info? e).map (fun i => (i.zero, i.size, i.bytes)) = some (some z, s, bs)) (hzs : z.cells.size = s) (hs : 0 < s) (x : Value) (n : Nat) (ys : List Value) (hx : v.ownsRow 0 e s x n ys) (h1 : ∀ u ∈ ys, u.oneCell' = true) (hn : n ≤ maxLen) (hb : n * bs ≤ 140737488355328) :
  ∃ g c' w', (Builtin.append_ #[t, t] ty #[.slice (some ⟨v.heap.size, 0, none⟩) 0 0, x]).run Tryz.prog (v.alloc (.cells #[] e)) = .ok (.slice (some ⟨g, 0, none⟩) n c') w' ∧ w'.ownsRow 0 e s (.slice (some ⟨g, 0, none⟩) n c') n ys ∧ Kept [] v w' ∧ v.heap.size ≤ g := by
 have hown : (v.alloc (.cells #[] e)).ownsRow v.heap.size e s (.slice (some ⟨v.heap.size, 0, none⟩) 0 0) 0 [] := World.ownsRow_made v #[] 0 (Nat.le_refl _) (by decide) (by simp)
 have hk := (Kept.refl [] v).alloc (.cells #[] e)
 obtain ⟨i0, hi, hz0, hz1, hz2⟩ := info_parts hi
 rcases hx.2 with ⟨rfl, rfl⟩ | ⟨g0, cap0, cur0, rfl, _, hg0, hn0, hc0, hs0, ht0⟩
 ·have : ys = [] := List.eq_nil_of_length_eq_zero (by have := hx.1; simpa using this)
  subst this
  exact ⟨v.heap.size, 0, _, run_append_owned_none (P := Tryz.prog) (w := v.alloc (.cells #[] e)) v.heap.size t ty e i0 s ht hi _ 0 [] hown, ownsRow_base_a hown (Nat.zero_le _), hk, Nat.le_refl _⟩
 ·obtain ⟨v', w', hrun, h1', h2, h3, h4⟩ := run_append_own_at (P := Tryz.prog) (v.alloc (.cells #[] e)) v.heap.size t ty e i0 z s bs ht hi hz0 hz1 hz2 hzs hs _ 0 [] hown ⟨g0, 0, none⟩ n cap0 ys (by have := hx.1; omega) (fun j u hj => (hx.alloc (.cells #[] e)).cells (g := g0) rfl j u hj) h1 (by omega) (by rw [Nat.zero_add]; exact hb) hk.size
  rw [Nat.zero_add, List.nil_append] at h1'
  have hk' : Kept [] v w' := hk.grown h2 (by intro k hk2 hlt; simp [Value.ownBlock] at hk2; omega)
  rcases h1'.2 with ⟨e1, e2⟩ | ⟨g, cap', cur, e1, hg, _⟩
  ·have := (h3.1 e1).1
   simp at this
  ·subst e1
   exact ⟨g, cap', w', hrun, ownsRow_base_a h1' (Nat.zero_le _), hk', hg⟩
section
variable {w : World} {q : Nat} {S : Ds} {A : Nat → Nat} {o : Lab} {nv bv tv sv : Value}
set_option maxHeartbeats 1600000 in
set_option maxRecDepth 100000 in
theorem rreads_ok (h : RDx w q S A o nv bv tv sv) (hn : S.reads.length ≤ 536870912) :
  Calls Tryz.prog 47 #[.pointer (some ⟨q, 0, none⟩)] w fun e w' => ∃ g c, e = .returned (.slice (some ⟨g, 0, none⟩) S.reads.length c) ∧ w'.ownsRow 0 126 3 (.slice (some ⟨g, 0, none⟩) S.reads.length c) S.reads.length (Spv S.reads) ∧ Kept [] w w' ∧ w.heap.size ≤ g := by
 have c10 := h.cell 10 _ rfl
 obtain ⟨so, sc, rfl⟩ := h.svs
 obtain ⟨g, c', w', hap, q1, q2, q3⟩ := run_freshS w 60 60 126 Tryz.underlying60 Tryz.infoSpan rfl (by decide) _ _ _ h.told (fun u hu => by
  simp only [Spv, List.mem_flatMap] at hu
  obtain ⟨s, _, hs⟩ := hu
  simp only [encSp, List.mem_cons, List.not_mem_nil, or_false] at hs
  rcases hs with rfl | rfl | rfl <;> rfl) (by unfold maxLen; omega) (by omega)
 generalize S.reads.length = n at *
 have HE := hide (And.intro q1 (And.intro q2 q3))
 clear h q1 q2 q3
 have d10 : (w.alloc (.cells #[] 126)).cell? ⟨q, 10, none⟩ = some (.slice so n sc) := ((Kept.refl [] w).alloc _).cellOf c10 (by simp)
 go_enter Tryz.func47, Tryz.ntmps47
 go_wp2_with (at_builtin; refine wpList_app_run rfl _ _ 60 60 rfl _ _ rfl rfl _ _ hap ?_)
 go_ret
 exact ⟨g, c', rfl, HE.out.1, HE.out.2.1, HE.out.2.2⟩
structure Tl (w wr : World) (v : Value) (l : List By) : Prop where
 row : wr.ownsRow 0 9 1 v l.length (l.map encStr)
 new : ∀ g, v.ownBlock = some g → w.heap.size ≤ g
 keep : Kept [] w wr
theorem Tl.app {w wr : World} {fo : Option Addr} {m fc : Nat} {l : List By} (h : Tl w wr (.slice fo m fc) l) (hm : l.length = m) (hb : m ≤ 1073741824) (n : By) :
  ∃ g c w5, (Builtin.append_ #[99, 99] 99 #[.slice fo m fc, .slice (some ⟨wr.heap.size, 0, none⟩) 1 1]).run Tryz.prog (wr.alloc (.cells #[encStr n] 9)) = .ok (.slice (some ⟨g, 0, none⟩) (m + 1) c) w5 ∧ Tl w w5 (.slice (some ⟨g, 0, none⟩) (m + 1) c) (l ++ [n]) := by
 have hr := h.row
 rw [hm] at hr
 obtain ⟨g, c, w', e1, e2, e3, e4, _⟩ := run_app (P := Tryz.prog) wr 99 99 9 Tryz.underlying99 Tryz.infoStr rfl (by decide) _ m _ hr [encStr n] rfl (fun z hz => by simp only [List.mem_singleton] at hz; rw [hz]; rfl) (by unfold maxLen; omega) (by omega)
 have hK := e3 (fun k => (Value.slice fo m fc).ownBlock = some k) (fun _ e => e)
 refine ⟨g, c, w', e1, ⟨?_, ?_, ?_⟩⟩
 ·rw [List.map_append, List.length_append, hm]
  exact e2
 ·intro g' hg'
  simp only [Value.ownBlock, Option.some.injEq] at hg'
  subst hg'
  rcases e4 with e | e
  ·exact h.new g e.symm
  ·exact Nat.le_trans h.keep.size e
 ·exact ⟨hK.os.trans h.keep.os, hK.tape.trans h.keep.tape, hK.output.trans h.keep.output, Nat.le_trans h.keep.size hK.size, fun i hi _ => (hK.block i (Nat.lt_of_lt_of_le hi h.keep.size) (fun e => by have := h.new i e; omega)).trans (h.keep.block i hi (by simp))⟩
set_option maxHeartbeats 1600000 in
set_option maxRecDepth 100000 in
theorem rlist_ok (h : RDx w q S A o nv bv tv sv) (hwf : S.Wf) (hn : S.shown.length ≤ 268435456) (p : By) (hp : p.length ≤ 4611686018427387904) :
  Calls Tryz.prog 50 #[.pointer (some ⟨q, 0, none⟩), encStr p] w fun e w' => ∃ v, e = .returned v ∧ Tl w w' v (S.list p) := by
 have hoff := roff_ok h
 have HT0 : Hid (Tl w w (.slice none 0 0) []) := hide ⟨World.ownsRow_nil _ _ _ _, by simp [Value.ownBlock], Kept.refl _ _⟩
 cases hon : S.on with
 | false =>
  have HL : Hid (S.list p = []) := hide (by simp [Ds.list, hon])
  rw [hon] at hoff
  clear h hon
  go_enter Tryz.func50, Tryz.ntmps50
  go_wp2_with (go_at_call 37; refine hoff.mono ?_; rintro e w' ⟨rfl, hw⟩; obtain rfl := hw.symm; clear hoff)
  go_ret
  rw [HL.out]
  exact ⟨_, rfl, HT0.out⟩
 | true =>
  have HLS : Hid (S.list p = pre p S.shown.keys) := hide (by simp [Ds.list, hon, pre])
  have HNM : Hid (∀ x ∈ S.shown, x.1.length ≤ 112) := hide (fun x hx => isNm_len (hwf.snm _ hx))
  obtain ⟨M, hM⟩ : ∃ M, S.shown.length = M := ⟨_, rfl⟩
  obtain ⟨no, nc, hnv⟩ := h.nvs
  rw [hM] at hn hnv
  subst hnv
  have HC2 := hide (h.cell 2 _ rfl)
  have HM := hide hM
  have HH := hide h
  rw [hon] at hoff
  have hsp : (ByteArray.mk p.toArray).size = p.length := by simp [ByteArray.size]
  clear h hon hM
  go_enter Tryz.func50, Tryz.ntmps50
  go_wp2_with (go_at_call 37; refine hoff.mono ?_; rintro e w' ⟨rfl, hw⟩; obtain rfl := hw.symm; clear hoff)
  go_loopw [5, 6, 7] (fun f i _ wr => ∃ k m : Nat, k ≤ M ∧ m ≤ k ∧ i = .int .i64 k ∧ Hid (Tl w wr f (pre p (S.shown.keys.take k)) ∧ (pre p (S.shown.keys.take k)).length = m) ∧ ∃ fo fc, f = .slice fo m fc) (fun f i _ wr => M - (intOf i).toNat)
  case atStart => exact ⟨0, 0, by omega, by omega, rfl, hide ⟨by simpa [pre] using HT0.out, by simp [pre]⟩, none, 0, rfl⟩
  case round =>
   clear HT0
   obtain ⟨k, m, hk, hmk, rfl, HR, fo, fc, rfl⟩ := hrel
   obtain ⟨hR, hm⟩ := HR.out
   clear HR
   have c2 := hR.keep.cellOf HC2.out (by simp)
   by_cases hlt : k < M
   ·have hHr := HH.out.kept hR.keep
    obtain ⟨⟨nm, id⟩, hpk⟩ : ∃ q, S.shown[k]? = some q := ⟨S.shown[k]'(by rw [HM.out]; exact hlt), List.getElem?_eq_getElem _⟩
    obtain ⟨gn, rfl, hc0, hc1⟩ := nms_cell (n := M) (by have := hHr.now; rw [HM.out] at this ⊢; exact this) hpk
    have hkk : S.shown.keys[k]? = some nm := by simp [Nm.keys, hpk]
    have hnl : nm.length ≤ 112 := HNM.out _ (List.mem_of_getElem? hpk)
    have hps := pre_snoc p S.shown.keys k nm hkk
    have hss : (ByteArray.mk nm.toArray).size = nm.length := by simp [ByteArray.size]
    have hE := ext_take nm p.length
    by_cases hle : p.length ≤ nm.length
    ·cases hb : nm.take p.length == p with
     | true =>
      rw [if_pos (by rw [isPrefix_take]; exact hb)] at hps
      obtain ⟨ga, gc, w5, hap, hT5⟩ := hR.app hm (by omega) nm
      have H5 : Hid (Tl w w5 (.slice (some ⟨ga, 0, none⟩) (m + 1) gc) (pre p (S.shown.keys.take (k + 1))) ∧ (pre p (S.shown.keys.take (k + 1))).length = m + 1) := hide (by rw [hps]; exact ⟨hT5, by simp [hm]⟩)
      clear hHr hpk hkk hps hR hm hT5 hc1
      go_wp2_with (at_builtin; refine wpList_app_run rfl _ _ 99 99 rfl _ _ rfl rfl _ _ hap ?_)
      go_roundw
      case rel => exact ⟨k + 1, m + 1, by omega, by omega, by go_num, H5, _, _, rfl⟩
      case measure => simp [intOf]; omega
     | false =>
      rw [if_neg (by rw [isPrefix_take, hb]; decide), List.append_nil] at hps
      have H5 : Hid (Tl w wr (.slice fo m fc) (pre p (S.shown.keys.take (k + 1))) ∧ (pre p (S.shown.keys.take (k + 1))).length = m) := hide (by rw [hps]; exact ⟨hR, hm⟩)
      clear hHr hpk hkk hps hR hm hc1
      go_wp2
      go_roundw
      case rel => exact ⟨k + 1, m, by omega, by omega, by go_num, H5, _, _, rfl⟩
      case measure => simp [intOf]; omega
    ·rw [if_neg (by rw [notPrefix_len p nm hle]; decide), List.append_nil] at hps
     have H5 : Hid (Tl w wr (.slice fo m fc) (pre p (S.shown.keys.take (k + 1))) ∧ (pre p (S.shown.keys.take (k + 1))).length = m) := hide (by rw [hps]; exact ⟨hR, hm⟩)
     clear hHr hpk hkk hps hR hm hc1
     go_wp2
     go_roundw
     case rel => exact ⟨k + 1, m, by omega, by omega, by go_num, H5, _, _, rfl⟩
     case measure => simp [intOf]; omega
   ·have HE : Hid (Tl w wr (.slice fo m fc) (S.list p)) := hide (by
     rw [HLS.out]
     have := hR
     rw [List.take_of_length_le (by simp [Nm.keys]; rw [HM.out]; omega)] at this
     exact this)
    clear hR hm
    go_wp2
    go_ret
    exact ⟨_, rfl, HE.out⟩
end
end

section
open Go.RowKit Dsk
set_option linter.unusedVariables false
set_option linter.unusedSimpArgs false
section
variable {w : World} {q : Nat} {S : Ds} {A : Nat → Nat} {o : Lab} {nv bv tv sv : Value}
theorem RDx.addNow {to : Option Addr} {n tc : Nat} (h : RDx w q S A o (.slice to n tc) bv tv sv) (hn : S.shown.length = n) (hb : n ≤ 536870912) (hap : ∀ g, (Value.slice to n tc).ownBlock = some g → bv.ownBlock ≠ some g) (p : By × Nat) :
  ∃ g c' w5, (Builtin.append_ #[71, 71] 71 #[.slice to n tc, .slice (some ⟨w.heap.size, 0, none⟩) 1 1]).run Tryz.prog (w.alloc (.cells #[encStr p.1, .pointer (some ⟨A p.2, 0, none⟩)] 113)) = .ok (.slice (some ⟨g, 0, none⟩) (n + 1) c') w5 ∧ w5.cell? ⟨q, 2, none⟩ = some (.slice to n tc) ∧ w5.frozen? ⟨q, 2, none⟩ = false ∧
   RDx (w5.setCell ⟨q, 2, none⟩ (.slice (some ⟨g, 0, none⟩) (n + 1) c')) q { S with shown := S.shown ++ [p] } A (o.ext w w5 1) (.slice (some ⟨g, 0, none⟩) (n + 1) c') bv tv sv ∧ Keep (fun b => o b = 1) w (w5.setCell ⟨q, 2, none⟩ (.slice (some ⟨g, 0, none⟩) (n + 1) c')) ∧ (∀ g', (Value.slice (some ⟨g, 0, none⟩) (n + 1) c').ownBlock = some g' → bv.ownBlock ≠ some g') ∧ w5.heap.size = (w5.setCell ⟨q, 2, none⟩ (.slice (some ⟨g, 0, none⟩) (n + 1) c')).heap.size := by
 have hr := h.now
 rw [hn] at hr
 obtain ⟨g, c', w5, e1, e2, e3, e4, e5⟩ := run_app (P := Tryz.prog) w 71 71 113 Tryz.underlying71 Tryz.infoName rfl (by decide) _ n _ hr [encStr p.1, .pointer (some ⟨A p.2, 0, none⟩)] rfl (fun z hz => by simp only [List.mem_cons, List.not_mem_nil, or_false] at hz; rcases hz with rfl | rfl <;> rfl) (by unfold maxLen; omega) (by omega)
 have hK5 := e3 (fun k => (Value.slice to n tc).ownBlock = some k) (fun _ e => e)
 have nq : ¬ (Value.slice to n tc).ownBlock = some q := own_ne h.now h.cells (by decide)
 have hc5 := hK5.heapOf h.cells nq
 have old : ∀ b, b < w.heap.size → o.ext w w5 1 b = o b := fun b hb => Lab.ext_old hb
 have hk : Keep (· = q) w5 (w5.setCell ⟨q, 2, none⟩ (.slice (some ⟨g, 0, none⟩) (n + 1) c')) := (Keep.refl (· = q) w5).setCell (p := ⟨q, 2, none⟩) (fun _ => rfl) _
 have hF1 : ∀ b, (Value.slice to n tc).ownBlock = some b → o b = 1 := fun b e => h.ln b e
 have hsis := own_keeps h.before hK5 (fun g hg e => hap g e hg)
 have htu := own_keeps h.turns hK5 (fun g hg e => own_two h.turns h.now (by decide) g hg e)
 have hto := own_keeps h.told hK5 (fun g hg e => own_two h.told h.now (by decide) g hg e)
 have e2' : w5.ownsRow 0 113 2 (.slice (some ⟨g, 0, none⟩) (n + 1) c') (S.shown ++ [p]).length (nmsV A (S.shown ++ [p])) := by
  rw [nmsV_snoc, List.length_append, hn]; exact e2
 have hlab : ∀ g', (Value.slice (some ⟨g, 0, none⟩) (n + 1) c').ownBlock = some g' → o.ext w w5 1 g' = 1 := fun g' hg' => by
  simp only [Value.ownBlock, Option.some.injEq] at hg'
  subst hg'
  rcases e4 with e | e
  ·rw [old g (hr.lt g e.symm).2]; exact h.ln g e.symm
  ·exact Lab.ext_new e e5
 have hlo : ∀ g', bv.ownBlock = some g' → o.ext w w5 1 g' = 1 := fun g' hg' => by rw [old g' (h.before.lt g' hg').2]; exact h.lb g' hg'
 have q1 := own_keeps e2' hk (own_types0 e2' hc5 (by decide))
 have q2 := own_keeps hsis hk (own_types0 hsis hc5 (by decide))
 refine ⟨g, c', w5, e1, by rw [cell_of_row w5 q 2 _ _ _ hc5]; rfl, frozen_of_row _ _ _ _ _ hc5, ⟨?_, q1, q2, own_keeps htu hk (own_types0 htu hc5 (by decide)), own_keeps hto hk (own_types0 hto hc5 (by decide)), ?_, ?_, hlab, hlo, ?_, ?_, lim_ext2 h.lim hK5.size hk.size, h.pl⟩, ?_, ?_, by simp [World.setCell]⟩
 ·rw [heap_setCell_same _ q 2 _ _ _ hc5]; simp
 ·intro k hk'
  have h1 : Rg w5 (o.ext w w5 1) (k + 2) (A k) (S.th k) := Rg.ext (F := fun k => (Value.slice to n tc).ownBlock = some k) (h.th k hk') hK5 (fun b e e2 => by have := hF1 b e2; omega)
  exact h1.keep hk (fun b hb e => by
   rw [show b = q from e, old q h.qlt, h.lq] at hb
   omega)
 ·rw [old q h.qlt]; exact h.lq
 ·intro g' hg'; rw [old g' (h.turns.lt g' hg').2]; exact h.lt g' hg'
 ·intro g' hg'; rw [old g' (h.told.lt g' hg').2]; exact h.ls g' hg'
 ·exact (hK5.mono (G := fun b => o b = 1) (fun i e _ => hF1 i e)).trans hk (fun i e _ => by show o i = 1; rw [show i = q from e]; exact h.lq)
 ·intro g' hg' hs
  simp only [Value.ownBlock, Option.some.injEq] at hg'
  subst hg'
  rcases e4 with e | e
  ·exact hap g e.symm hs
  ·have := (h.before.lt g hs).2; omega
theorem RDx.addBefore {to : Option Addr} {n tc : Nat} (h : RDx w q S A o nv (.slice to n tc) tv sv) (hn : S.safe.length = n) (hb : n ≤ 536870912) (hap : ∀ g, (Value.slice to n tc).ownBlock = some g → nv.ownBlock ≠ some g) (p : By × Nat) (hm : Rg w o (p.2 + 2) (A p.2) (S.th p.2)) :
  ∃ g c' w5, (Builtin.append_ #[71, 71] 71 #[.slice to n tc, .slice (some ⟨w.heap.size, 0, none⟩) 1 1]).run Tryz.prog (w.alloc (.cells #[encStr p.1, .pointer (some ⟨A p.2, 0, none⟩)] 113)) = .ok (.slice (some ⟨g, 0, none⟩) (n + 1) c') w5 ∧ w5.cell? ⟨q, 3, none⟩ = some (.slice to n tc) ∧ w5.frozen? ⟨q, 3, none⟩ = false ∧
   RDx (w5.setCell ⟨q, 3, none⟩ (.slice (some ⟨g, 0, none⟩) (n + 1) c')) q { S with safe := S.safe ++ [p] } A (o.ext w w5 1) nv (.slice (some ⟨g, 0, none⟩) (n + 1) c') tv sv ∧ Keep (fun b => o b = 1) w (w5.setCell ⟨q, 3, none⟩ (.slice (some ⟨g, 0, none⟩) (n + 1) c')) ∧ (∀ g', (Value.slice (some ⟨g, 0, none⟩) (n + 1) c').ownBlock = some g' → nv.ownBlock ≠ some g') ∧ w5.heap.size = (w5.setCell ⟨q, 3, none⟩ (.slice (some ⟨g, 0, none⟩) (n + 1) c')).heap.size := by
 have hr := h.before
 rw [hn] at hr
 obtain ⟨g, c', w5, e1, e2, e3, e4, e5⟩ := run_app (P := Tryz.prog) w 71 71 113 Tryz.underlying71 Tryz.infoName rfl (by decide) _ n _ hr [encStr p.1, .pointer (some ⟨A p.2, 0, none⟩)] rfl (fun z hz => by simp only [List.mem_cons, List.not_mem_nil, or_false] at hz; rcases hz with rfl | rfl <;> rfl) (by unfold maxLen; omega) (by omega)
 have hK5 := e3 (fun k => (Value.slice to n tc).ownBlock = some k) (fun _ e => e)
 have nq : ¬ (Value.slice to n tc).ownBlock = some q := own_ne h.before h.cells (by decide)
 have hc5 := hK5.heapOf h.cells nq
 have old : ∀ b, b < w.heap.size → o.ext w w5 1 b = o b := fun b hb => Lab.ext_old hb
 have hk : Keep (· = q) w5 (w5.setCell ⟨q, 3, none⟩ (.slice (some ⟨g, 0, none⟩) (n + 1) c')) := (Keep.refl (· = q) w5).setCell (p := ⟨q, 3, none⟩) (fun _ => rfl) _
 have hF1 : ∀ b, (Value.slice to n tc).ownBlock = some b → o b = 1 := fun b e => h.lb b e
 have hsis := own_keeps h.now hK5 (fun g hg e => hap g e hg)
 have htu := own_keeps h.turns hK5 (fun g hg e => own_two h.turns h.before (by decide) g hg e)
 have hto := own_keeps h.told hK5 (fun g hg e => own_two h.told h.before (by decide) g hg e)
 have e2' : w5.ownsRow 0 113 2 (.slice (some ⟨g, 0, none⟩) (n + 1) c') (S.safe ++ [p]).length (nmsV A (S.safe ++ [p])) := by
  rw [nmsV_snoc, List.length_append, hn]; exact e2
 have hlab : ∀ g', (Value.slice (some ⟨g, 0, none⟩) (n + 1) c').ownBlock = some g' → o.ext w w5 1 g' = 1 := fun g' hg' => by
  simp only [Value.ownBlock, Option.some.injEq] at hg'
  subst hg'
  rcases e4 with e | e
  ·rw [old g (hr.lt g e.symm).2]; exact h.lb g e.symm
  ·exact Lab.ext_new e e5
 have hlo : ∀ g', nv.ownBlock = some g' → o.ext w w5 1 g' = 1 := fun g' hg' => by rw [old g' (h.now.lt g' hg').2]; exact h.ln g' hg'
 have q1 := own_keeps e2' hk (own_types0 e2' hc5 (by decide))
 have q2 := own_keeps hsis hk (own_types0 hsis hc5 (by decide))
 refine ⟨g, c', w5, e1, by rw [cell_of_row w5 q 3 _ _ _ hc5]; rfl, frozen_of_row _ _ _ _ _ hc5, ⟨?_, q2, q1, own_keeps htu hk (own_types0 htu hc5 (by decide)), own_keeps hto hk (own_types0 hto hc5 (by decide)), ?_, ?_, hlo, hlab, ?_, ?_, lim_ext2 h.lim hK5.size hk.size, h.pl⟩, ?_, ?_, by simp [World.setCell]⟩
 ·rw [heap_setCell_same _ q 3 _ _ _ hc5]; simp
 ·intro k hk'
  have h1 : Rg w5 (o.ext w w5 1) (k + 2) (A k) (S.th k) := Rg.ext (F := fun k => (Value.slice to n tc).ownBlock = some k) ((by have hk2 : k ∈ (S.safe ++ [p]).map (·.2) ++ madeN S.row := hk'; rw [List.map_append, List.mem_append, List.mem_append] at hk2; rcases hk2 with (e | e) | e; exact h.th k (List.mem_append_left _ e); (rw [show k = p.2 by simpa using e]; exact hm); exact h.th k (List.mem_append_right _ e))) hK5 (fun b e e2 => by have := hF1 b e2; omega)
  exact h1.keep hk (fun b hb e => by
   rw [show b = q from e, old q h.qlt, h.lq] at hb
   omega)
 ·rw [old q h.qlt]; exact h.lq
 ·intro g' hg'; rw [old g' (h.turns.lt g' hg').2]; exact h.lt g' hg'
 ·intro g' hg'; rw [old g' (h.told.lt g' hg').2]; exact h.ls g' hg'
 ·exact (hK5.mono (G := fun b => o b = 1) (fun i e _ => hF1 i e)).trans hk (fun i e _ => by show o i = 1; rw [show i = q from e]; exact h.lq)
 ·intro g' hg' hs
  simp only [Value.ownBlock, Option.some.injEq] at hg'
  subst hg'
  rcases e4 with e | e
  ·exact hap g e.symm hs
  ·have := (h.now.lt g hs).2; omega
theorem RDx.inj (h : RDx w q S A o nv bv tv sv) {j k : Nat} (hj : j ∈ S.lives) (hk : k ∈ S.lives) (e : A j = A k) : j = k := by
 obtain ⟨_, _, _, _, h1⟩ := h.th j hj
 obtain ⟨_, _, _, _, h2⟩ := h.th k hk
 have a := h1.lb
 have b := h2.lb
 rw [e, b] at a
 omega
theorem RD.compact (h : RD w q S A o) : RD w q S.compact (fun j => A (S.lives.getD j 0)) (fun b => if o b = 0 then 0 else if o b = 1 then 1 else S.rho (o b - 2) + 2) := by
 obtain ⟨hwf, nv, bv, tv, sv, h⟩ := h
 have l1 : ∀ b, o b = 1 → (fun b => if o b = 0 then 0 else if o b = 1 then 1 else S.rho (o b - 2) + 2) b = 1 := fun b e => by simp [e]
 have lk : ∀ b k, o b = k + 2 → (fun b => if o b = 0 then 0 else if o b = 1 then 1 else S.rho (o b - 2) + 2) b = S.rho k + 2 := fun b k e => by
  have : o b ≠ 0 := by omega
  have : o b ≠ 1 := by omega
  simp [e]
 have hren : ∀ l : Nm, (∀ p ∈ l, p.2 ∈ S.lives) → nmsV (fun j => A (S.lives.getD j 0)) (l.ren S.rho) = nmsV A l := fun l hl => by
  unfold nmsV Nm.ren
  rw [List.flatMap_map]
  induction l with
  | nil => rfl
  | cons x r ih =>
   rw [List.flatMap_cons, List.flatMap_cons, ih (fun p hp => hl p (by simp [hp]))]
   congr 1
   unfold nmV
   simp only
   rw [Ds.rho_back (hl x (by simp))]
 have hrow : ∀ r : List Nc, (∀ k ∈ madeN r, k ∈ S.lives) → tusV (fun j => A (S.lives.getD j 0)) (r.map (Nc.ren S.rho)) = tusV A r := fun r hr => by
  unfold tusV
  rw [List.flatMap_map]
  induction r with
  | nil => rfl
  | cons c r ih =>
   rw [List.flatMap_cons, List.flatMap_cons, ih (fun k hk => hr k (by rw [madeN_cons]; exact List.mem_append_right _ hk))]
   congr 1
   cases c with
   | mk n k =>
    simp only [Nc.ren, tuV]
    rw [Ds.rho_back (hr k (by rw [madeN_cons]; exact List.mem_append_left _ (by simp [Nc.made])))]
   | gv f t => rfl
   | tk n => rfl
 refine ⟨hwf.compact, nv, bv, tv, sv, ⟨h.cells, ?_, ?_, ?_, h.told, ?_, l1 _ h.lq, fun g hg => l1 g (h.ln g hg), fun g hg => l1 g (h.lb g hg), fun g hg => l1 g (h.lt g hg), fun g hg => l1 g (h.ls g hg), fun b hb => h.lim b (fun e => hb (by simp [e])), h.pl⟩⟩
 ·show w.ownsRow 0 _ 2 nv (S.shown.ren S.rho).length (nmsV _ (S.shown.ren S.rho))
  rw [hren _ (fun p hp => Ds.shown_lives hwf hp), Nm.ren_len]
  exact h.now
 ·show w.ownsRow 0 _ 2 bv (S.safe.ren S.rho).length (nmsV _ (S.safe.ren S.rho))
  rw [hren _ (fun p hp => Ds.safe_lives hp), Nm.ren_len]
  exact h.before
 ·show w.ownsRow 0 _ 4 tv (S.row.map (Nc.ren S.rho)).length (tusV _ (S.row.map (Nc.ren S.rho)))
  rw [hrow _ (fun k hk => List.mem_append_right _ hk), List.length_map]
  exact h.turns
 ·intro j hj
  have hj2 : j ∈ S.lives.map S.rho := by rw [← Ds.compact_ids]; exact hj
  obtain ⟨k, hk, rfl⟩ := List.mem_map.1 hj2
  show Rg w _ (S.rho k + 2) (A (S.lives.getD (S.rho k) 0)) (S.compact.th (S.rho k))
  rw [Ds.rho_back hk, Ds.compact_th hk]
  exact (h.th k hk).relab (fun g _ e => lk g k e)
end
theorem nodup_le : ∀ (K M : List Nat), K.Nodup → (∀ k ∈ K, k ∈ M) → K.length ≤ M.length
 | [], _, _, _ => by simp
 | k :: K, M, hn, hs => by
  have h1 := List.nodup_cons.1 hn
  have h2 := nodup_le K (M.erase k) h1.2 (fun j hj => by
   have hne : j ≠ k := fun e => h1.1 (by rw [← e]; exact hj)
   exact (List.mem_erase_of_ne hne).2 (hs j (by simp [hj])))
  have h3 := List.length_erase_of_mem (hs k (by simp))
  have h4 : 0 < M.length := List.length_pos_of_mem (hs k (by simp))
  simp only [List.length_cons]
  omega
theorem madeN_len (r : List Nc) : (madeN r).length ≤ r.length := by
 induction r with
 | nil => simp [madeN]
 | cons c r ih =>
  rw [madeN_cons, List.length_append, List.length_cons]
  have : c.made.length ≤ 1 := by cases c <;> simp [Nc.made]
  omega
theorem lives_len (S : Ds) : S.lives.length ≤ S.safe.length + S.row.length := by
 unfold Ds.lives
 rw [List.length_append]
 have h1 := madeN_len S.row
 have h2 : S.safe.ids.length = S.safe.length := by simp [Nm.ids]
 omega
structure Twz (w wr : World) (X : Nat) (S S' : Ds) (A B : Nat → Nat) (K : List Nat) (oX : Lab) (n : Nat) (ov mv nv bv tv sv : Value) : Prop where
 rd : RDx wr X S' B oX nv bv tv sv
 len : K.length = n
 old : wr.ownsRow 0 75 1 ov n (ptrs A K)
 made : wr.ownsRow 0 75 1 mv n (ptrs B K)
 lo : ∀ g, ov.ownBlock = some g → oX g = 0
 lm : ∀ g, mv.ownBlock = some g → oX g = 0
 th : ∀ k ∈ K, Rg wr oX (k + 2) (B k) (S.th k)
 keep : Kept [] w wr
 lab : ∀ b, oX b ≠ 0 → w.heap.size ≤ b
 all : ∀ k ∈ S.lives, k ∈ K
 sub : ∀ k ∈ K, k ∈ S.lives
theorem Twz.step {w wr w5 w' : World} {X : Nat} {S S' S2 : Ds} {A B : Nat → Nat} {K : List Nat} {oX : Lab} {n : Nat} {ov mv nv bv tv sv nv2 bv2 tv2 sv2 : Value} (h : Twz w wr X S S' A B K oX n ov mv nv bv tv sv) {wd : World} (hd : Kept [] wr wd) (rd' : RDx w' X S2 B (oX.ext wd w5 1) nv2 bv2 tv2 sv2) (hK : Keep (fun b => oX b = 1) wd w') : Twz w w' X S S2 A B K (oX.ext wd w5 1) n ov mv nv2 bv2 tv2 sv2 := by
 have hKd : Keep (fun b => oX b = 1) wr w' := (Keep.ofNone hd).trans hK (fun i e _ => e)
 have old : ∀ b, b < wr.heap.size → oX.ext wd w5 1 b = oX b := fun b hb => Lab.ext_old (Nat.lt_of_lt_of_le hb hd.size)
 refine ⟨rd', h.len, own_keeps h.old hKd (fun g hg e => by rw [h.lo g hg] at e; omega), own_keeps h.made hKd (fun g hg e => by rw [h.lm g hg] at e; omega), fun g hg => by rw [old g (h.old.lt g hg).2]; exact h.lo g hg, fun g hg => by rw [old g (h.made.lt g hg).2]; exact h.lm g hg, fun k hk => ?_, ?_, fun b hb => ?_, h.all, h.sub⟩
 ·have h1 := (h.th k hk).keep hKd (fun g hg e => by omega)
  exact h1.relab (fun g _ e => by
   have hlt : g < wr.heap.size := h.rd.lim g (by rw [e]; omega)
   rw [old g hlt]; exact e)
 ·exact ⟨hKd.os.trans h.keep.os, hKd.tape.trans h.keep.tape, hKd.output.trans h.keep.output, Nat.le_trans h.keep.size hKd.size, fun b hb _ => (hKd.block b (Nat.lt_of_lt_of_le hb h.keep.size) (fun e => by have := h.lab b (by rw [e]; decide); omega)).trans (h.keep.block b hb (by simp))⟩
 ·by_cases hlt : b < wd.heap.size
  ·rw [Lab.ext_old hlt] at hb; exact h.lab b hb
  ·have := h.keep.size; have := hd.size; omega
end

end Go.Proofs.YteckiednnaianaaGreat
