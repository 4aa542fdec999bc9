import Derived.Test.YteckiednnaianaaGreatLdfp
import Derived.Test.YteckiednnaianaaGreatReqp
import Derived.Test.YteckiednnaianaaGreatHpp
import Derived.Test.YteckiednnaianaaGreatRfsp
namespace Go.Proofs.YteckiednnaianaaGreat
open Go.RowKit Dsk
set_option linter.unusedVariables false
set_option linter.unusedSimpArgs false
theorem Fio.kept {w w' : World} {ao : Option Addr} {L : List (By × By)} (h : Fio w ao L) (hk : Kept [] w w') : Fio w' ao L := fun i hi => by
 obtain ⟨b, off, e, f, hf, c1, bo, bc, c2, hs, hz⟩ := h i hi
 exact ⟨b, off, e, f, hf, hk.cellOf c1 (by simp), bo, bc, hk.cellOf c2 (by simp), hs.kept hk (by simp), hz⟩
theorem Rmy.fis {w wr : World} {G R rc N : Nat} {B : Nat → Nat} {L : List (By × By)} (h : Rmy w wr G B (.slice (some ⟨R, 0, none⟩) N rc) L N N) (hN : L.length ≤ N) : Fis wr (some ⟨G, 0, none⟩) L ∧ Fiz wr (some ⟨G, 0, none⟩) L := by
 refine ⟨fun i hi => ?_, fun i b bo m bc hi e hc hb => ?_⟩
 ·have h1 := h.look (j := i) (by omega)
  rw [fl_in (List.getElem?_eq_getElem hi)] at h1
  exact ⟨G, rfl, _, List.getElem?_eq_getElem hi, h1.c1, _, _, h1.c2, h1.sl⟩
 ·cases e
  have h1 := (h.look (j := i) (by omega)).c2
  rw [hc] at h1
  injection h1 with h1
  injection h1 with h1 _ _
  rw [h1] at hb
  cases hb
theorem dload_ok (r : Int) (ao : Option Addr) (n c : Nat) (L : List (By × By)) (w : World) (hx : L.length = n) (hn : n ≤ 4611686018427387900) (hT : totalOf L ≤ 100000) (hM : ∀ f ∈ L, f.1.length ≤ 4611686018427387900 ∧ f.2.length ≤ 100000) (h1 : Fis w ao L) (hz : Fiz w ao L) :
  Calls Tryz.prog 6 #[.int .i64 r, .slice ao n c] w fun e w' => (loadE r L ≠ 0 ∧ e = .returned (.tuple #[.pointer none, .int .i64 (loadE r L)]) ∧ Kept [] w w') ∨ (loadE r L = 0 ∧ ∃ p, e = .returned (.tuple #[.pointer (some ⟨p, 0, none⟩), .int .i64 0]) ∧ Hid (∃ A o, PD w' p (Ds.load r.toNat L) A o ∧ (∀ b, o b ≠ 0 → w.heap.size ≤ b) ∧ Kept [] w w')) := by
 by_cases he : loadE r L = 0
 ·obtain ⟨g1, g2, g3, g4, g5⟩ := loadE_ok he
  refine (load_fine r ao n c L w hx (by omega) g1 g3 g4 g5 (fun f hf => by have := (hM f hf).2; omega) h1 hz).mono ?_
  rintro e w' ⟨p, A, o, rfl, k1, k2, k3⟩
  exact .inr ⟨he, p, rfl, hide ⟨A, o, k1, k2, k3⟩⟩
 ·refine (load_bad r ao n c L w hx hn (by omega) (fun f hf => (hM f hf).1) h1 he).mono ?_
  rintro e w' ⟨rfl, hk⟩
  exact .inl ⟨he, rfl, hk⟩
structure Wov (w0 wr : World) (G R N : Nat) (B Z : Nat → Nat) : Prop where
 out : ∃ cs, wr.heap[G]? = some (.cells cs 26 (0, 0)) ∧ cs.size = N * 2
 rows : ∀ j, j < N → wr.cell? ⟨R, j, none⟩ = some (.slice (some ⟨B j, 0, none⟩) (Z j) (Z j))
 blk : ∀ j, j < N → ∃ cs, wr.heap[B j]? = some (.cells cs 5 (0, 0)) ∧ cs.size = Z j
 rg : R ≠ G
 rb : ∀ j, j < N → R ≠ B j
 bg : ∀ j, j < N → B j ≠ G
 inj : ∀ i j, i < j → j < N → B i < B j
 keep : Keep (fun b => b = G ∨ ∃ j, j < N ∧ b = B j) w0 wr
section
variable {w0 wr w' : World} {G R N : Nat} {B Z : Nat → Nat}
theorem Wov.start {w : World} {rc : Nat} {L : List (By × By)} (h : Rmy w wr G B (.slice (some ⟨R, 0, none⟩) N rc) L N N) : Wov wr wr G R N B (fun j => (fl L j).2.length + 5) := by
 obtain ⟨cs, o1, o2, _⟩ := h.out
 refine ⟨⟨cs, o1, o2⟩, fun j hj => (h.look hj).c3, fun j hj => ⟨_, (h.blk j hj).1, by simp [bys_length, rmD_len]⟩, fun e => h.rne (by rw [e]; rfl), fun j hj e => ?_, fun j hj => h.bne hj, h.inj, Keep.refl _ _⟩
 rcases h.rows.2 with ⟨e2, _⟩ | ⟨g, cap, cur, e2, _, hg, _⟩
 ·cases e2
 ·cases e2
  rw [e, (h.blk j hj).1] at hg
  injection hg with hg
  injection hg with _ hg _
  exact absurd hg (by decide)
theorem Wov.cellB (h : Wov w0 wr G R N B Z) {j k : Nat} (hj : j < N) (hk : k < Z j) : (∃ u, wr.cell? ⟨B j, k, none⟩ = some u) ∧ wr.frozen? ⟨B j, k, none⟩ = false := by
 obtain ⟨cs, h1, h2⟩ := h.blk j hj
 refine ⟨⟨cs[k]'(by omega), ?_⟩, frozen_of_row _ _ _ _ _ h1⟩
 rw [cell_of_row wr _ k _ _ _ h1]
 exact Array.getElem?_eq_getElem _
theorem Wov.cellG (h : Wov w0 wr G R N B Z) {k : Nat} (hk : k < N * 2) : (∃ u, wr.cell? ⟨G, k, none⟩ = some u) ∧ wr.frozen? ⟨G, k, none⟩ = false := by
 obtain ⟨cs, h1, h2⟩ := h.out
 refine ⟨⟨cs[k]'(by omega), ?_⟩, frozen_of_row _ _ _ _ _ h1⟩
 rw [cell_of_row wr _ k _ _ _ h1]
 exact Array.getElem?_eq_getElem _
theorem Wov.putB (h : Wov w0 wr G R N B Z) {j k : Nat} (hj : j < N) (v : Value) (hw : w' = wr.setCell ⟨B j, k, none⟩ v) : Wov w0 w' G R N B Z := by
 have hK : Keep (· = B j) wr w' := by rw [hw]; exact (Keep.refl (· = B j) wr).setCell (p := ⟨B j, k, none⟩) (fun _ => rfl) _
 obtain ⟨cs, h1, h2⟩ := h.out
 refine ⟨⟨cs, hK.heapOf h1 (fun e => h.bg j hj e.symm), h2⟩, fun i hi => hK.cellOf (h.rows i hi) (fun e => h.rb j hj e), fun i hi => ?_, h.rg, h.rb, h.bg, h.inj, h.keep.trans hK (fun b e _ => .inr ⟨j, hj, e⟩)⟩
 obtain ⟨cs', g1, g2⟩ := h.blk i hi
 by_cases e : B i = B j
 ·rw [e] at g1
  exact ⟨cs'.setIfInBounds k v, by rw [e, hw, heap_setCell_same _ _ _ _ _ _ g1], by simpa using g2⟩
 ·exact ⟨cs', hK.heapOf g1 e, g2⟩
theorem Wov.putG (h : Wov w0 wr G R N B Z) {k : Nat} (v : Value) (hw : w' = wr.setCell ⟨G, k, none⟩ v) : Wov w0 w' G R N B Z := by
 have hK : Keep (· = G) wr w' := by rw [hw]; exact (Keep.refl (· = G) wr).setCell (p := ⟨G, k, none⟩) (fun _ => rfl) _
 obtain ⟨cs, h1, h2⟩ := h.out
 refine ⟨⟨cs.setIfInBounds k v, by rw [hw, heap_setCell_same _ _ _ _ _ _ h1], by simpa using h2⟩, fun i hi => hK.cellOf (h.rows i hi) (fun e => h.rg e), fun i hi => ?_, h.rg, h.rb, h.bg, h.inj, h.keep.trans hK (fun b e _ => .inl e)⟩
 obtain ⟨cs', g1, g2⟩ := h.blk i hi
 exact ⟨cs', hK.heapOf g1 (h.bg i hi), g2⟩
theorem Wov.keeps {w1 : World} (h : Wov w0 wr G R N B Z) (hk : Kept [] w1 w0) (hG : w1.heap.size ≤ G) (hB : ∀ j, j < N → w1.heap.size ≤ B j) : Kept [] w1 wr := by
 have hK := h.keep
 exact ⟨hK.os.trans hk.os, hK.tape.trans hk.tape, hK.output.trans hk.output, Nat.le_trans hk.size hK.size, fun i hi _ => (hK.block i (Nat.lt_of_lt_of_le hi hk.size) (fun e => by
  rcases e with e | ⟨j, hj, e⟩
  ·omega
  ·have := hB j hj; omega)).trans (hk.block i hi (by simp))⟩
end
theorem pl_step2 {w wr : World} {P N : Nat} (h : Pl w wr P N) (s : Stp) (hi : StpIn w s) (hN : N ≤ 1000000) (hd : s.dn ≤ 200000) (hp : s.pn ≤ 1000000) : Calls Tryz.prog 12 #[.pointer (some ⟨P, 0, none⟩), .agg s.cells.toArray] wr fun e w' => e = .returned (.bool true) ∧ Pl w w' P (N + s.dn + 3) := by
 obtain ⟨h1, p, q, D, bo, R, S, h2⟩ := h
 refine (step_ok h2 s (hi.kept h1) (stpX_old hi) (by omega) (by omega) hp).mono ?_
 rintro e w' ⟨rfl, ⟨p', q', bo', R', hq⟩, hk⟩
 exact ⟨rfl, kept_of_keep ((Keep.ofNone h1).trans hk (fun _ h _ => h)), p', q', D, bo', R', _, hq⟩
theorem loads_pair {w w2 w3 w4 wr v : World} {r : Int} {L : List (By × By)} {p q P D : Nat} (hL : L.length ≤ 100000) (hd : ∀ f ∈ L, f.2.length ≤ 100000) (k2 : Kept [] w w2) (h3 : ∃ A o, PD w3 p (Ds.load r.toNat L) A o ∧ (∀ b, o b ≠ 0 → w2.heap.size ≤ b) ∧ Kept [] w2 w3)
  (h4 : ∃ A o, RD w4 q (Ds.load r.toNat L) A o ∧ (∀ b, o b ≠ 0 → w3.heap.size ≤ b) ∧ Kept [] w3 w4) {F : Nat → Prop} (hF : ∀ b, F b → b < w2.heap.size) (hK : Keep F w4 wr) (hkw : Kept [] w wr)
  (hv : Kept [] wr v) (hD : v.heap[D]? = some (.cells #[.slice none 0 0, .slice none 0 0] 45 (0, 0)))
  (hP : v.heap[P]? = some (.cells #[.pointer (some ⟨p, 0, none⟩), .pointer (some ⟨q, 0, none⟩), .pointer (some ⟨D, 0, none⟩)] 47 (0, 0))) (eD : wr.heap.size ≤ D) (eP : D < P) : Pl w v P 100000 := by
 obtain ⟨A, o, p1, p2, p3⟩ := h3
 obtain ⟨A', o', q1, q2, q3⟩ := h4
 have l1 : ∀ b, o b ≠ 0 → w2.heap.size ≤ b ∧ b < w3.heap.size := fun b hb => ⟨p2 b hb, p1.lim hb⟩
 have l2 : ∀ b, o' b ≠ 0 → w3.heap.size ≤ b ∧ b < w4.heap.size := fun b hb => ⟨q2 b hb, by obtain ⟨_, _, _, _, _, hx⟩ := q1; exact hx.lim b hb⟩
 have s2 := k2.size
 have s3 := p3.size
 have s4 := q3.size
 have s5 := hK.size
 have s6 := hv.size
 have c1 : PD v p (Ds.load r.toNat L) A o := ((p1.keep (Keep.ofNone (F := fun _ => False) q3) (fun _ _ h => h)).keep hK (fun b hb hf => by have := l1 b hb; have := hF b hf; omega)).keep (Keep.ofNone (F := fun _ => False) hv) (fun _ _ h => h)
 have c2 : RD v q (Ds.load r.toNat L) A' o' := (q1.keep hK (fun b hb hf => by have := l2 b hb; have := hF b hf; omega)).kept hv
 exact ⟨hkw.trans hv (by simp), p, q, D, none, [], _, Pq.put (fun b hb => hb) (hkw.trans hv (by simp)) c1 l1 c2 l2 (Bd.load (by omega) hd) s2 (by omega) (by omega) (by omega) (by omega) (by omega) (.inr (by omega)) (.inr (by omega)) (by omega) (by omega) eP (by omega) hD hP⟩
theorem totalOf_mem {L : List (By × By)} {f : By × By} (h : f ∈ L) : f.2.length ≤ totalOf L := total_mem h
set_option maxHeartbeats 6400000 in
set_option maxRecDepth 100000 in
theorem loads_walk (hst : StandsOk) (r : Int) (ao : Option Addr) (n c : Nat) (ao' : Option Addr) (n' c' : Nat) (L : List (By × By)) (Q : List Stp) (w : World) (hx : L.length = n) (hn : n ≤ 4611686018427387900) (hM : ∀ f ∈ L, f.1.length ≤ 4611686018427387900 ∧ f.2.length ≤ 4611686018427387900) (h1 : Fio w ao L) (hl : Q.length = n') (hs : Scr w ao' Q) (hn' : n' ≤ 9223372036854775807) (hrw : (Lit.int .i64 r).wf = true) :
  Calls Tryz.prog 3 #[.int .i64 r, .slice ao n c, .slice ao' n' c'] w fun e w' => e = .returned (.bool true) ∧ Kept [] w w' := by
 have hlg := long_any ao' n' c' Q w hl hn' hs
 have HSC : Hid (Scr w ao' Q) := hide hs
 have HL' : Hid (Q.length = n') := hide hl
 have HST := hide hst
 have HX := hide hx
 have H1 := hide h1
 have HM := hide hM
 clear hs hl hst hx h1 hM
 go_enter Tryz.func3, Tryz.ntmps3
 go_wp2
 go_loopw [7, 8] (fun s iv wr => ∃ k : Nat, k ≤ n ∧ iv = .int .i64 k ∧ ∃ t : Nat, t ≤ 100000 ∧ s = .int .i64 t ∧ Hid (totalOf (L.take k) + k = t) ∧ wr = w) (fun s iv wr => n - (intOf iv).toNat)
 case atStart => exact ⟨0, Nat.zero_le _, rfl, 0, by omega, rfl, hide (by simp [totalOf]), by first | rfl | trivial⟩
 case round =>
  obtain ⟨k, hk, rfl, t, ht, rfl, HT, hww⟩ := hrel
  obtain rfl := hww.symm
  by_cases hlt : k < n
  ·obtain ⟨b1, off, rfl, ⟨x, d⟩, hs, e1, bo1, bc1, e2, s1, hzn⟩ := H1.out k (by rw [HX.out]; exact hlt)
   have hdl := (HM.out _ (List.mem_of_getElem? hs)).2
   have htk := totalOf_take L k _ hs
   dsimp only at e2 hdl htk
   obtain ⟨z, hzd⟩ : ∃ z, d.length = z := ⟨_, rfl⟩
   rw [hzd] at e2 hdl htk
   have HTK := hide htk
   clear hs e1 s1 hzn hzd htk
   by_cases hbig0 : t + z + 1 > 100000
   ·have hbig : (100000 : Int) < (t : Int) + (z : Int) + 1 := by omega
    clear hbig0
    go_wp2
    go_ret
    exact ⟨rfl, Kept.refl [] w⟩
   ·have hbig : ¬ (100000 : Int) < (t : Int) + (z : Int) + 1 := by omega
    go_wp2
    go_roundw
    case rel => exact ⟨k + 1, by omega, by go_num, t + z + 1, by omega, by go_num, hide (by rw [HTK.out]; have := HT.out; omega), by first | rfl | trivial⟩
    case measure => simp [intOf]; omega
  ·obtain rfl : k = n := by omega
   have htn : totalOf L + k ≤ 100000 := by
    have h9 := HT.out
    rw [List.take_of_length_le (by rw [HX.out]; exact Nat.le_refl _)] at h9
    omega
   have HTT : Hid (totalOf L ≤ 100000) := hide (by omega)
   have hnb : k ≤ 100000 := by omega
   have HM5 : Hid (∀ f ∈ L, f.1.length ≤ 4611686018427387900 ∧ f.2.length ≤ 100000) := hide (fun f hf => ⟨(HM.out f hf).1, by have := totalOf_mem hf; omega⟩)
   have HDB : Hid (∀ f ∈ L, f.2.length ≤ 100000) := hide (fun f hf => (HM5.out f hf).2)
   have HNB : Hid (L.length ≤ 100000) := hide (by rw [HX.out]; exact hnb)
   clear HM HT htn ht hk hlt hn
   generalize k = n at *
   go_upto_region 10 with (go_at_call 4; refine hlg.mono ?_; rintro e w1 ⟨he, hk1⟩; clear hlg; rcases he with rfl | ⟨rfl, hsh⟩)
   ·go_ret
    exact ⟨rfl, hk1⟩
   have HC : Hid (costs Q ≤ 100000) := hide hsh.2
   have hn3 : n' ≤ 300 := by rw [← HL'.out]; exact hsh.1
   have HK1 := hide hk1
   have hrm := roomy5_ok ao n c L w1 HX.out hnb HM5.out (H1.out.kept hk1)
   clear hsh hk1
   go_upto_region 11 with (go_at_call 5; refine hrm.mono ?_; rintro e w2 ⟨G, rv, B, rfl, hR⟩; have HR := hide hR; clear hrm hR)
   obtain ⟨N, hN⟩ : ∃ N, N = n + 5 := ⟨_, rfl⟩
   rw [← hN] at HR ⊢
   have hN1 : N ≤ n + 5 := by omega
   have hN2 : n + 5 ≤ N := by omega
   clear hN
   obtain ⟨R, rc, rfl⟩ := HR.out.shape (by omega)
   have HK2 : Hid (Kept [] w w2) := hide (HK1.out.trans HR.out.kept (by simp))
   obtain ⟨hf1, hf2⟩ := HR.out.fis (by rw [HX.out]; omega)
   have hdl := dload_ok r (some ⟨G, 0, none⟩) n N L w2 HX.out (by omega) HTT.out HM5.out hf1 hf2
   clear hf1 hf2
   go_upto_region 12 with (go_at_call 6; refine hdl.mono ?_; rintro e w3 hc3; clear hdl; rcases hc3 with ⟨hE, rfl, hk3⟩ | ⟨hE, p, rfl, HP3⟩)
   ·have HK23 : Hid (Kept [] w2 w3) := hide hk3
    have hrl := rload_ok r ao n c L w3 HX.out (by omega) (by have := HTT.out; omega) (fun f hf => ⟨(HM5.out f hf).1, by have := (HM5.out f hf).2; omega⟩) (H1.out.kept (HK2.out.trans HK23.out (by simp)))
    have hEb := (show (loadE r L != 0) = true by simpa using hE)
    have HEE := hide hE
    clear hE
    go_upto_region 13 with (go_at_call 7; refine hrl.mono ?_; rintro e w4 hc4; clear hrl; obtain ⟨rfl, hk4⟩ : e = .returned (.tuple #[.pointer none, .int .i64 (loadE r L)]) ∧ Kept [] w3 w4 := by (rcases hc4 with ⟨_, h⟩ | ⟨h, _⟩; exact h; exact absurd h HEE.out))
    have HLF := hide (fun w5 (hk : Kept [] w2 w5) => left5_ok (w0 := w1) ao n c G R rc N B L w5 HX.out hN1 hN2 hnb HM5.out (H1.out.kept (HK2.out.trans hk (by simp))) (HR.out.keeps hk))
    have HK24 : Hid (Kept [] w2 w4) := hide (HK23.out.trans hk4 (by simp))
    have hlf := HLF.out w4 HK24.out
    clear HLF
    generalize loadE r L = E at hEb ⊢
    go_upto_region 15 with (first
     | (go_at_call 8; refine (num_ok _ _).mono ?_; rintro e w' ⟨rfl, hww⟩; obtain rfl := hww.symm)
     | (go_at_call 9; refine hlf.mono ?_; rintro e w5 ⟨rfl, hk5⟩; have HK45' := hide hk5; clear hlf hk5))
    have HK25 : Hid (Kept [] w2 w5) := hide (HK24.out.trans HK45'.out (by simp))
    have HK45 : Hid (∀ {F : Nat → Prop} {wr : World}, Keep F w5 wr → Keep F w4 wr) := hide (fun hk => (Keep.ofNone (F := fun _ => False) HK45'.out).mono (fun _ h _ => h.elim) |>.trans hk (fun _ h _ => h))
    have HR5 := HR.out.keeps HK25.out
    obtain ⟨Z, hZ⟩ : ∃ Z : Nat → Nat, Z = fun j => (fl L j).2.length + 5 := ⟨_, rfl⟩
    have HWS : Hid (Wov w5 w5 G R N B Z) := hide (by rw [hZ]; exact Wov.start HR5)
    have HZB : Hid (∀ i, Z i ≤ 100005) := hide (fun i => by
     rw [hZ]
     show (fl L i).2.length + 5 ≤ 100005
     by_cases h : i < L.length
     ·rw [fl_in (List.getElem?_eq_getElem h)]; have := HDB.out _ (List.getElem_mem h); omega
     ·rw [fl_out h]; decide)
    have HGN : Hid (w.heap.size ≤ G) := hide (by have := HR.out.g; have := HK1.out.size; omega)
    have HBN : Hid (∀ j, j < N → w.heap.size ≤ B j) := hide (fun j hj => by have := (HR.out.blk j hj).2; have := HK1.out.size; omega)
    have HK15 : Hid (Kept [] w w5) := hide (HK2.out.trans HK25.out (by simp))
    have HFB : Hid (∀ b, (b = G ∨ ∃ j, j < N ∧ b = B j) → b < w2.heap.size) := hide (fun b hb => by
     rcases hb with rfl | ⟨j, hj, rfl⟩
     ·exact HR.out.glt
     ·exact HR.out.blt hj)
    clear HR5 hZ
    go_wp2
    go_loopw [15] (fun iv wr => ∃ k : Nat, k ≤ N ∧ iv = .int .i64 k ∧ Hid (Wov w5 wr G R N B Z)) (fun iv wr => N - (intOf iv).toNat)
    case atStart => exact ⟨0, Nat.zero_le _, rfl, HWS⟩
    case round =>
     clear HWS
     obtain ⟨i, hi, rfl, HW⟩ := hrel
     by_cases hiN : i < N
     ·have hZi := HZB.out i
      obtain ⟨zc, hzc⟩ : ∃ zc, Z i = zc := ⟨_, rfl⟩
      have HZC := hide hzc
      rw [hzc] at hZi
      clear hzc
      obtain ⟨wi, hwi⟩ : ∃ x, x = wr := ⟨_, rfl⟩
      go_wp2
      go_loopw [16] (fun kv wx => ∃ k : Nat, k ≤ zc ∧ kv = .int .i64 k ∧ Hid (Wov w5 wx G R N B Z)) (fun kv wx => zc - (intOf kv).toNat)
      case atStart => exact ⟨0, Nat.zero_le _, rfl, HW⟩
      case round =>
       clear HW hwi
       obtain ⟨k, hk, rfl, HW⟩ := hrel
       have c3 := HW.out.rows i hiN
       rw [HZC.out] at c3
       by_cases hkz : k < zc
       ·obtain ⟨⟨u, cB⟩, fB⟩ := HW.out.cellB (j := i) (k := k) hiN (by rw [HZC.out]; exact hkz)
        have HW2 := hide (HW.out.putB (k := k) hiN (.int .u8 170) rfl)
        clear HW
        generalize B i = b at c3 cB fB HW2
        go_wp2
        go_roundw
        case rel => exact ⟨k + 1, by omega, by go_num, HW2⟩
        case measure => simp [intOf]; omega
       ·obtain ⟨⟨u1, cG1⟩, fG1⟩ := HW.out.cellG (k := i * 2) (by omega)
        obtain ⟨⟨u2, cG2⟩, fG2⟩ := HW.out.cellG (k := i * 2 + 1) (by omega)
        have HW2 := hide ((HW.out.putG (k := i * 2) (.string { data := #[122, 122] }) rfl).putG (k := i * 2 + 1) (.slice none 0 0) rfl)
        clear HW
        go_wp2
        go_roundw
        case rel => exact ⟨i + 1, by omega, by go_num, HW2⟩
        case measure => simp [intOf]; omega
     ·
      have HK6 := hide (HW.out.keeps HK15.out HGN.out HBN.out)
      clear HW
      go_wp2_with (go_at_call 10; refine (known_ok _).mono ?_; rintro e w7 ⟨rfl, hk7⟩)
      go_ret
      exact ⟨rfl, (HK6.out.trans hk7 (by simp))⟩
   ·have HK23 : Hid (Kept [] w2 w3) := hide (by obtain ⟨_, _, _, _, h⟩ := HP3.out; exact h)
    have hrl := rload_ok r ao n c L w3 HX.out (by omega) (by have := HTT.out; omega) (fun f hf => ⟨(HM5.out f hf).1, by have := (HM5.out f hf).2; omega⟩) (H1.out.kept (HK2.out.trans HK23.out (by simp)))
    have hEb := (show (0 : Int) = 0 from rfl)
    have HEE := hide hE
    clear hE
    go_upto_region 13 with (go_at_call 7; refine hrl.mono ?_; rintro e w4 hc4; clear hrl; obtain ⟨q, rfl, HQ4⟩ : ∃ q, e = .returned (.tuple #[.pointer (some ⟨q, 0, none⟩), .int .i64 0]) ∧ Hid (∃ A o, RD w4 q (Ds.load r.toNat L) A o ∧ (∀ b, o b ≠ 0 → w3.heap.size ≤ b) ∧ Kept [] w3 w4) := by (rcases hc4 with ⟨h, _⟩ | ⟨_, q, A, o, e4, g⟩; exact absurd HEE.out h; exact ⟨q, e4, hide ⟨A, o, g⟩⟩))
    have HLF := hide (fun w5 (hk : Kept [] w2 w5) => left5_ok (w0 := w1) ao n c G R rc N B L w5 HX.out hN1 hN2 hnb HM5.out (H1.out.kept (HK2.out.trans hk (by simp))) (HR.out.keeps hk))
    have HK24 : Hid (Kept [] w2 w4) := hide (HK23.out.trans (by obtain ⟨_, _, _, _, h⟩ := HQ4.out; exact h) (by simp))
    have hlf := HLF.out w4 HK24.out
    clear HLF
    go_upto_region 15 with (first
     | (go_at_call 8; refine (num_ok _ _).mono ?_; rintro e w' ⟨rfl, hww⟩; obtain rfl := hww.symm)
     | (go_at_call 9; refine hlf.mono ?_; rintro e w5 ⟨rfl, hk5⟩; have HK45' := hide hk5; clear hlf hk5))
    have HK25 : Hid (Kept [] w2 w5) := hide (HK24.out.trans HK45'.out (by simp))
    have HK45 : Hid (∀ {F : Nat → Prop} {wr : World}, Keep F w5 wr → Keep F w4 wr) := hide (fun hk => (Keep.ofNone (F := fun _ => False) HK45'.out).mono (fun _ h _ => h.elim) |>.trans hk (fun _ h _ => h))
    have HR5 := HR.out.keeps HK25.out
    obtain ⟨Z, hZ⟩ : ∃ Z : Nat → Nat, Z = fun j => (fl L j).2.length + 5 := ⟨_, rfl⟩
    have HWS : Hid (Wov w5 w5 G R N B Z) := hide (by rw [hZ]; exact Wov.start HR5)
    have HZB : Hid (∀ i, Z i ≤ 100005) := hide (fun i => by
     rw [hZ]
     show (fl L i).2.length + 5 ≤ 100005
     by_cases h : i < L.length
     ·rw [fl_in (List.getElem?_eq_getElem h)]; have := HDB.out _ (List.getElem_mem h); omega
     ·rw [fl_out h]; decide)
    have HGN : Hid (w.heap.size ≤ G) := hide (by have := HR.out.g; have := HK1.out.size; omega)
    have HBN : Hid (∀ j, j < N → w.heap.size ≤ B j) := hide (fun j hj => by have := (HR.out.blk j hj).2; have := HK1.out.size; omega)
    have HK15 : Hid (Kept [] w w5) := hide (HK2.out.trans HK25.out (by simp))
    have HFB : Hid (∀ b, (b = G ∨ ∃ j, j < N ∧ b = B j) → b < w2.heap.size) := hide (fun b hb => by
     rcases hb with rfl | ⟨j, hj, rfl⟩
     ·exact HR.out.glt
     ·exact HR.out.blt hj)
    clear HR5 hZ
    go_wp2
    go_loopw [15] (fun iv wr => ∃ k : Nat, k ≤ N ∧ iv = .int .i64 k ∧ Hid (Wov w5 wr G R N B Z)) (fun iv wr => N - (intOf iv).toNat)
    case atStart => exact ⟨0, Nat.zero_le _, rfl, HWS⟩
    case round =>
     clear HWS
     obtain ⟨i, hi, rfl, HW⟩ := hrel
     by_cases hiN : i < N
     ·have hZi := HZB.out i
      obtain ⟨zc, hzc⟩ : ∃ zc, Z i = zc := ⟨_, rfl⟩
      have HZC := hide hzc
      rw [hzc] at hZi
      clear hzc
      obtain ⟨wi, hwi⟩ : ∃ x, x = wr := ⟨_, rfl⟩
      go_wp2
      go_loopw [16] (fun kv wx => ∃ k : Nat, k ≤ zc ∧ kv = .int .i64 k ∧ Hid (Wov w5 wx G R N B Z)) (fun kv wx => zc - (intOf kv).toNat)
      case atStart => exact ⟨0, Nat.zero_le _, rfl, HW⟩
      case round =>
       clear HW hwi
       obtain ⟨k, hk, rfl, HW⟩ := hrel
       have c3 := HW.out.rows i hiN
       rw [HZC.out] at c3
       by_cases hkz : k < zc
       ·obtain ⟨⟨u, cB⟩, fB⟩ := HW.out.cellB (j := i) (k := k) hiN (by rw [HZC.out]; exact hkz)
        have HW2 := hide (HW.out.putB (k := k) hiN (.int .u8 170) rfl)
        clear HW
        generalize B i = b at c3 cB fB HW2
        go_wp2
        go_roundw
        case rel => exact ⟨k + 1, by omega, by go_num, HW2⟩
        case measure => simp [intOf]; omega
       ·obtain ⟨⟨u1, cG1⟩, fG1⟩ := HW.out.cellG (k := i * 2) (by omega)
        obtain ⟨⟨u2, cG2⟩, fG2⟩ := HW.out.cellG (k := i * 2 + 1) (by omega)
        have HW2 := hide ((HW.out.putG (k := i * 2) (.string { data := #[122, 122] }) rfl).putG (k := i * 2 + 1) (.slice none 0 0) rfl)
        clear HW
        go_wp2
        go_roundw
        case rel => exact ⟨i + 1, by omega, by go_num, HW2⟩
        case measure => simp [intOf]; omega
     ·
      have HPL : Hid (∀ v D P, Kept [] wr v → v.heap[D]? = some (.cells #[.slice none 0 0, .slice none 0 0] 45 (0, 0)) → v.heap[P]? = some (.cells #[.pointer (some ⟨p, 0, none⟩), .pointer (some ⟨q, 0, none⟩), .pointer (some ⟨D, 0, none⟩)] 47 (0, 0)) → wr.heap.size ≤ D → D < P → Pl w v P 100000) := hide (fun v D P a1 a2 a3 a4 a5 => loads_pair HNB.out HDB.out HK2.out HP3.out HQ4.out (F := fun b => b = G ∨ ∃ j, j < N ∧ b = B j) HFB.out (HK45.out HW.out.keep) (HW.out.keeps HK15.out HGN.out HBN.out) a1 a2 a3 a4 a5)
      clear HW
      go_upto_region 26 with (fail)
      have HP0 : Hid (Pl w ((wr.alloc (.cells #[.slice none 0 0, .slice none 0 0] 45)).alloc (.cells #[.pointer (some ⟨p, 0, none⟩), .pointer (some ⟨q, 0, none⟩), .pointer (some ⟨wr.heap.size, 0, none⟩)] 47)) (wr.heap.size + 1) 100000) := hide (by
       refine HPL.out _ wr.heap.size (wr.heap.size + 1) (((Kept.refl [] wr).alloc _).alloc _) ?_ ?_ (Nat.le_refl _) (Nat.lt_succ_self _)
       ·rw [Below.heap_alloc _ _ _ (by simp)]
        exact (MapKept.heap_alloc wr _).1
       ·have := (MapKept.heap_alloc (wr.alloc (.cells #[.slice none 0 0, .slice none 0 0] 45)) (.cells #[.pointer (some ⟨p, 0, none⟩), .pointer (some ⟨q, 0, none⟩), .pointer (some ⟨wr.heap.size, 0, none⟩)] 47)).1
        simpa using this)
      generalize (wr.alloc (.cells #[.slice none 0 0, .slice none 0 0] 45)).alloc (.cells #[.pointer (some ⟨p, 0, none⟩), .pointer (some ⟨q, 0, none⟩), .pointer (some ⟨wr.heap.size, 0, none⟩)] 47) = w6 at HP0 ⊢
      generalize wr.heap.size + 1 = P at HP0 ⊢
      clear HPL
      have hsd := pl_stands HST.out HP0.out (by omega)
      clear HP0
      go_wp2_with (go_at_call 11; refine hsd.mono ?_; rintro e w7 ⟨rfl, hp7⟩; have H7 := hide hp7; clear hsd hp7)
      go_loopw [18] (fun iv wr => ∃ k : Nat, k ≤ n' ∧ iv = .int .i64 k ∧ Hid (Pl w wr P (100000 + costs (Q.take k) + 3 * k))) (fun iv wr => n' - (intOf iv).toNat)
      case atStart => exact ⟨0, Nat.zero_le _, rfl, by simpa [costs] using H7⟩
      case round =>
       clear H7
       obtain ⟨k, hk, rfl, HA⟩ := hrel
       by_cases hlt : k < n'
       ·have hkL : k < Q.length := by rw [HL'.out]; exact hlt
        obtain ⟨b, off, rfl, _, hcs⟩ := HSC.out.open (List.length_pos_iff.1 (by omega))
        obtain ⟨hc, hin⟩ := hcs k hkL
        have hkx : Kept [] w wr := HA.out.1
        have hcost := cost_at hkL
        have hcc := HC.out
        have hco : (Q.getD k stp0).cost = (Q.getD k stp0).dn + 8 * (Q.getD k stp0).pn := rfl
        have HNX : Hid (∀ v, Pl w v P (100000 + costs (Q.take k) + 3 * k + (Q.getD k stp0).dn + 3) → Pl w v P (100000 + costs (Q.take (k + 1)) + 3 * (k + 1))) := hide (fun v hv => by
         rw [stp_snoc Q k hkL, costs_snoc]
         obtain ⟨g1, g2, g3, g4, g5, g6, g7, g8⟩ := hv
         exact ⟨g1, g2, g3, g4, g5, g6, g7, g8.mono (by omega) (by omega)⟩)
        have hstp := pl_step2 HA.out (Q.getD k stp0) hin (by omega) (by omega) (by omega)
        have c0 := hkx.cellOf (hc 0 _ rfl) (by simp)
        have c1 := hkx.cellOf (hc 1 _ rfl) (by simp)
        have c2 := hkx.cellOf (hc 2 _ rfl) (by simp)
        have c3 := hkx.cellOf (hc 3 _ rfl) (by simp)
        have c4 := hkx.cellOf (hc 4 _ rfl) (by simp)
        have c5 := hkx.cellOf (hc 5 _ rfl) (by simp)
        have c6 := hkx.cellOf (hc 6 _ rfl) (by simp)
        have c7 := hkx.cellOf (hc 7 _ rfl) (by simp)
        have c8 := hkx.cellOf (hc 8 _ rfl) (by simp)
        have c9 := hkx.cellOf (hc 9 _ rfl) (by simp)
        rw [Nat.mul_comm 10 k] at c0 c1 c2 c3 c4 c5 c6 c7 c8 c9
        rw [Nat.add_zero] at c0
        generalize hNe : 100000 + costs (Q.take k) + 3 * k = M at *
        generalize Q.getD k stp0 = s at *
        simp only [Stp.cells] at hstp
        clear hin hcs hc hcost hcc hco hkL hNe HA hkx
        go_wp2_with (go_at_call 12; refine hstp.mono ?_; rintro e w8 ⟨rfl, hp8⟩; have HZ8 := hide (HNX.out _ hp8); clear hstp hp8 HNX c0 c1 c2 c3 c4 c5 c6 c7 c8 c9)
        go_roundw
        case rel => exact ⟨k + 1, by omega, by go_num, HZ8⟩
        case measure => simp [intOf]; omega
       ·have hkn : k = n' := by omega
        subst hkn
        have hcc := HC.out
        have hcl : costs (Q.take k) ≤ 100000 := by rw [← HL'.out, List.take_length]; exact hcc
        have hsd := pl_stands HST.out HA.out (by omega)
        clear HA hcc hcl
        go_wp2_with (first
         | (go_at_call 11; refine hsd.mono ?_; rintro e w8 ⟨rfl, hp8⟩; have H8 := hide hp8; clear hsd hp8)
         | (go_at_call 10; refine (known_ok _).mono ?_; rintro e w9 ⟨rfl, hk9⟩))
        go_ret
        exact ⟨rfl, H8.out.1.trans hk9 (by simp)⟩
theorem loads_law (r : Int) (ao : Option Addr) (n c : Nat) (ao' : Option Addr) (n' c' : Nat) (L : List (By × By)) (Q : List Stp) (w : World) (hx : L.length = n) (hn : n ≤ 4611686018427387900) (hM : ∀ f ∈ L, f.1.length ≤ 4611686018427387900 ∧ f.2.length ≤ 4611686018427387900) (h1 : Fio w ao L) (hl : Q.length = n') (hs : Scr w ao' Q) (hn' : n' ≤ 9223372036854775807) (hrw : (Lit.int .i64 r).wf = true) :
  Calls Tryz.prog 3 #[.int .i64 r, .slice ao n c, .slice ao' n' c'] w fun e w' => e = .returned (.bool true) ∧ Below w.heap.size w w' :=
 (loads_walk (fun X w P p q D bo R S N h hN => stands_ok h hN) r ao n c ao' n' c' L Q w hx hn hM h1 hl hs hn' hrw).mono fun e w' ⟨he, hk⟩ => ⟨he, hk.below (Nat.le_refl _) (by simp)⟩
end Go.Proofs.YteckiednnaianaaGreat
