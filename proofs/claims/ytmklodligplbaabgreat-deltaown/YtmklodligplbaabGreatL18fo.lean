import Derived.Test.YtmklodligplbaabGreatL18eo
open Go.RowKit
set_option linter.unusedVariables false
set_option linter.unusedSimpArgs false
set_option maxRecDepth 100000
set_option maxHeartbeats 0
namespace Go.Proofs.YtmklodligplbaabGreat
section
open Dlt
theorem app18 {w : World} {B : Nat} {po : Option Addr} {q pc : Nat} {ys : List UInt8} (h : OwnB w B (.slice po q pc) ys) (hb : B <= w.heap.size) (so : Option Addr) (m sc : Nat) (zs : List UInt8) (hm : zs.length = m) (hs : Sl w so zs) (h0 : so = none -> zs = [] ∧ sc = 0) (hl : q + m <= 1000000000) :
  ∃ po' pc' w', (Builtin.append_ #[27, 27] 27 #[.slice po q pc, .slice so m sc]).run Tryz.prog w = .ok (.slice po' (q + m) pc') w' ∧ OwnB w' B (.slice po' (q + m) pc') (ys ++ zs) ∧ Kept (Value.slice po q pc).ownBlock.toList w w' := by
 have hl1 := own_len h
 obtain ⟨v', w', hrun, ho, hk⟩ := run_appSl w B (.slice po q pc) ys zs h so m sc hm hs h0 (by omega) hb
 obtain ⟨po', pc', rfl, _⟩ := own_shape ho
 rw [show (ys ++ zs).length = q + m by rw [List.length_append, hl1, hm]] at hrun ho
 exact ⟨po', pc', w', hrun, ho, hk⟩
theorem own_far {w w1 w2 : World} {B : Nat} {v : Value} {ys : List UInt8} (h : OwnB w1 B v ys) (hk : Kept [] w w1) (hB : w.heap.size <= B) (k2 : Kept v.ownBlock.toList w1 w2) : Kept [] w w2 :=
 hk.trans k2 (fun i hi hl => by have := (h.far i (by simpa using hi)).1; omega)
theorem refnum8 (v : Nat) (hv : v <= 2147483647) (w : World) : Calls Tryz.prog 55 #[.int .i64 v] w fun e w' => ∃ m so sc, (Pure.enc v).length = m ∧ m <= 5 ∧ e = .returned (.slice so m sc) ∧ Sl w' so (Pure.enc v) ∧ (so = none -> Pure.enc v = [] ∧ sc = 0) ∧ Kept [] w w' :=
 (refnumber_ok v hv w).mono fun e w' h => by
  obtain ⟨vb, rfl, _, ho, hk⟩ := h
  obtain ⟨so, sc, rfl, _⟩ := own_shape ho
  have hi := own_in8 ho
  exact ⟨_, so, sc, rfl, Pure.enc_len5 hv, rfl, hi.sl, hi.nil, hk⟩
end

section
namespace Dlt
def openB (xs : List UInt8) : Option (List UInt8) :=
 if xs.length < 4 ∨ 131072 < xs.length then none
 else if Pure.be (xs.drop (xs.length - 4)) = Pure.sum (xs.take (xs.length - 4)) then some (xs.take (xs.length - 4)) else none
theorem openB_some {xs ys : List UInt8} (h : openB xs = some ys) : xs = sealed ys ∧ xs.length <= 131072 := by
 unfold openB at h
 split at h; · cases h
 rename_i h1
 split at h
 ·rename_i h2
  injection h with h
  subst h
  refine ⟨?_, by omega⟩
  have hk : (xs.drop (xs.length - 4)).length = 4 := by rw [List.length_drop]; omega
  have hf := Pure.fix_be (xs.drop (xs.length - 4))
  rw [hk, h2] at hf
  unfold sealed
  rw [hf, List.take_append_drop]
 ·cases h
theorem openB_sealed {ys : List UInt8} (h : (sealed ys).length <= 131072) : openB (sealed ys) = some ys := by
 have hl : (sealed ys).length = ys.length + 4 := by unfold sealed; rw [List.length_append, Pure.fix_len]
 have ht : (sealed ys).take ((sealed ys).length - 4) = ys := by rw [hl]; unfold sealed; simp
 have hd : (sealed ys).drop ((sealed ys).length - 4) = Pure.fix (Pure.sum ys) 4 := by rw [hl]; unfold sealed; simp
 unfold openB
 have hs : Pure.sum ys < 256 ^ 4 := by unfold Pure.sum; omega
 rw [if_neg (by omega), ht, hd, Pure.be_fix, Nat.mod_eq_of_lt hs, if_pos rfl]
def rheadOk (xs : List UInt8) : Bool :=
 decide (mk xs = 68) && (decide ((s4 xs).e = 0) && isW (nW xs) && isZ (nZ xs) && decide (nL xs <= 131072)) && (decide ((s7 xs).e = 0) && decide (nT xs <= 131072) && decide (nI xs <= 2048))
def rdD (xs : List UInt8) : Option Dta :=
 if rheadOk xs = false then none
 else match rdIs xs (cntB xs) (s7 xs) (nI xs).toNat with
  | none => none
  | some p =>
   if (decide (p.2.e = 0) && decide (stLeft xs p.2 = 0) && decide ((total (nZ xs).toNat p.1 : Int) = nT xs)) = false then none
   else some ⟨(nW xs).toNat, (nZ xs).toNat, (nL xs).toNat, idB xs, (nT xs).toNat, idT xs, p.1, pad_len _, pad_len _⟩
theorem At.stop {xs : List UInt8} {s : Rs} {ys zs : List UInt8} (h : At xs s ys zs) (h0 : stLeft xs s = 0) : xs = ys := by
 unfold stLeft at h0
 rw [if_pos h.e, h.len] at h0
 have : zs = [] := List.length_eq_zero_iff.1 (by omega)
 rw [h.x, this, List.append_nil]
theorem rdD_some {xs : List UInt8} {d : Dta} (h : rdD xs = some d) : OkD d ∧ xs = bodyD d := by
 unfold rdD at h
 split at h; · cases h
 rename_i h0
 split at h; · cases h
 rename_i p hp
 split at h; · cases h
 rename_i he
 injection h with h
 rw [Bool.not_eq_false] at h0 he
 simp only [rheadOk, Bool.and_eq_true, decide_eq_true_eq, isW, isZ, within_iff] at h0
 simp only [Bool.and_eq_true, decide_eq_true_eq] at he
 obtain ⟨⟨h2, ⟨⟨⟨he4, h3⟩, h4⟩, h5⟩⟩, ⟨⟨e7, h6⟩, h7⟩⟩ := h0
 have e6 : (s6 xs).e = 0 := num_e0 e7
 have e5 : (s5 xs).e = 0 := raw_e0 e6
 have eB : (sB xs).e = 0 := num_e0 e5
 have e4 : (s4 xs).e = 0 := raw_e0 eB
 have e3 : (s3 xs).e = 0 := num_e0 e4
 have e2 : (s2 xs).e = 0 := num_e0 e3
 have e1 : (s1 xs).e = 0 := num_e0 e2
 obtain ⟨m, z1, hm, _, _, a1⟩ := fix_bwd (At.start xs) (n := 1) (by omega) (by omega) e1
 have hm2 : m = 68 := by
  have : mk xs = (m : Int) := hm
  omega
 subst hm2
 obtain ⟨w, z2, hw, hw2, _, a2⟩ := num_bwd (s := s1 xs) a1 e2
 obtain ⟨z, z3, hz, hz2, _, a3⟩ := num_bwd (s := s2 xs) a2 e3
 obtain ⟨l, z4, hl, hl2, _, a4⟩ := num_bwd (s := s3 xs) a3 e4
 have hw : nW xs = (w : Int) := hw
 have hz : nZ xs = (z : Int) := hz
 have hl : nL xs = (l : Int) := hl
 have hwn : w <= 32 := by omega
 have hsB : sB xs = (stRaw xs (s4 xs) (w : Nat)).2 := by unfold sB; rw [hw]
 obtain ⟨z5, hr, _, a5⟩ := raw_bwd (s := s4 xs) (n := w) a4 (by rw [<-hsB]; exact eB)
 rw [<-hsB] at a5
 obtain ⟨t, z6, ht, ht2, _, a6⟩ := num_bwd (s := sB xs) a5 e5
 have ht : nT xs = (t : Int) := ht
 have hs6 : s6 xs = (stRaw xs (s5 xs) (w : Nat)).2 := by unfold s6; rw [hw]
 obtain ⟨z7, hr2, _, a7⟩ := raw_bwd (s := s5 xs) (n := w) a6 (by rw [<-hs6]; exact e6)
 rw [<-hs6] at a7
 obtain ⟨n, z8, hn, hn2, _, a8⟩ := num_bwd (s := s6 xs) a7 e7
 have hn : nI xs = (n : Int) := hn
 obtain ⟨hok, z9, a9⟩ := rdIs_bwd (s := s7 xs) a8 hp
 have hx := a9.stop he.1.2
 have hlen := rdIs_len hp
 rw [hn, Int.toNat_natCast] at hlen
 have hcb : cntB xs = l / z := by
  unfold cntB
  rw [hl, hz, <-Int.natCast_ediv, Int.toNat_natCast]
 have eB1 : idB xs = pad (stRaw xs (s4 xs) (w : Nat)).1 := by unfold idB; rw [hw]
 have eT1 : idT xs = pad (stRaw xs (s5 xs) (w : Nat)).1 := by unfold idT; rw [hw]
 have k1 : (nW xs).toNat = w := by omega
 have k2 : (nZ xs).toNat = z := by omega
 have k3 : (nL xs).toNat = l := by omega
 have k4 : (nT xs).toNat = t := by omega
 have d1 : d.width = w := by rw [<-h]; exact k1
 have d2 : d.size = z := by rw [<-h]; exact k2
 have d3 : d.blen = l := by rw [<-h]; exact k3
 have d4 : d.tlen = t := by rw [<-h]; exact k4
 have d5 : d.bid = pad (stRaw xs (s4 xs) (w : Nat)).1 := by rw [<-h]; exact eB1
 have d6 : d.tid = pad (stRaw xs (s5 xs) (w : Nat)).1 := by rw [<-h]; exact eT1
 have d7 : d.steps = p.1 := by rw [<-h]
 have hbody : bodyD d = [] ++ Pure.fix 68 1 ++ Pure.enc w ++ Pure.enc z ++ Pure.enc l ++ (stRaw xs (s4 xs) (w : Nat)).1 ++ Pure.enc t ++ (stRaw xs (s5 xs) (w : Nat)).1 ++ Pure.enc n ++ p.1.flatMap encI := by
  unfold bodyD headD
  rw [d1, d2, d3, d4, d5, d6, d7, pad_take hr hwn, pad_take hr2 hwn, hlen]
  simp only [List.append_assoc, List.nil_append]
 refine ⟨⟨by omega, by omega, by omega, by omega, by omega, by omega, ?_, ?_, ?_, ?_, ?_⟩, ?_⟩
 ·rw [d1, d5]; exact pad_nought hr hwn
 ·rw [d1, d6]; exact pad_nought hr2 hwn
 ·rw [d7, hlen]; omega
 ·rw [d7, d2, d3, <-hcb]; exact hok
 ·rw [d7, d2, d4]
  have := he.2
  rw [k2, ht] at this
  omega
 ·rw [hbody]; exact hx
theorem rdD_body {d : Dta} (h : OkD d) : rdD (bodyD d) = some d := by
 obtain ⟨xs, hxs⟩ := nm (bodyD d)
 have hW2 := h.w2
 have hx : xs = [] ++ (Pure.fix 68 1 ++ (Pure.enc d.width ++ (Pure.enc d.size ++ (Pure.enc d.blen ++ (d.bid.take d.width ++ (Pure.enc d.tlen ++ (d.tid.take d.width ++ (Pure.enc d.steps.length ++ (d.steps.flatMap encI ++ []))))))))) := by
  rw [<-hxs]
  unfold bodyD headD
  simp only [List.append_assoc, List.nil_append, List.append_nil]
 have a0 : At xs ⟨0, 0, 0⟩ [] _ := ⟨rfl, rfl, hx⟩
 obtain ⟨f1, a1⟩ := fix_fwd a0 (by omega) (by omega) (by omega)
 have g1 : mk xs = 68 := congrArg Prod.fst f1
 obtain ⟨f2, a2⟩ := num_fwd (s := s1 xs) a1 (by omega)
 have g2 : nW xs = (d.width : Int) := congrArg Prod.fst f2
 obtain ⟨f3, a3⟩ := num_fwd (s := s2 xs) a2 (by have := h.z2; omega)
 have g3 : nZ xs = (d.size : Int) := congrArg Prod.fst f3
 obtain ⟨f4, a4⟩ := num_fwd (s := s3 xs) a3 (by have := h.b2; omega)
 have g4 : nL xs = (d.blen : Int) := congrArg Prod.fst f4
 have hbl : (d.bid.take d.width).length = d.width := by rw [List.length_take, d.hb]; omega
 have htl : (d.tid.take d.width).length = d.width := by rw [List.length_take, d.ht]; omega
 obtain ⟨f5, a5⟩ := raw_fwd (s := s4 xs) (n := d.width) a4 hbl
 have g5 : (stRaw xs (s4 xs) (nW xs)).1 = d.bid.take d.width := by rw [g2]; exact congrArg Prod.fst f5
 have hsB : sB xs = (stRaw xs (s4 xs) (d.width : Nat)).2 := by unfold sB; rw [g2]
 rw [<-hsB] at a5
 obtain ⟨f6, a6⟩ := num_fwd (s := sB xs) a5 (by have := h.t2; omega)
 have g6 : nT xs = (d.tlen : Int) := congrArg Prod.fst f6
 obtain ⟨f7, a7⟩ := raw_fwd (s := s5 xs) (n := d.width) a6 htl
 have g7 : (stRaw xs (s5 xs) (nW xs)).1 = d.tid.take d.width := by rw [g2]; exact congrArg Prod.fst f7
 have hs6 : s6 xs = (stRaw xs (s5 xs) (d.width : Nat)).2 := by unfold s6; rw [g2]
 rw [<-hs6] at a7
 obtain ⟨f8, a8⟩ := num_fwd (s := s6 xs) a7 (by have := h.few; omega)
 have g8 : nI xs = (d.steps.length : Int) := congrArg Prod.fst f8
 have hcb : cntB xs = d.blen / d.size := by
  unfold cntB
  rw [g3, g4, <-Int.natCast_ediv, Int.toNat_natCast]
 have hnb : cntB xs <= 131072 := by rw [hcb]; exact Nat.le_trans (Nat.div_le_self _ _) h.b2
 obtain ⟨s8, r1, r2⟩ := rdIs_fwd hnb d.steps (by rw [hcb]; exact h.ins) (s := s7 xs) a8 d.steps.length (Nat.le_refl _)
 rw [List.take_of_length_le (Nat.le_refl _)] at r1 r2
 rw [List.drop_of_length_le (Nat.le_refl _), List.flatMap_nil] at r2
 simp only [List.nil_append] at r2
 have hbody : bodyD d = Pure.fix 68 1 ++ Pure.enc d.width ++ Pure.enc d.size ++ Pure.enc d.blen ++ d.bid.take d.width ++ Pure.enc d.tlen ++ d.tid.take d.width ++ Pure.enc d.steps.length ++ d.steps.flatMap encI := by
  unfold bodyD headD
  simp only [List.append_assoc]
 rw [<-hbody] at r2
 rw [hxs]
 have hle : s8.e = 0 := r2.e
 have hlf : stLeft xs s8 = 0 := by unfold stLeft; rw [if_pos hle, r2.len]; rfl
 have i0 : rheadOk xs = true := by
  simp only [rheadOk, Bool.and_eq_true, decide_eq_true_eq, isW, isZ, within_iff]
  have k4 : (s4 xs).e = 0 := a4.e
  have k7 : (s7 xs).e = 0 := a8.e
  rw [g1, g2, g3, g4, g6, g8]
  have := h.w1; have := h.z1; have := h.z2; have := h.b2; have := h.t2; have := h.few
  exact ⟨⟨rfl, ⟨⟨⟨k4, by omega⟩, by omega⟩, by omega⟩⟩, ⟨⟨k7, by omega⟩, by omega⟩⟩
 unfold rdD
 rw [i0, if_neg (by simp), g8, Int.toNat_natCast, r1]
 simp only
 have i1 : (decide (s8.e = 0) && decide (stLeft xs s8 = 0) && decide ((total (nZ xs).toNat d.steps : Int) = nT xs)) = true := by
  simp only [Bool.and_eq_true, decide_eq_true_eq]
  rw [g3, g6, Int.toNat_natCast, h.sum]
  exact ⟨⟨hle, hlf⟩, rfl⟩
 rw [i1, if_neg (by simp)]
 congr 1
 refine Dta.ext' (by show (nW xs).toNat = _; omega) (by show (nZ xs).toNat = _; omega) (by show (nL xs).toNat = _; omega) ?_ (by show (nT xs).toNat = _; omega) ?_ rfl
 ·show pad (stRaw xs (s4 xs) (nW xs)).1 = d.bid
  rw [g5]; exact pad_of_nought d.hb h.nb hW2
 ·show pad (stRaw xs (s5 xs) (nW xs)).1 = d.tid
  rw [g7]; exact pad_of_nought d.ht h.nt hW2
theorem decD_rdD (xs : List UInt8) : decD xs = (openB xs).bind rdD := by
 cases h : decD xs with
 | some d =>
  obtain ⟨h1, h2, h3⟩ := decD_some h
  subst h2
  have := openB_sealed (ys := bodyD d) h3
  unfold encD
  rw [this, Option.bind_some, rdD_body h1]
 | none =>
  cases ho : openB xs with
  | none => rfl
  | some ys =>
   rw [Option.bind_some]
   cases hr : rdD ys with
   | none => rfl
   | some d =>
    obtain ⟨h1, h2⟩ := rdD_some hr
    obtain ⟨h3, h4⟩ := openB_some ho
    have : xs = encD d := by rw [h3, h2]; rfl
    rw [this] at h4
    have h5 := decD_enc h1 h4
    rw [<-this, h] at h5
    cases h5
end Dlt
end

section
structure Rf (w : World) (b : Nat) (ao : Option Addr) (cap : Nat) (xs : List UInt8) (at_ : Nat) (c p : Int) : Prop where
 c0 : w.cell? ⟨b, 0, none⟩ = some (.slice ao xs.length cap)
 c1 : w.cell? ⟨b, 1, none⟩ = some (.int .i64 at_)
 c2 : w.cell? ⟨b, 2, none⟩ = some (.int .i64 c)
 c3 : w.cell? ⟨b, 3, none⟩ = some (.int .i64 p)
 f1 : w.frozen? ⟨b, 1, none⟩ = false
 f2 : w.frozen? ⟨b, 2, none⟩ = false
 f3 : w.frozen? ⟨b, 3, none⟩ = false
 le : at_ <= xs.length
 lc : xs.length <= cap
 small : xs.length <= 140737488355328
 sl : Sl w ao xs
 apart : xs ≠ [] -> ∀ a, ao = some a -> a.block ≠ b
theorem Rf.kept {l : List Nat} {w w' : World} {b : Nat} {ao : Option Addr} {cap : Nat} {xs : List UInt8} {at_ : Nat} {c p : Int} (h : Rf w b ao cap xs at_ c p) (hk : Kept l w w') (hn : b ∉ l) (hs : xs ≠ [] -> ∀ a, ao = some a -> a.block ∉ l) : Rf w' b ao cap xs at_ c p := by
 have hb := World.block_lt_of_cell? _ _ h.c0
 exact ⟨hk.cellOf h.c0 hn, hk.cellOf h.c1 hn, hk.cellOf h.c2 hn, hk.cellOf h.c3 hn, (hk.frozen (p := ⟨b, 1, none⟩) hb hn).trans h.f1, (hk.frozen (p := ⟨b, 2, none⟩) hb hn).trans h.f2, (hk.frozen (p := ⟨b, 3, none⟩) hb hn).trans h.f3, h.le, h.lc, h.small, h.sl.kept hk hs, h.apart⟩
theorem Rf.lt {w : World} {b : Nat} {ao : Option Addr} {cap : Nat} {xs : List UInt8} {at_ : Nat} {c p : Int} (h : Rf w b ao cap xs at_ c p) : b < w.heap.size := World.block_lt_of_cell? _ _ h.c0
theorem Rf.drewN {w : World} {b : Nat} {ao : Option Addr} {cap : Nat} {xs : List UInt8} {at_ : Nat} {c p : Int} (h : Rf w b ao cap xs at_ c p) (n : Nat) : Rf (w.drewN n) b ao cap xs at_ c p :=
 h.kept ((Kept.refl [] w).drewN n) (by simp) (by simp)
theorem Rf.moved {w : World} {b : Nat} {ao : Option Addr} {cap : Nat} {xs : List UInt8} {at_ : Nat} {c p : Int} (h : Rf w b ao cap xs at_ c p) (n : Nat) (hn : n <= xs.length) :
  Rf (w.setCell ⟨b, 1, none⟩ (.int .i64 n)) b ao cap xs n c p := by
 refine ⟨?_, ?_, ?_, ?_, ?_, ?_, ?_, hn, h.lc, h.small, ?_, h.apart⟩
 ·rw [World.cell?_setCell_other _ _ _ _ (by simp)]; exact h.c0
 ·exact World.cell?_setCell_same _ _ _ h.c1
 ·rw [World.cell?_setCell_other _ _ _ _ (by simp)]; exact h.c2
 ·rw [World.cell?_setCell_other _ _ _ _ (by simp)]; exact h.c3
 ·rw [World.frozen?_setCell]; exact h.f1
 ·rw [World.frozen?_setCell]; exact h.f2
 ·rw [World.frozen?_setCell]; exact h.f3
 ·exact h.sl.kept ((Kept.refl [b] w).setCell (by simp) _) (fun hne a ha => by simpa using h.apart hne a ha)
theorem Rf.refused {w : World} {b : Nat} {ao : Option Addr} {cap : Nat} {xs : List UInt8} {at_ : Nat} {c p : Int} (h : Rf w b ao cap xs at_ c p) (c' p' : Int) :
  Rf ((w.setCell ⟨b, 2, none⟩ (.int .i64 c')).setCell ⟨b, 3, none⟩ (.int .i64 p')) b ao cap xs at_ c' p' := by
 refine ⟨?_, ?_, ?_, ?_, ?_, ?_, ?_, h.le, h.lc, h.small, ?_, h.apart⟩
 ·rw [World.cell?_setCell_other _ _ _ _ (by simp), World.cell?_setCell_other _ _ _ _ (by simp)]; exact h.c0
 ·rw [World.cell?_setCell_other _ _ _ _ (by simp), World.cell?_setCell_other _ _ _ _ (by simp)]; exact h.c1
 ·rw [World.cell?_setCell_other _ _ _ _ (by simp)]; exact World.cell?_setCell_same _ _ _ h.c2
 ·refine World.cell?_setCell_same _ _ _ (u := .int .i64 p) ?_
  rw [World.cell?_setCell_other _ _ _ _ (by simp)]; exact h.c3
 ·rw [World.frozen?_setCell, World.frozen?_setCell]; exact h.f1
 ·rw [World.frozen?_setCell, World.frozen?_setCell]; exact h.f2
 ·rw [World.frozen?_setCell, World.frozen?_setCell]; exact h.f3
 ·exact h.sl.kept (((Kept.refl [b] w).setCell (by simp) _).setCell (by simp) _) (fun hne a ha => by simpa using h.apart hne a ha)
theorem spoil_any {w : World} {b : Nat} {ao : Option Addr} {cap : Nat} {xs : List UInt8} {at_ : Nat} {c p : Int} (h : Rf w b ao cap xs at_ c p) (c' : Int) :
  Calls Tryz.prog 77 #[.pointer (some ⟨b, 0, none⟩), .int .i64 c'] w fun e w' => e = .returned (.tuple #[]) ∧ Kept [b] w w' ∧ Rf w' b ao cap xs at_ c' at_ := by
 have h1 := h.c1
 have h2 := h.c2
 have h3 := h.c3
 have f2 := h.f2
 have f3 := h.f3
 have H := (show Hid (Rf w b ao cap xs at_ c p) from h)
 clear h
 go_enter Tryz.func77, Tryz.ntmps77
 go_wp2
 go_end0
 exact ⟨rfl, ((Kept.refl [b] w).setCell (by simp) _).setCell (by simp) _, H.out.refused c' at_⟩
theorem refleft_bad {w : World} {b : Nat} {ao : Option Addr} {cap : Nat} {xs : List UInt8} {at_ : Nat} {c p : Int} (h : Rf w b ao cap xs at_ c p) (he : c ≠ 0) :
  Calls Tryz.prog 39 #[.pointer (some ⟨b, 0, none⟩)] w fun e' w' => e' = .returned (.int .i64 0) ∧ ∃ n, w' = w.drewN n := by
 have h2 := h.c2
 have hne : (c != 0) = true := by simpa using he
 clear h
 go_enter Tryz.func39, Tryz.ntmps39
 go_wp2
 go_ret
 exact ⟨rfl, 0, rfl⟩
theorem refleft_ok {w : World} {b : Nat} {ao : Option Addr} {cap : Nat} {xs : List UInt8} {at_ : Nat} {p : Int} (h : Rf w b ao cap xs at_ 0 p) :
  Calls Tryz.prog 39 #[.pointer (some ⟨b, 0, none⟩)] w fun e' w' => e' = .returned (.int .i64 (xs.length - at_ : Nat)) ∧ ∃ n, w' = w.drewN n := by
 have h0 := h.c0
 have h1 := h.c1
 have h2 := h.c2
 have hs := h.small
 have hl := h.le
 have hlc := h.lc
 clear h
 go_enter Tryz.func39, Tryz.ntmps39
 go_wp2
 go_quiet (fail)
 go_wp2
 go_ret
 exact ⟨ret_int (by omega), _, rfl⟩
theorem refnum_some (b off n cap at_ : Nat) (ys : List UInt8) (w : World) (hn : at_ + ys.length = n) (hm : n <= 140737488355328) (hc : ∀ i, i < ys.length -> w.cell? ⟨b, off + (at_ + i), none⟩ = some (.int .u8 (ys.getD i 0).toNat)) :
  Calls Tryz.prog 78 #[.slice (some ⟨b, off, none⟩) n cap, .int .i64 at_] w fun e w' => e = .returned (.tuple #[.int .i64 (Pure.num ys).1, .int .i64 (Pure.num ys).2.1, .int .i64 (Pure.num ys).2.2]) ∧ w' = w := by
 have HN : Hid (at_ + ys.length = n) := hn
 have hatn : at_ <= n := by omega
 clear hn
 go_enter Tryz.func78, Tryz.ntmps78
 go_wp2
 go_loop [7, 8, 9] (fun v u i => ∃ k x z : Nat, k <= 5 ∧ i = .int .i64 k ∧ v = .int .i64 x ∧ u = .int .i64 z ∧ x < z ∧ Hid (z = 2 ^ (7 * k)) ∧ Hid (Pure.num ys = Pure.numGo ys (5 - k) k x)) (fun _ _ i => 5 - (intOf i).toNat)
 case atStart => exact ⟨0, 0, 1, by omega, rfl, rfl, rfl, by omega, rfl, rfl⟩
 case round =>
  obtain ⟨k, x, z, hk5, rfl, rfl, rfl, hxz, HZ, HR⟩ := hrel
  by_cases h5 : k = 5
  ·subst h5
   have HR' : Hid (Pure.num ys = (0, 0, 11)) := HR.out
   clear HR hc HZ
   go_wp2
   go_ret3
   exact ⟨ret_num (by rw [HR'.out]; rfl) (by rw [HR'.out]; rfl) (by rw [HR'.out]; rfl), rfl⟩
  ·obtain ⟨f, hf⟩ : ∃ f, 5 - k = f + 1 := ⟨4 - k, by omega⟩
   have hk4 : k < 5 := by omega
   have hz4 : z <= 268435456 := by rw [HZ.out]; exact Pure.pow_le4 (by omega)
   have HZ2 : Hid (z * 128 = 2 ^ (7 * (k + 1))) := by
    show _ = _
    rw [show 7 * (k + 1) = 7 * k + 7 by omega, Nat.pow_add, <-HZ.out]
   by_cases hlt : at_ + k < n
   ·have hky : k < ys.length := by have := HN.out; omega
    have hcell := hc k hky
    have hcb : (ys.getD k 0).toNat < 256 := UInt8.toNat_lt _
    clear hc
    by_cases h128 : (ys.getD k 0).toNat < 128
    ·obtain ⟨m, hmm⟩ : ∃ m, m = (ys.getD k 0).toNat * z := ⟨_, rfl⟩
     have hml : m <= 127 * 268435456 := by rw [hmm]; exact Nat.mul_le_mul (by omega) hz4
     have hsh : (((ys.getD k 0).toNat : Int) * (z : Int)) = (m : Int) := by rw [hmm]; simp
     have hmd : (((ys.getD k 0).toNat : Int) % 128) = ((ys.getD k 0).toNat : Int) := by omega
     by_cases hbad : 2147483647 < x + m ∨ (0 < k ∧ (ys.getD k 0).toNat = 0)
     ·have HR' : Hid (Pure.num ys = (0, 0, 11)) := by
       have := HR.out
       rw [hf, Pure.numGo_bad hky h128 (by rw [<-HZ.out, <-hmm]; exact hbad)] at this
       exact this
      clear HR hmm hf hky HZ HZ2
      generalize (ys.getD k 0).toNat = c at hcell hcb h128 hsh hbad hmd
      by_cases hz : c = 0 ∧ 0 < k
      ·obtain ⟨rfl, hk0⟩ := hz
       obtain rfl : m = 0 := by simp at hsh; omega
       clear hbad hmd hsh
       go_wp2
       go_ret3
       exact ⟨ret_num (by rw [HR'.out]; rfl) (by rw [HR'.out]; rfl) (by rw [HR'.out]; rfl), rfl⟩
      ·have hbig : 2147483647 < x + m := by omega
       by_cases hc0 : c = 0
       ·subst hc0
        obtain rfl : k = 0 := by omega
        obtain rfl : m = 0 := by simp at hsh; omega
        omega
       ·have b0 : ((c : Int) == 0) = false := by simp; omega
        clear hbad hz
        go_wp2
        go_ret3
        exact ⟨ret_num (by rw [HR'.out]; rfl) (by rw [HR'.out]; rfl) (by rw [HR'.out]; rfl), rfl⟩
     ·have HR' : Hid (Pure.num ys = (x + m, k + 1, 0)) := by
       have := HR.out
       rw [hf, Pure.numGo_good hky h128 (by rw [<-HZ.out, <-hmm]; exact hbad), <-HZ.out, <-hmm] at this
       exact this
      clear HR hmm hf hky HZ HZ2
      generalize (ys.getD k 0).toNat = c at hcell hcb h128 hsh hbad hmd
      have hsm : x + m <= 2147483647 := by omega
      by_cases hk0 : 0 < k
      ·have hc0 : ((c : Int) == 0) = false := by simp; omega
       clear hbad
       go_wp2
       go_ret3
       exact ⟨ret_num (by rw [HR'.out]; simp) (by rw [HR'.out]; simp) (by rw [HR'.out]; rfl), rfl⟩
      ·clear hbad
       by_cases hc0 : c = 0
       ·subst hc0
        obtain rfl : m = 0 := by simp at hsh; omega
        clear hsh hmd
        go_wp2
        go_ret3
        exact ⟨ret_num (by rw [HR'.out]; simp) (by rw [HR'.out]; simp) (by rw [HR'.out]; rfl), rfl⟩
       ·have b0 : ((c : Int) == 0) = false := by simp; omega
        go_wp2
        go_ret3
        exact ⟨ret_num (by rw [HR'.out]; simp) (by rw [HR'.out]; simp) (by rw [HR'.out]; rfl), rfl⟩
    ·obtain ⟨m, hmm⟩ : ∃ m, m = ((ys.getD k 0).toNat - 128) * z := ⟨_, rfl⟩
     have hml : m <= 127 * 268435456 := by rw [hmm]; exact Nat.mul_le_mul (by omega) hz4
     have hml2 : m <= 127 * z := by rw [hmm]; exact Nat.mul_le_mul (by omega) (Nat.le_refl _)
     obtain ⟨d, hd⟩ : ∃ d, d = (ys.getD k 0).toNat - 128 := ⟨_, rfl⟩
     have hmd : (((ys.getD k 0).toNat : Int) % 128) = (d : Int) := by omega
     have hsh : ((d : Int) * (z : Int)) = (m : Int) := by rw [hmm, hd]; simp
     have HR' : Hid (Pure.num ys = Pure.numGo ys (5 - (k + 1)) (k + 1) (x + m)) := by
      have := HR.out
      rw [hf, Pure.numGo_more hky h128, <-HZ.out, <-hmm] at this
      rw [show 5 - (k + 1) = f by omega]
      exact this
     have hd2 : d <= 127 := by omega
     clear HR hmm hf hd hky HZ
     generalize (ys.getD k 0).toNat = c at hcell hcb h128 hmd
     go_wp2
     go_round
     case rel => exact ⟨k + 1, x + m, z * 128, by omega, by go_num, by go_num, by go_num, by omega, HZ2, HR'⟩
     case measure => simp [intOf]; omega
   ·have HR' : Hid (Pure.num ys = (0, 0, 10)) := by
     have := HR.out
     rw [hf, Pure.numGo_short (by have := HN.out; omega)] at this
     exact this
    clear HR hc hf HZ HZ2
    go_wp2
    go_ret3
    exact ⟨ret_num (by rw [HR'.out]; rfl) (by rw [HR'.out]; rfl) (by rw [HR'.out]; rfl), rfl⟩
theorem refnum_none (ao : Option Addr) (cap : Nat) (w : World) :
  Calls Tryz.prog 78 #[.slice ao 0 cap, .int .i64 0] w fun e w' => e = .returned (.tuple #[.int .i64 (Pure.num []).1, .int .i64 (Pure.num []).2.1, .int .i64 (Pure.num []).2.2]) ∧ w' = w := by
 go_enter Tryz.func78, Tryz.ntmps78
 go_wp2
 go_loop [7, 8, 9] (fun v u i => i = .int .i64 0 ∧ v = .int .i64 0 ∧ u = .int .i64 1) (fun _ _ i => 0)
 case atStart => exact ⟨rfl, rfl, rfl⟩
 case round =>
  obtain ⟨rfl, rfl, rfl⟩ := hrel
  go_wp2
  go_ret3
  exact ⟨ret_num rfl rfl rfl, rfl⟩
theorem refnum_any (ao : Option Addr) (n cap at_ : Nat) (xs : List UInt8) (w : World) (hn : xs.length = n) (hat : at_ <= n) (hm : n <= 140737488355328) (h : Sl w ao xs) {v k c : Nat} (hr : Pure.num (xs.drop at_) = (v, k, c)) :
  Calls Tryz.prog 78 #[.slice ao n cap, .int .i64 at_] w fun e w' => e = .returned (.tuple #[.int .i64 v, .int .i64 k, .int .i64 c]) ∧ w' = w := by
 by_cases h0 : xs = []
 ·subst h0
  obtain rfl : n = 0 := by simpa using hn.symm
  obtain rfl : at_ = 0 := by omega
  have := refnum_none ao cap w
  rw [show (List.drop 0 ([] : List UInt8)) = [] from rfl] at hr
  rw [hr] at this
  exact this
 ·obtain ⟨b, off, rfl, hb, hc⟩ := h.open h0
  have := refnum_some b off n cap at_ (xs.drop at_) w (by simp; omega) hm (fun i hi => by
   simp only [List.length_drop] at hi
   rw [hc (at_ + i) (by omega)]
   simp [List.getElem?_drop])
  rw [hr] at this
  exact this
end

section
theorem takenum_bad {w : World} {b : Nat} {ao : Option Addr} {cap : Nat} {xs : List UInt8} {at_ : Nat} {c p : Int} (h : Rf w b ao cap xs at_ c p) (he : c ≠ 0) :
  Calls Tryz.prog 34 #[.pointer (some ⟨b, 0, none⟩)] w fun e' w' => e' = .returned (.int .i64 0) ∧ w' = w := by
 have h2 := h.c2
 have hne : (c != 0) = true := by simpa using he
 clear h
 go_enter Tryz.func34, Tryz.ntmps34
 go_wp2
 go_ret
 exact ⟨rfl, rfl⟩
theorem takenum_as {w : World} {b : Nat} {ao : Option Addr} {cap : Nat} {xs : List UInt8} {at_ : Nat} {p : Int} (h : Rf w b ao cap xs at_ 0 p) {v k : Nat} (hr : Pure.num (xs.drop at_) = (v, k, 0)) :
  Calls Tryz.prog 34 #[.pointer (some ⟨b, 0, none⟩)] w fun e' w' => e' = .returned (.int .i64 v) ∧ Kept [b] w w' ∧ Rf w' b ao cap xs (at_ + k) 0 p := by
 have hf := Pure.num_facts (xs.drop at_)
 rw [hr] at hf
 simp only [List.length_drop] at hf
 have hk : k <= 5 ∧ at_ + k <= xs.length := by have := h.le; omega
 obtain ⟨hk5, hkn⟩ := hk
 have HR : Hid (Pure.num (xs.drop at_) = (v, k, 0)) := hr
 have h0 := h.c0
 have h1 := h.c1
 have h2 := h.c2
 have f1 := h.f1
 have hs := h.small
 have hl := h.le
 have H := (show Hid (Rf w b ao cap xs at_ 0 p) from h)
 clear h hr hf
 go_enter Tryz.func34, Tryz.ntmps34
 go_wp2
 go_quiet ((go_at_call 78; exact Calls.quiet_of_same (refnum_any ao xs.length cap at_ xs _ rfl hl hs (H.out.sl.drewN _) HR.out)))
 go_wp2
 go_ret
 refine ⟨rfl, ((Kept.refl [b] w).drewN nq).setCell (by simp) _, ?_⟩
 have := (H.out.drewN nq).moved (at_ + k) hkn
 simpa using this
theorem takenum_no {w : World} {b : Nat} {ao : Option Addr} {cap : Nat} {xs : List UInt8} {at_ : Nat} {p : Int} (h : Rf w b ao cap xs at_ 0 p) {v k c : Nat} (hr : Pure.num (xs.drop at_) = (v, k, c)) (hc : c ≠ 0) :
  Calls Tryz.prog 34 #[.pointer (some ⟨b, 0, none⟩)] w fun e' w' => e' = .returned (.int .i64 0) ∧ Kept [b] w w' ∧ Rf w' b ao cap xs at_ c at_ := by
 have HR : Hid (Pure.num (xs.drop at_) = (v, k, c)) := hr
 have hne : ((c : Int) != 0) = true := by simp [hc]
 have h0 := h.c0
 have h1 := h.c1
 have h2 := h.c2
 have hs := h.small
 have hl := h.le
 have H := (show Hid (Rf w b ao cap xs at_ 0 p) from h)
 clear h hr hc
 go_enter Tryz.func34, Tryz.ntmps34
 go_wp2
 go_quiet ((go_at_call 78; exact Calls.quiet_of_same (refnum_any ao xs.length cap at_ xs _ rfl hl hs (H.out.sl.drewN _) HR.out)))
 go_wp2_with (go_at_call 77; refine (spoil_any (H.out.drewN _) _).mono ?_; rintro e w1 ⟨rfl, hk1, hr1⟩)
 go_ret
 exact ⟨rfl, ((Kept.refl [b] w).drewN nq).tr hk1, hr1⟩
theorem takefix_bad {w : World} {b : Nat} {ao : Option Addr} {cap : Nat} {xs : List UInt8} {at_ : Nat} {c p : Int} (h : Rf w b ao cap xs at_ c p) (he : c ≠ 0) (n : Int) :
  Calls Tryz.prog 33 #[.pointer (some ⟨b, 0, none⟩), .int .i64 n] w fun e' w' => e' = .returned (.int .i64 0) ∧ w' = w := by
 have h2 := h.c2
 have hne : (c != 0) = true := by simpa using he
 clear h
 go_enter Tryz.func33, Tryz.ntmps33
 go_wp2
 go_ret
 exact ⟨rfl, rfl⟩
theorem takefix_arg {w : World} {b : Nat} {ao : Option Addr} {cap : Nat} {xs : List UInt8} {at_ : Nat} {p : Int} (h : Rf w b ao cap xs at_ 0 p) (n : Int) (hn : n < 1 ∨ 4 < n) :
  Calls Tryz.prog 33 #[.pointer (some ⟨b, 0, none⟩), .int .i64 n] w fun e' w' => e' = .returned (.int .i64 0) ∧ Kept [b] w w' ∧ Rf w' b ao cap xs at_ 1 at_ := by
 have h2 := h.c2
 have H := (show Hid (Rf w b ao cap xs at_ 0 p) from h)
 clear h
 by_cases hlow : n < 1
 ·clear hn
  go_enter Tryz.func33, Tryz.ntmps33
  go_wp2_with (go_at_call 77; refine (spoil_any H.out _).mono ?_; rintro e w1 ⟨rfl, hk1, hr1⟩)
  go_ret
  exact ⟨rfl, hk1, hr1⟩
 ·have d1 : decide (n < 1) = false := by simpa using hlow
  have hhi : 4 < n := by omega
  clear hn
  go_enter Tryz.func33, Tryz.ntmps33
  go_wp2_with (go_at_call 77; refine (spoil_any H.out _).mono ?_; rintro e w1 ⟨rfl, hk1, hr1⟩)
  go_ret
  exact ⟨rfl, hk1, hr1⟩
theorem takefix_short {w : World} {b : Nat} {ao : Option Addr} {cap : Nat} {xs : List UInt8} {at_ : Nat} {p : Int} (h : Rf w b ao cap xs at_ 0 p) (n : Int) (hn0 : 1 <= n) (hn4 : n <= 4) (hn : (xs.length - at_ : Nat) < n) :
  Calls Tryz.prog 33 #[.pointer (some ⟨b, 0, none⟩), .int .i64 n] w fun e' w' => e' = .returned (.int .i64 0) ∧ Kept [b] w w' ∧ Rf w' b ao cap xs at_ 10 at_ := by
 have h0 := h.c0
 have h1 := h.c1
 have h2 := h.c2
 have hs := h.small
 have hl := h.le
 have H := (show Hid (Rf w b ao cap xs at_ 0 p) from h)
 clear h
 go_enter Tryz.func33, Tryz.ntmps33
 go_wp2
 go_quiet (fail)
 go_wp2_with (go_at_call 77; refine (spoil_any (H.out.drewN _) _).mono ?_; rintro e w1 ⟨rfl, hk1, hr1⟩)
 go_ret
 exact ⟨rfl, ((Kept.refl [b] w).drewN nq).tr hk1, hr1⟩
end

end Go.Proofs.YtmklodligplbaabGreat
